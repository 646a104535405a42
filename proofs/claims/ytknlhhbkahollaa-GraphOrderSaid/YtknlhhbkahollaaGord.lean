/- GraphOrder: for any tape of numbers: of the configuration that is made of it, depending goes both ways, each depends on itself, a channel's ends depend, what sways is reached, reaching goes on, and what is free does not depend; chapter 7's runs are as they must be. -/
import Derived.Test.YtknlhhbkahollaaLow2
import Derived.Test.YtknlhhbkahollaaCbox
import Derived.Test.YtknlhhbkahollaaGswa
import Derived.Test.YtknlhhbkahollaaGfre
import Derived.Test.YtknlhhbkahollaaGkno
namespace Go.Proofs.Ytknlhhbkahollaa.graphOrder
open Go.ChangeShapes Go.WideShapes Go.ChangeAt Go.RowKit Tab
set_option linter.unusedSimpArgs false
set_option linter.unusedVariables false

/-- What region 2's operations yield: who depends, who sways. -/
def OrdV (ag : Value) (n : Nat) (D S : Nat → Nat → Bool) (j : Nat) (v : Value) (w : World) : Prop :=
  match j with
  | 0 => v = ag
  | 1 => ∃ B g G, v = .slice (some ⟨g, 0, none⟩) n n ∧ Mat w B g n n G D
  | 2 => v = ag
  | 3 => ∃ B g G, v = .slice (some ⟨g, 0, none⟩) n n ∧ Mat w B g n n G S
  | 4 => ∃ B g G, v = .slice (some ⟨g, 0, none⟩) n n ∧ Mat w B g n n G D
  | 5 => ∃ B g G, v = .slice (some ⟨g, 0, none⟩) n n ∧ Mat w B g n n G S
  | _ => True
theorem OrdV.on {ag : Value} {n : Nat} {D S : Nat → Nat → Bool} {w w' : World} (hb : Below w.heap.size w w') (j : Nat) (v : Value) (h : OrdV ag n D S j v w) : OrdV ag n D S j v w' := by
  unfold OrdV at h ⊢
  split at h
  case h_2 => obtain ⟨B, g, G, h1, h2⟩ := h; exact ⟨B, g, G, h1, h2.on hb⟩
  case h_4 => obtain ⟨B, g, G, h1, h2⟩ := h; exact ⟨B, g, G, h1, h2.on hb⟩
  case h_5 => obtain ⟨B, g, G, h1, h2⟩ := h; exact ⟨B, g, G, h1, h2.on hb⟩
  case h_6 => obtain ⟨B, g, G, h1, h2⟩ := h; exact ⟨B, g, G, h1, h2.on hb⟩
  all_goals exact h
theorem freeF_in {P : List Pt} {C : List Ch} {x y : Nat} (hx : x < P.length) (hy : y < P.length) : freeF P C (x : Int) (y : Int) = !depF P C x y := by
  unfold freeF
  have h1 : decide ((x : Int) = -1) = false := decide_eq_false (by omega)
  have h2 : decide ((y : Int) = -1) = false := decide_eq_false (by omega)
  have h3 : inP P.length (x : Int) = true := inP_iff.2 ⟨by omega, by omega⟩
  have h4 : inP P.length (y : Int) = true := inP_iff.2 ⟨by omega, by omega⟩
  rw [h1, h2, h3, h4]
  simp
set_option maxRecDepth 100000 in
set_option maxHeartbeats 8000000 in
theorem walk (A0 : Option Addr) (n0 k0 : Nat) (f0 : Nat → Int) (w : World) (r0 : RdC w w.heap.size A0 n0 fun j => .int .i64 (f0 j)) (c0 : n0 ≤ k0) (b0 : k0 ≤ 140737488351232) (w0 : ∀ j, j < n0 → (Lit.int .i64 (f0 j)).wf = true) :
    Calls Try.prog 5 #[.slice A0 n0 k0] w (Ans (.bool true) w) := by
  have R0 := Lib.hid r0
  clear r0 w0
  go_enter Try.func5, Try.ntmps5
  go_wp2_with fail
  refine (config_box A0 n0 k0 f0 w R0.out (by omega)).mono ?_
  rintro e w1 ⟨A1, A2, A3, n1, n2, n3, c1, c2, c3, P, C, T, rfl, hCf, q1, q2, q3, q4, q5, hco, _, _, _, _, _, hb1⟩
  have hbl := bl1 w1 (.cells #[.slice A1 n1 c1, .slice A2 n2 c2, .slice A3 n3 c3] 26)
  have hbox := box_vec w1 (.slice A1 n1 c1) (.slice A2 n2 c2) (.slice A3 n3 c3) 26
  have HCF := Lib.hid (hCf.on hbl)
  have HBW := Lib.hid (hb1.trans (hbl.mono hb1.size))
  have HBX := Lib.hid hbox
  have HCO := Lib.hid hco
  have hlen : P.length = n1 := hCf.p.len
  clear hCf hb1 hbl hbox hco R0
  go_upto_region 2 with fail
  generalize w1.alloc (.cells #[.slice A1 n1 c1, .slice A2 n2 c2, .slice A3 n3 c3] 26) = W at HCF HBW HBX ⊢
  obtain ⟨gq, hgq⟩ : ∃ gq, gq = w1.heap.size := ⟨_, rfl⟩
  rw [← hgq] at HBX ⊢
  clear hgq
  obtain ⟨m0, m1, m2⟩ := HBX.out.three
  obtain ⟨D0, hD0⟩ : ∃ D0, D0 = depF (P.map ptOf) (C.map chOf) := ⟨_, rfl⟩
  obtain ⟨S, hS0⟩ : ∃ S, S = swayF (P.map ptOf) (C.map chOf) := ⟨_, rfl⟩
  have HD0 := Lib.hid hD0
  have HS0 := Lib.hid hS0
  refine Rgs.region (by kernel_rfl) (by kernel_rfl) (OrdV (.agg #[.slice A1 n1 c1, .slice A2 n2 c2, .slice A3 n3 c3]) n1 D0 S) (fun _ _ w' => Below W.heap.size W w') (Below.refl _ _).drew (Rgs.steps_of ?_) ?_
  · refine ⟨?_, ?_, ?_, ?_, ?_, ?_, trivial⟩
    · intro a w1 live S' E D C' h0 hk hW
      have e3 : a.eval (.tmp 3) = .pointer (some ⟨gq, 0, none⟩) := E 3 rfl
      have l0 := (hW.cell (p := ⟨gq, 0, none⟩) (World.block_lt_of_cell? _ _ m0)).trans m0
      have l1 := (hW.cell (p := ⟨gq, 1, none⟩) (World.block_lt_of_cell? _ _ m1)).trans m1
      have l2 := (hW.cell (p := ⟨gq, 2, none⟩) (World.block_lt_of_cell? _ _ m2)).trans m2
      exact Rgs.val rfl (Reg.wanted_free rfl) (.agg #[.slice A1 n1 c1, .slice A2 n2 c2, .slice A3 n3 c3]) (by have c := Reg.consts a; generalize a.eval = ρ at *; simp [execOp, go_sem, c.1, c.2, e3, l0, l1, l2]) rfl hW
    · intro a w1 live S' E D C' h0 hk hW
      have d0 : a.eval (.tmp 18) = .agg #[.slice A1 n1 c1, .slice A2 n2 c2, .slice A3 n3 c3] := D 0 rfl _ _ rfl rfl
      refine Rgs.call rfl (Reg.wanted_free rfl) 16 #[.agg #[.slice A1 n1 c1, .slice A2 n2 c2, .slice A3 n3 c3]] (by have c := Reg.consts a; generalize a.eval = ρ at *; simp [execOp, go_sem, c.1, c.2, d0]) ?_
      refine (depends_any A1 A2 A3 n1 n2 n3 c1 c2 c3 P C w1 (HCF.out.on hW) (by omega) (by omega)).mono ?_
      rintro e w5 ⟨g, G, rfl, hM, hb5⟩
      exact ⟨_, rfl, ⟨_, g, G, rfl, hD0 ▸ hM⟩, hW.trans (hb5.mono hW.size), fun j v _ h => h.on hb5 j v⟩
    · intro a w1 live S' E D C' h0 hk hW
      have e3 : a.eval (.tmp 3) = .pointer (some ⟨gq, 0, none⟩) := E 3 rfl
      have l0 := (hW.cell (p := ⟨gq, 0, none⟩) (World.block_lt_of_cell? _ _ m0)).trans m0
      have l1 := (hW.cell (p := ⟨gq, 1, none⟩) (World.block_lt_of_cell? _ _ m1)).trans m1
      have l2 := (hW.cell (p := ⟨gq, 2, none⟩) (World.block_lt_of_cell? _ _ m2)).trans m2
      exact Rgs.val rfl (Reg.wanted_free rfl) (.agg #[.slice A1 n1 c1, .slice A2 n2 c2, .slice A3 n3 c3]) (by have c := Reg.consts a; generalize a.eval = ρ at *; simp [execOp, go_sem, c.1, c.2, e3, l0, l1, l2]) rfl hW
    · intro a w1 live S' E D C' h0 hk hW
      have d2 : a.eval (.tmp 20) = .agg #[.slice A1 n1 c1, .slice A2 n2 c2, .slice A3 n3 c3] := D 2 rfl _ _ rfl rfl
      refine Rgs.call rfl (Reg.wanted_free rfl) 17 #[.agg #[.slice A1 n1 c1, .slice A2 n2 c2, .slice A3 n3 c3]] (by have c := Reg.consts a; generalize a.eval = ρ at *; simp [execOp, go_sem, c.1, c.2, d2]) ?_
      refine (sways_any A1 A2 A3 n1 n2 n3 c1 c2 c3 P C w1 (HCF.out.on hW) (by omega) (by omega)).mono ?_
      rintro e w5 ⟨g, G, rfl, hM, hb5⟩
      exact ⟨_, rfl, ⟨_, g, G, rfl, hS0 ▸ hM⟩, hW.trans (hb5.mono hW.size), fun j v _ h => h.on hb5 j v⟩
    · intro a w1 live S' E D C' h0 hk hW
      obtain ⟨B, g, G, d1, hM⟩ : OrdV (.agg #[.slice A1 n1 c1, .slice A2 n2 c2, .slice A3 n3 c3]) n1 D0 S 1 (a.eval (.tmp 19)) w1 := D 1 rfl _ _ rfl rfl
      exact Rgs.val rfl (Reg.wanted_free rfl) (.slice (some ⟨g, 0, none⟩) n1 n1) (by have c := Reg.consts a; generalize a.eval = ρ at *; simp [execOp, go_sem, c.1, c.2, d1]) ⟨B, g, G, rfl, hM⟩ hW
    · intro a w1 live S' E D C' h0 hk hW
      obtain ⟨B, g, G, d3, hM⟩ : OrdV (.agg #[.slice A1 n1 c1, .slice A2 n2 c2, .slice A3 n3 c3]) n1 D0 S 3 (a.eval (.tmp 21)) w1 := D 3 rfl _ _ rfl rfl
      exact Rgs.val rfl (Reg.wanted_free rfl) (.slice (some ⟨g, 0, none⟩) n1 n1) (by have c := Reg.consts a; generalize a.eval = ρ at *; simp [execOp, go_sem, c.1, c.2, d3]) ⟨B, g, G, rfl, hM⟩ hW
  · intro a w3 live hs hd E D Hl hW
    obtain ⟨_, ⟨B4, g4, G4, rfl, hM4⟩, e4⟩ := D 4 _ rfl
    obtain ⟨_, ⟨B5, g5, G5, rfl, hM5⟩, e5⟩ := D 5 _ rfl
    replace e4 := e4 4 rfl
    replace e5 := e5 5 rfl
    rw [Rgs.act_ws a _ _ hs hd E [18, 19, 20, 21, 4, 5] (by kernel_rfl)]
    simp only [List.foldl, List.setIfInBounds_toArray, List.set_cons_succ, List.set_cons_zero, e4, e5]
    have HM4 := Lib.hid hM4
    have HM5 := Lib.hid hM5
    have hb3 : Below W.heap.size W w3 := hW
    have HCL := Lib.hid (closure_any (some ⟨g5, 0, none⟩) n1 n1 S w3 hM5.rdm (by omega))
    clear E D Hl hW e4 e5 hM4 hM5 hD0 hS0
    generalize a.eval = ρ
    clear a hs hd m0 m1 m2
    go_wp2_with fail
    refine HCL.out.mono ?_
    rintro e w5 ⟨g6, G6, rfl, hM6, hb5⟩
    have HM6 := Lib.hid hM6
    have HM4' := Lib.hid (HM4.out.on hb5)
    have HM5' := Lib.hid (HM5.out.on hb5)
    have hb6 := hb3.trans (hb5.mono hb3.size)
    have HB6 := Lib.hid (HBW.out.trans (hb6.mono HBW.out.size))
    have HCF6 := Lib.hid (HCF.out.on hb6)
    have HBX6 := Lib.hid (HBX.out.on hb6)
    obtain ⟨m0, m1, m2⟩ := HBX6.out.three
    have HSH := Lib.hid (war_shut S n1)
    have HFROM := Lib.hid (fun x y (h : S x y = true) => war_from S n1 x y h)
    have HDS := Lib.hid (fun x y => (show D0 x y = D0 y x by rw [HD0.out]; exact depF_sym _ _ x y))
    have HDD := Lib.hid (fun x => (show D0 x x = true by rw [HD0.out]; exact depF_self _ _ x))
    have HSD := Lib.hid (fun x => (show S x x = true by rw [HS0.out]; exact swayF_self _ _ x))
    have HFR0 := Lib.hid (fun (x y : Nat) (hx : x < n1) (hy : y < n1) w' (hw : CfW w' w'.heap.size A1 A2 n1 n2 P C) => (show Calls Try.prog 18 #[.agg #[.slice A1 n1 c1, .slice A2 n2 c2, .slice A3 n3 c3], .int .i64 (x : Int), .int .i64 (y : Int)] w' (Ans (.bool (!D0 x y)) w') from by
      have h := free_any A1 A2 A3 n1 n2 n3 c1 c2 c3 P C (x : Int) (y : Int) w' hw (by omega) (by omega)
      have e : freeF (P.map ptOf) (C.map chOf) (x : Int) (y : Int) = !D0 x y := by
        rw [HD0.out]
        exact freeF_in (by rw [List.length_map, hlen]; exact hx) (by rw [List.length_map, hlen]; exact hy)
      rw [e] at h
      exact h))
    clear HM4 HM5 HCL HCF HBX hb3 hb5 hb6 hM6 HBW
    go_wp2_with fail
    clear m0 m1 m2
    go_loopw [8, 43] (fun s _ wx => ∃ i : Nat, i ≤ n1 ∧ s = .int .i64 i ∧ wx = w5) (fun s _ _ => n1 - (intOf s).toNat)
    case atStart => exact ⟨0, by omega, rfl, rfl⟩
    case round =>
      obtain ⟨i, hi, rfl, rfl⟩ := hrel
      by_cases hlt : i < n1
      · obtain ⟨x4, _, _, p4, v4⟩ := HM4'.out.row hlt (Nat.le_refl _)
        obtain ⟨x5, _, _, p5, v5⟩ := HM5'.out.row hlt (Nat.le_refl _)
        obtain ⟨x6, _, _, p6, _⟩ := HM6.out.row hlt (Nat.le_refl _)
        have u4 := v4.cell i hlt
        have u5 := v5.cell i hlt
        rw [HDD.out] at u4
        rw [HSD.out] at u5
        have hlti : (i : Int) < (n1 : Int) := by omega
        clear v4 v5
        go_wp2_with fail
        go_roundw
        case rel => exact ⟨i + 1, by omega, by go_num, by trivial⟩
        case measure => simp [intOf]; omega
      · have hge : ¬ (i : Int) < (n1 : Int) := by omega
        go_wp2_with fail
        generalize wr = w5 at *
        go_loopw [9, 10, 11, 93, 98, 151] (fun s _ _ _ _ _ wx => ∃ x : Nat, x ≤ n1 ∧ s = .int .i64 x ∧ Below w5.heap.size w5 wx) (fun s _ _ _ _ _ _ => n1 - (intOf s).toNat)
        case atStart => exact ⟨0, by omega, rfl, Below.refl _ _⟩
        case round =>
          obtain ⟨x, hx, rfl, hb⟩ := hrel
          by_cases hx : x < n1
          · have hxi : (x : Int) < (n1 : Int) := by omega
            have HBx := Lib.hid hb
            clear hb
            go_wp2_with fail
            go_loopw [10, 11, 98, 151] (fun s _ _ _ wx => ∃ y : Nat, y ≤ n1 ∧ s = .int .i64 y ∧ Below w5.heap.size w5 wx) (fun s _ _ _ _ => n1 - (intOf s).toNat)
            case atStart => exact ⟨0, by omega, rfl, HBx.out⟩
            case round =>
              obtain ⟨y, hy, rfl, hb⟩ := hrel
              clear HBx
              by_cases hy : y < n1
              · have hyi : (y : Int) < (n1 : Int) := by omega
                obtain ⟨xa, _, _, p4a, v4a⟩ := (HM4'.out.on hb).row hx (Nat.le_refl _)
                obtain ⟨xb, _, _, p4b, v4b⟩ := (HM4'.out.on hb).row hy (Nat.le_refl _)
                obtain ⟨xs, _, _, p5, v5⟩ := (HM5'.out.on hb).row hx (Nat.le_refl _)
                obtain ⟨xm, _, _, p6, v6⟩ := (HM6.out.on hb).row hx (Nat.le_refl _)
                have u4a := v4a.cell y hy
                have u4b := v4b.cell x hx
                have u5 := v5.cell y hy
                have u6 := v6.cell y hy
                rw [HDS.out y x] at u4b
                have hfrom := HFROM.out x y
                obtain ⟨m0, m1, m2⟩ := (HBX6.out.on hb).three
                have HFR := Lib.hid fun w' (hW : Below wr.heap.size wr w') => HFR0.out x y hx hy w' ((HCF6.out.on hb).on hW)
                obtain ⟨dv, hdv⟩ : ∃ dv, dv = D0 x y := ⟨_, rfl⟩
                rw [← hdv] at u4a u4b HFR
                obtain ⟨mv, hmv⟩ : ∃ mv, mv = War S n1 x y := ⟨_, rfl⟩
                rw [← hmv] at u6 hfrom
                have hdv1 : (dv != dv) = false := by cases dv <;> rfl
                have hdv2 : ((!dv) == dv) = false := by cases dv <;> rfl
                have HLT : Hid (x < n1 ∧ y < n1 ∧ (x : Int) < (n1 : Int) ∧ (y : Int) < (n1 : Int)) := Lib.hid ⟨hx, hy, hxi, hyi⟩
                have HB := Lib.hid hb
                clear v4a v4b v5 v6 hb hdv hmv
                go_wp2_with fail
                generalize hsv : S x y = sv at u5 hfrom
                clear hsv
                cases sv with
                | false =>
                  clear hfrom
                  refine Rgs.region (by kernel_rfl) (by kernel_rfl) (fun (j : Nat) (v : Value) (_ : World) => match j with | 0 => v = .slice (some ⟨g4, 0, none⟩) n1 n1 | 1 => v = .int .i64 (x : Int) | 2 => v = .pointer (some ⟨g4, x, none⟩) | 3 => v = .slice (some ⟨xa, 0, none⟩) n1 n1 | 4 => v = .int .i64 (y : Int) | 5 => v = .pointer (some ⟨xa, y, none⟩) | 6 => v = .bool dv | 7 => v = .slice (some ⟨g4, 0, none⟩) n1 n1 | 8 => v = .int .i64 (y : Int) | 9 => v = .pointer (some ⟨g4, y, none⟩) | 10 => v = .slice (some ⟨xb, 0, none⟩) n1 n1 | 11 => v = .int .i64 (x : Int) | 12 => v = .pointer (some ⟨xb, x, none⟩) | 13 => v = .bool dv | 14 => v = .bool false | 15 => v = .bool false | 16 => v = .slice (some ⟨g5, 0, none⟩) n1 n1 | 17 => v = .int .i64 (x : Int) | 18 => v = .pointer (some ⟨g5, x, none⟩) | 19 => v = .slice (some ⟨xs, 0, none⟩) n1 n1 | 20 => v = .int .i64 (y : Int) | 21 => v = .pointer (some ⟨xs, y, none⟩) | 22 => v = .bool false | 23 => v = .bool false | 32 => v = .bool false | 33 => v = .bool false | 34 => v = .bool false | 35 => v = .agg #[.slice A1 n1 c1, .slice A2 n2 c2, .slice A3 n3 c3] | 36 => v = .int .i64 (x : Int) | 37 => v = .int .i64 (y : Int) | 38 => v = .bool (!dv) | 39 => v = .slice (some ⟨g4, 0, none⟩) n1 n1 | 40 => v = .int .i64 (x : Int) | 41 => v = .pointer (some ⟨g4, x, none⟩) | 42 => v = .slice (some ⟨xa, 0, none⟩) n1 n1 | 43 => v = .int .i64 (y : Int) | 44 => v = .pointer (some ⟨xa, y, none⟩) | 45 => v = .bool dv | 46 => v = .bool false | 47 => v = .bool false | _ => True) (fun _ _ w' => Below wr.heap.size wr w') (Below.refl _ _).drew (Rgs.steps_of ?_) ?_
                  · refine ⟨?_, ?_, ?_, ?_, ?_, ?_, ?_, ?_, ?_, ?_, ?_, ?_, ?_, ?_, ?_, ?_, ?_, ?_, ?_, ?_, ?_, ?_, ?_, ?_, ?_, ?_, ?_, ?_, ?_, ?_, ?_, ?_, ?_, ?_, ?_, ?_, ?_, ?_, ?_, ?_, ?_, ?_, ?_, ?_, ?_, ?_, ?_, ?_, trivial⟩
                    · intro a w1 live S E D C h0 hk hW
                      have e4 : a.eval (.tmp 4) = .slice (some ⟨g4, 0, none⟩) n1 n1 := E 4 rfl
                      exact Rgs.val rfl (Reg.wanted_free rfl) (.slice (some ⟨g4, 0, none⟩) n1 n1) (by have c := Reg.consts a; generalize a.eval = ρ at *; simp [execOp, go_sem, c.1, c.2, e4]) rfl hW
                    · intro a w1 live S E D C h0 hk hW
                      have e9 : a.eval (.tmp 9) = .int .i64 (x : Int) := E 9 rfl
                      exact Rgs.val rfl (Reg.wanted_free rfl) (.int .i64 (x : Int)) (by have c := Reg.consts a; generalize a.eval = ρ at *; simp [execOp, go_sem, c.1, c.2, e9]) rfl hW
                    · intro a w1 live S E D C h0 hk hW
                      have d0 : a.eval (.tmp 103) = .slice (some ⟨g4, 0, none⟩) n1 n1 := D 0 rfl _ _ rfl rfl
                      have d1 : a.eval (.tmp 104) = .int .i64 (x : Int) := D 1 rfl _ _ rfl rfl
                      have i1 := HLT.out
                      obtain ⟨i1, i2, i3, i4⟩ := i1
                      have ead := mk_add (g4) (x)
                      exact Rgs.val rfl (Reg.wanted_free rfl) (.pointer (some ⟨g4, x, none⟩)) (by have c := Reg.consts a; generalize a.eval = ρ at *; simp [execOp, go_sem, c.1, c.2, d0, d1, i1, i2, i3, i4, ead]) rfl hW
                    · intro a w1 live S E D C h0 hk hW
                      have d2 : a.eval (.tmp 105) = .pointer (some ⟨g4, x, none⟩) := D 2 rfl _ _ rfl rfl
                      have hc0 := (hW.cell (p := ⟨g4, x, none⟩) (World.block_lt_of_cell? _ _ p4a)).trans p4a
                      exact Rgs.val rfl (Reg.wanted_free rfl) (.slice (some ⟨xa, 0, none⟩) n1 n1) (by have c := Reg.consts a; generalize a.eval = ρ at *; simp [execOp, go_sem, c.1, c.2, d2, hc0]) rfl hW
                    · intro a w1 live S E D C h0 hk hW
                      have e10 : a.eval (.tmp 10) = .int .i64 (y : Int) := E 10 rfl
                      exact Rgs.val rfl (Reg.wanted_free rfl) (.int .i64 (y : Int)) (by have c := Reg.consts a; generalize a.eval = ρ at *; simp [execOp, go_sem, c.1, c.2, e10]) rfl hW
                    · intro a w1 live S E D C h0 hk hW
                      have d3 : a.eval (.tmp 106) = .slice (some ⟨xa, 0, none⟩) n1 n1 := D 3 rfl _ _ rfl rfl
                      have d4 : a.eval (.tmp 107) = .int .i64 (y : Int) := D 4 rfl _ _ rfl rfl
                      have i1 := HLT.out
                      obtain ⟨i1, i2, i3, i4⟩ := i1
                      have ead := mk_add (xa) (y)
                      exact Rgs.val rfl (Reg.wanted_free rfl) (.pointer (some ⟨xa, y, none⟩)) (by have c := Reg.consts a; generalize a.eval = ρ at *; simp [execOp, go_sem, c.1, c.2, d3, d4, i1, i2, i3, i4, ead]) rfl hW
                    · intro a w1 live S E D C h0 hk hW
                      have d5 : a.eval (.tmp 108) = .pointer (some ⟨xa, y, none⟩) := D 5 rfl _ _ rfl rfl
                      have hc0 := (hW.cell (p := ⟨xa, y, none⟩) (World.block_lt_of_cell? _ _ u4a)).trans u4a
                      exact Rgs.val rfl (Reg.wanted_free rfl) (.bool dv) (by have c := Reg.consts a; generalize a.eval = ρ at *; simp [execOp, go_sem, c.1, c.2, d5, hc0]) rfl hW
                    · intro a w1 live S E D C h0 hk hW
                      have e4 : a.eval (.tmp 4) = .slice (some ⟨g4, 0, none⟩) n1 n1 := E 4 rfl
                      exact Rgs.val rfl (Reg.wanted_free rfl) (.slice (some ⟨g4, 0, none⟩) n1 n1) (by have c := Reg.consts a; generalize a.eval = ρ at *; simp [execOp, go_sem, c.1, c.2, e4]) rfl hW
                    · intro a w1 live S E D C h0 hk hW
                      have e10 : a.eval (.tmp 10) = .int .i64 (y : Int) := E 10 rfl
                      exact Rgs.val rfl (Reg.wanted_free rfl) (.int .i64 (y : Int)) (by have c := Reg.consts a; generalize a.eval = ρ at *; simp [execOp, go_sem, c.1, c.2, e10]) rfl hW
                    · intro a w1 live S E D C h0 hk hW
                      have d7 : a.eval (.tmp 110) = .slice (some ⟨g4, 0, none⟩) n1 n1 := D 7 rfl _ _ rfl rfl
                      have d8 : a.eval (.tmp 111) = .int .i64 (y : Int) := D 8 rfl _ _ rfl rfl
                      have i1 := HLT.out
                      obtain ⟨i1, i2, i3, i4⟩ := i1
                      have ead := mk_add (g4) (y)
                      exact Rgs.val rfl (Reg.wanted_free rfl) (.pointer (some ⟨g4, y, none⟩)) (by have c := Reg.consts a; generalize a.eval = ρ at *; simp [execOp, go_sem, c.1, c.2, d7, d8, i1, i2, i3, i4, ead]) rfl hW
                    · intro a w1 live S E D C h0 hk hW
                      have d9 : a.eval (.tmp 112) = .pointer (some ⟨g4, y, none⟩) := D 9 rfl _ _ rfl rfl
                      have hc0 := (hW.cell (p := ⟨g4, y, none⟩) (World.block_lt_of_cell? _ _ p4b)).trans p4b
                      exact Rgs.val rfl (Reg.wanted_free rfl) (.slice (some ⟨xb, 0, none⟩) n1 n1) (by have c := Reg.consts a; generalize a.eval = ρ at *; simp [execOp, go_sem, c.1, c.2, d9, hc0]) rfl hW
                    · intro a w1 live S E D C h0 hk hW
                      have e9 : a.eval (.tmp 9) = .int .i64 (x : Int) := E 9 rfl
                      exact Rgs.val rfl (Reg.wanted_free rfl) (.int .i64 (x : Int)) (by have c := Reg.consts a; generalize a.eval = ρ at *; simp [execOp, go_sem, c.1, c.2, e9]) rfl hW
                    · intro a w1 live S E D C h0 hk hW
                      have d10 : a.eval (.tmp 113) = .slice (some ⟨xb, 0, none⟩) n1 n1 := D 10 rfl _ _ rfl rfl
                      have d11 : a.eval (.tmp 114) = .int .i64 (x : Int) := D 11 rfl _ _ rfl rfl
                      have i1 := HLT.out
                      obtain ⟨i1, i2, i3, i4⟩ := i1
                      have ead := mk_add (xb) (x)
                      exact Rgs.val rfl (Reg.wanted_free rfl) (.pointer (some ⟨xb, x, none⟩)) (by have c := Reg.consts a; generalize a.eval = ρ at *; simp [execOp, go_sem, c.1, c.2, d10, d11, i1, i2, i3, i4, ead]) rfl hW
                    · intro a w1 live S E D C h0 hk hW
                      have d12 : a.eval (.tmp 115) = .pointer (some ⟨xb, x, none⟩) := D 12 rfl _ _ rfl rfl
                      have hc0 := (hW.cell (p := ⟨xb, x, none⟩) (World.block_lt_of_cell? _ _ u4b)).trans u4b
                      exact Rgs.val rfl (Reg.wanted_free rfl) (.bool dv) (by have c := Reg.consts a; generalize a.eval = ρ at *; simp [execOp, go_sem, c.1, c.2, d12, hc0]) rfl hW
                    · intro a w1 live S E D C h0 hk hW
                      have d6 : a.eval (.tmp 109) = .bool dv := D 6 rfl _ _ rfl rfl
                      have d13 : a.eval (.tmp 116) = .bool dv := D 13 rfl _ _ rfl rfl
                      exact Rgs.val rfl (Reg.wanted_free rfl) (.bool false) (by have c := Reg.consts a; generalize a.eval = ρ at *; simp [execOp, go_sem, c.1, c.2, d6, d13, hdv1, hdv2]) rfl hW
                    · intro a w1 live S E D C h0 hk hW
                      have d14 : a.eval (.tmp 117) = .bool false := D 14 rfl _ _ rfl rfl
                      exact Rgs.val rfl (Reg.wanted_free rfl) (.bool false) (by have c := Reg.consts a; generalize a.eval = ρ at *; simp [execOp, go_sem, c.1, c.2, d14]) rfl hW
                    · intro a w1 live S E D C h0 hk hW
                      have dg : a.eval (.tmp 118) = .bool false := D 15 rfl _ _ rfl rfl
                      have e5 : a.eval (.tmp 5) = .slice (some ⟨g5, 0, none⟩) n1 n1 := E 5 rfl
                      exact Rgs.val rfl (Reg.wanted_if rfl rfl dg rfl) (.slice (some ⟨g5, 0, none⟩) n1 n1) (by have c := Reg.consts a; generalize a.eval = ρ at *; simp [execOp, go_sem, c.1, c.2, e5]) rfl hW
                    · intro a w1 live S E D C h0 hk hW
                      have dg : a.eval (.tmp 118) = .bool false := D 15 rfl _ _ rfl rfl
                      have e9 : a.eval (.tmp 9) = .int .i64 (x : Int) := E 9 rfl
                      exact Rgs.val rfl (Reg.wanted_if rfl rfl dg rfl) (.int .i64 (x : Int)) (by have c := Reg.consts a; generalize a.eval = ρ at *; simp [execOp, go_sem, c.1, c.2, e9]) rfl hW
                    · intro a w1 live S E D C h0 hk hW
                      have dg : a.eval (.tmp 118) = .bool false := D 15 rfl _ _ rfl rfl
                      have d16 : a.eval (.tmp 119) = .slice (some ⟨g5, 0, none⟩) n1 n1 := D 16 rfl _ _ rfl rfl
                      have d17 : a.eval (.tmp 120) = .int .i64 (x : Int) := D 17 rfl _ _ rfl rfl
                      have i1 := HLT.out
                      obtain ⟨i1, i2, i3, i4⟩ := i1
                      have ead := mk_add (g5) (x)
                      exact Rgs.val rfl (Reg.wanted_if rfl rfl dg rfl) (.pointer (some ⟨g5, x, none⟩)) (by have c := Reg.consts a; generalize a.eval = ρ at *; simp [execOp, go_sem, c.1, c.2, d16, d17, i1, i2, i3, i4, ead]) rfl hW
                    · intro a w1 live S E D C h0 hk hW
                      have dg : a.eval (.tmp 118) = .bool false := D 15 rfl _ _ rfl rfl
                      have d18 : a.eval (.tmp 121) = .pointer (some ⟨g5, x, none⟩) := D 18 rfl _ _ rfl rfl
                      have hc0 := (hW.cell (p := ⟨g5, x, none⟩) (World.block_lt_of_cell? _ _ p5)).trans p5
                      exact Rgs.val rfl (Reg.wanted_if rfl rfl dg rfl) (.slice (some ⟨xs, 0, none⟩) n1 n1) (by have c := Reg.consts a; generalize a.eval = ρ at *; simp [execOp, go_sem, c.1, c.2, d18, hc0]) rfl hW
                    · intro a w1 live S E D C h0 hk hW
                      have dg : a.eval (.tmp 118) = .bool false := D 15 rfl _ _ rfl rfl
                      have e10 : a.eval (.tmp 10) = .int .i64 (y : Int) := E 10 rfl
                      exact Rgs.val rfl (Reg.wanted_if rfl rfl dg rfl) (.int .i64 (y : Int)) (by have c := Reg.consts a; generalize a.eval = ρ at *; simp [execOp, go_sem, c.1, c.2, e10]) rfl hW
                    · intro a w1 live S E D C h0 hk hW
                      have dg : a.eval (.tmp 118) = .bool false := D 15 rfl _ _ rfl rfl
                      have d19 : a.eval (.tmp 122) = .slice (some ⟨xs, 0, none⟩) n1 n1 := D 19 rfl _ _ rfl rfl
                      have d20 : a.eval (.tmp 123) = .int .i64 (y : Int) := D 20 rfl _ _ rfl rfl
                      have i1 := HLT.out
                      obtain ⟨i1, i2, i3, i4⟩ := i1
                      have ead := mk_add (xs) (y)
                      exact Rgs.val rfl (Reg.wanted_if rfl rfl dg rfl) (.pointer (some ⟨xs, y, none⟩)) (by have c := Reg.consts a; generalize a.eval = ρ at *; simp [execOp, go_sem, c.1, c.2, d19, d20, i1, i2, i3, i4, ead]) rfl hW
                    · intro a w1 live S E D C h0 hk hW
                      have dg : a.eval (.tmp 118) = .bool false := D 15 rfl _ _ rfl rfl
                      have d21 : a.eval (.tmp 124) = .pointer (some ⟨xs, y, none⟩) := D 21 rfl _ _ rfl rfl
                      have hc0 := (hW.cell (p := ⟨xs, y, none⟩) (World.block_lt_of_cell? _ _ u5)).trans u5
                      exact Rgs.val rfl (Reg.wanted_if rfl rfl dg rfl) (.bool false) (by have c := Reg.consts a; generalize a.eval = ρ at *; simp [execOp, go_sem, c.1, c.2, d21, hc0]) rfl hW
                    · intro a w1 live S E D C h0 hk hW
                      have dg : a.eval (.tmp 118) = .bool false := D 15 rfl _ _ rfl rfl
                      have d22 : a.eval (.tmp 125) = .bool false := D 22 rfl _ _ rfl rfl
                      exact Rgs.val rfl (Reg.wanted_if rfl rfl dg rfl) (.bool false) (by have c := Reg.consts a; generalize a.eval = ρ at *; simp [execOp, go_sem, c.1, c.2, d22]) rfl hW
                    · intro a w1 live S E D C h0 hk hW
                      have dg : a.eval (.tmp 126) = .bool false := D 23 rfl _ _ rfl rfl
                      exact Rgs.skip rfl (Rgs.wanted_not rfl rfl dg rfl) trivial hW
                    · intro a w1 live S E D C h0 hk hW
                      have dg : a.eval (.tmp 126) = .bool false := D 23 rfl _ _ rfl rfl
                      exact Rgs.skip rfl (Rgs.wanted_not rfl rfl dg rfl) trivial hW
                    · intro a w1 live S E D C h0 hk hW
                      have dg : a.eval (.tmp 126) = .bool false := D 23 rfl _ _ rfl rfl
                      exact Rgs.skip rfl (Rgs.wanted_not rfl rfl dg rfl) trivial hW
                    · intro a w1 live S E D C h0 hk hW
                      have dg : a.eval (.tmp 126) = .bool false := D 23 rfl _ _ rfl rfl
                      exact Rgs.skip rfl (Rgs.wanted_not rfl rfl dg rfl) trivial hW
                    · intro a w1 live S E D C h0 hk hW
                      have dg : a.eval (.tmp 126) = .bool false := D 23 rfl _ _ rfl rfl
                      exact Rgs.skip rfl (Rgs.wanted_not rfl rfl dg rfl) trivial hW
                    · intro a w1 live S E D C h0 hk hW
                      have dg : a.eval (.tmp 126) = .bool false := D 23 rfl _ _ rfl rfl
                      exact Rgs.skip rfl (Rgs.wanted_not rfl rfl dg rfl) trivial hW
                    · intro a w1 live S E D C h0 hk hW
                      have dg : a.eval (.tmp 126) = .bool false := D 23 rfl _ _ rfl rfl
                      exact Rgs.skip rfl (Rgs.wanted_not rfl rfl dg rfl) trivial hW
                    · intro a w1 live S E D C h0 hk hW
                      have dg : a.eval (.tmp 126) = .bool false := D 23 rfl _ _ rfl rfl
                      exact Rgs.skip rfl (Rgs.wanted_not rfl rfl dg rfl) trivial hW
                    · intro a w1 live S E D C h0 hk hW
                      have dg : a.eval (.tmp 118) = .bool false := D 15 rfl _ _ rfl rfl
                      have d23 : a.eval (.tmp 126) = .bool false := D 23 rfl _ _ rfl rfl
                      exact Rgs.val rfl (Reg.wanted_if rfl rfl dg rfl) (.bool false) (by have c := Reg.consts a; generalize a.eval = ρ at *; simp [execOp, go_sem, c.1, c.2, d23]) rfl hW
                    · intro a w1 live S E D C h0 hk hW
                      have d15 : a.eval (.tmp 118) = .bool false := D 15 rfl _ _ rfl rfl
                      have d32 : a.eval (.tmp 135) = .bool false := D 32 rfl _ _ rfl rfl
                      exact Rgs.val rfl (Reg.wanted_free rfl) (.bool false) (by have c := Reg.consts a; generalize a.eval = ρ at *; simp [execOp, go_sem, c.1, c.2, d15, d32]) rfl hW
                    · intro a w1 live S E D C h0 hk hW
                      have d33 : a.eval (.tmp 136) = .bool false := D 33 rfl _ _ rfl rfl
                      exact Rgs.val rfl (Reg.wanted_free rfl) (.bool false) (by have c := Reg.consts a; generalize a.eval = ρ at *; simp [execOp, go_sem, c.1, c.2, d33]) rfl hW
                    · intro a w1 live S E D C h0 hk hW
                      have dg : a.eval (.tmp 137) = .bool false := D 34 rfl _ _ rfl rfl
                      have e3 : a.eval (.tmp 3) = .pointer (some ⟨gq, 0, none⟩) := E 3 rfl
                      have hc0 := (hW.cell (p := ⟨gq, 0, none⟩) (World.block_lt_of_cell? _ _ m0)).trans m0
                      have hc1 := (hW.cell (p := ⟨gq, 1, none⟩) (World.block_lt_of_cell? _ _ m1)).trans m1
                      have hc2 := (hW.cell (p := ⟨gq, 2, none⟩) (World.block_lt_of_cell? _ _ m2)).trans m2
                      exact Rgs.val rfl (Reg.wanted_if rfl rfl dg rfl) (.agg #[.slice A1 n1 c1, .slice A2 n2 c2, .slice A3 n3 c3]) (by have c := Reg.consts a; generalize a.eval = ρ at *; simp [execOp, go_sem, c.1, c.2, e3, hc0, hc1, hc2]) rfl hW
                    · intro a w1 live S E D C h0 hk hW
                      have dg : a.eval (.tmp 137) = .bool false := D 34 rfl _ _ rfl rfl
                      have e9 : a.eval (.tmp 9) = .int .i64 (x : Int) := E 9 rfl
                      exact Rgs.val rfl (Reg.wanted_if rfl rfl dg rfl) (.int .i64 (x : Int)) (by have c := Reg.consts a; generalize a.eval = ρ at *; simp [execOp, go_sem, c.1, c.2, e9]) rfl hW
                    · intro a w1 live S E D C h0 hk hW
                      have dg : a.eval (.tmp 137) = .bool false := D 34 rfl _ _ rfl rfl
                      have e10 : a.eval (.tmp 10) = .int .i64 (y : Int) := E 10 rfl
                      exact Rgs.val rfl (Reg.wanted_if rfl rfl dg rfl) (.int .i64 (y : Int)) (by have c := Reg.consts a; generalize a.eval = ρ at *; simp [execOp, go_sem, c.1, c.2, e10]) rfl hW
                    · intro a w1 live S E D C h0 hk hW
                      have dg : a.eval (.tmp 137) = .bool false := D 34 rfl _ _ rfl rfl
                      have d35 : a.eval (.tmp 138) = .agg #[.slice A1 n1 c1, .slice A2 n2 c2, .slice A3 n3 c3] := D 35 rfl _ _ rfl rfl
                      have d36 : a.eval (.tmp 139) = .int .i64 (x : Int) := D 36 rfl _ _ rfl rfl
                      have d37 : a.eval (.tmp 140) = .int .i64 (y : Int) := D 37 rfl _ _ rfl rfl
                      refine Rgs.call rfl (Reg.wanted_if rfl rfl dg rfl) 18 #[.agg #[.slice A1 n1 c1, .slice A2 n2 c2, .slice A3 n3 c3], .int .i64 (x : Int), .int .i64 (y : Int)] (by have c := Reg.consts a; generalize a.eval = ρ at *; simp [execOp, go_sem, c.1, c.2, d35, d36, d37]) ?_
                      refine (HFR.out w1 hW).mono ?_
                      rintro e w5 ⟨rfl, hb5⟩
                      exact ⟨_, rfl, rfl, hW.trans (hb5.mono hW.size), fun j v _ h => h⟩
                    · intro a w1 live S E D C h0 hk hW
                      have dg : a.eval (.tmp 137) = .bool false := D 34 rfl _ _ rfl rfl
                      have e4 : a.eval (.tmp 4) = .slice (some ⟨g4, 0, none⟩) n1 n1 := E 4 rfl
                      exact Rgs.val rfl (Reg.wanted_if rfl rfl dg rfl) (.slice (some ⟨g4, 0, none⟩) n1 n1) (by have c := Reg.consts a; generalize a.eval = ρ at *; simp [execOp, go_sem, c.1, c.2, e4]) rfl hW
                    · intro a w1 live S E D C h0 hk hW
                      have dg : a.eval (.tmp 137) = .bool false := D 34 rfl _ _ rfl rfl
                      have e9 : a.eval (.tmp 9) = .int .i64 (x : Int) := E 9 rfl
                      exact Rgs.val rfl (Reg.wanted_if rfl rfl dg rfl) (.int .i64 (x : Int)) (by have c := Reg.consts a; generalize a.eval = ρ at *; simp [execOp, go_sem, c.1, c.2, e9]) rfl hW
                    · intro a w1 live S E D C h0 hk hW
                      have dg : a.eval (.tmp 137) = .bool false := D 34 rfl _ _ rfl rfl
                      have d39 : a.eval (.tmp 142) = .slice (some ⟨g4, 0, none⟩) n1 n1 := D 39 rfl _ _ rfl rfl
                      have d40 : a.eval (.tmp 143) = .int .i64 (x : Int) := D 40 rfl _ _ rfl rfl
                      have i1 := HLT.out
                      obtain ⟨i1, i2, i3, i4⟩ := i1
                      have ead := mk_add (g4) (x)
                      exact Rgs.val rfl (Reg.wanted_if rfl rfl dg rfl) (.pointer (some ⟨g4, x, none⟩)) (by have c := Reg.consts a; generalize a.eval = ρ at *; simp [execOp, go_sem, c.1, c.2, d39, d40, i1, i2, i3, i4, ead]) rfl hW
                    · intro a w1 live S E D C h0 hk hW
                      have dg : a.eval (.tmp 137) = .bool false := D 34 rfl _ _ rfl rfl
                      have d41 : a.eval (.tmp 144) = .pointer (some ⟨g4, x, none⟩) := D 41 rfl _ _ rfl rfl
                      have hc0 := (hW.cell (p := ⟨g4, x, none⟩) (World.block_lt_of_cell? _ _ p4a)).trans p4a
                      exact Rgs.val rfl (Reg.wanted_if rfl rfl dg rfl) (.slice (some ⟨xa, 0, none⟩) n1 n1) (by have c := Reg.consts a; generalize a.eval = ρ at *; simp [execOp, go_sem, c.1, c.2, d41, hc0]) rfl hW
                    · intro a w1 live S E D C h0 hk hW
                      have dg : a.eval (.tmp 137) = .bool false := D 34 rfl _ _ rfl rfl
                      have e10 : a.eval (.tmp 10) = .int .i64 (y : Int) := E 10 rfl
                      exact Rgs.val rfl (Reg.wanted_if rfl rfl dg rfl) (.int .i64 (y : Int)) (by have c := Reg.consts a; generalize a.eval = ρ at *; simp [execOp, go_sem, c.1, c.2, e10]) rfl hW
                    · intro a w1 live S E D C h0 hk hW
                      have dg : a.eval (.tmp 137) = .bool false := D 34 rfl _ _ rfl rfl
                      have d42 : a.eval (.tmp 145) = .slice (some ⟨xa, 0, none⟩) n1 n1 := D 42 rfl _ _ rfl rfl
                      have d43 : a.eval (.tmp 146) = .int .i64 (y : Int) := D 43 rfl _ _ rfl rfl
                      have i1 := HLT.out
                      obtain ⟨i1, i2, i3, i4⟩ := i1
                      have ead := mk_add (xa) (y)
                      exact Rgs.val rfl (Reg.wanted_if rfl rfl dg rfl) (.pointer (some ⟨xa, y, none⟩)) (by have c := Reg.consts a; generalize a.eval = ρ at *; simp [execOp, go_sem, c.1, c.2, d42, d43, i1, i2, i3, i4, ead]) rfl hW
                    · intro a w1 live S E D C h0 hk hW
                      have dg : a.eval (.tmp 137) = .bool false := D 34 rfl _ _ rfl rfl
                      have d44 : a.eval (.tmp 147) = .pointer (some ⟨xa, y, none⟩) := D 44 rfl _ _ rfl rfl
                      have hc0 := (hW.cell (p := ⟨xa, y, none⟩) (World.block_lt_of_cell? _ _ u4a)).trans u4a
                      exact Rgs.val rfl (Reg.wanted_if rfl rfl dg rfl) (.bool dv) (by have c := Reg.consts a; generalize a.eval = ρ at *; simp [execOp, go_sem, c.1, c.2, d44, hc0]) rfl hW
                    · intro a w1 live S E D C h0 hk hW
                      have dg : a.eval (.tmp 137) = .bool false := D 34 rfl _ _ rfl rfl
                      have d38 : a.eval (.tmp 141) = .bool (!dv) := D 38 rfl _ _ rfl rfl
                      have d45 : a.eval (.tmp 148) = .bool dv := D 45 rfl _ _ rfl rfl
                      exact Rgs.val rfl (Reg.wanted_if rfl rfl dg rfl) (.bool false) (by have c := Reg.consts a; generalize a.eval = ρ at *; simp [execOp, go_sem, c.1, c.2, d38, d45, hdv1, hdv2]) rfl hW
                    · intro a w1 live S E D C h0 hk hW
                      have d34 : a.eval (.tmp 137) = .bool false := D 34 rfl _ _ rfl rfl
                      have d46 : a.eval (.tmp 149) = .bool false := D 46 rfl _ _ rfl rfl
                      exact Rgs.val rfl (Reg.wanted_free rfl) (.bool false) (by have c := Reg.consts a; generalize a.eval = ρ at *; simp [execOp, go_sem, c.1, c.2, d34, d46]) rfl hW
                  · intro a w3 live hs hd E D Hl hW
                    have e150 : a.eval (.tmp 150) = .bool false := by
                      obtain ⟨v, hv, he⟩ := D 47 _ rfl
                      exact (he 150 rfl).trans hv
                    rw [Rgs.act_ws a _ _ hs hd E [103, 104, 105, 106, 107, 108, 109, 110, 111, 112, 113, 114, 115, 116, 117, 118, 119, 120, 121, 122, 123, 124, 125, 126, 127, 128, 129, 130, 131, 132, 133, 134, 135, 136, 137, 138, 139, 140, 141, 142, 143, 144, 145, 146, 147, 148, 149, 150] (by kernel_rfl)]
                    simp only [List.foldl, List.setIfInBounds_toArray, List.set_cons_succ, List.set_cons_zero, e150]
                    have HB9 := Lib.hid (HB.out.trans (hW.mono HB.out.size))
                    clear E D Hl hW e150
                    generalize a.eval = ρ
                    clear a hs hd
                    clear m0 m1 m2 p4a p4b u4a u4b p5 u5 p6 u6
                    go_wp2_with fail
                    generalize hw3 : w3 = wv at HB9 ⊢
                    go_loopw [11, 151] (fun s _ wx => ∃ z : Nat, z ≤ n1 ∧ s = .int .i64 z ∧ wx = wv) (fun s _ _ => n1 - (intOf s).toNat)
                    case atStart => exact ⟨0, by omega, rfl, rfl⟩
                    case round =>
                      obtain ⟨z, hz, rfl, rfl⟩ := hrel
                      by_cases hzn : z < n1
                      · obtain ⟨xm, _, _, p6, v6⟩ := (HM6.out.on HB9.out).row hx (Nat.le_refl _)
                        obtain ⟨xz, _, _, q6, t6⟩ := (HM6.out.on HB9.out).row hzn (Nat.le_refl _)
                        have u6 := v6.cell z hzn
                        have u7 := t6.cell y hy
                        have u8 := v6.cell y hy
                        have hsh := HSH.out x y z hx hy hzn
                        clear v6 t6
                        generalize War S n1 x z = ba at u6 hsh
                        generalize War S n1 z y = bb at u7 hsh
                        generalize War S n1 x y = bc at u8 hsh
                        have hxi : (x : Int) < (n1 : Int) := by omega
                        have hyi : (y : Int) < (n1 : Int) := by omega
                        have hzi : (z : Int) < (n1 : Int) := by omega
                        cases ba with
                        | false =>
                          clear hsh
                          go_wp2_with fail
                          go_roundw
                          case rel => exact ⟨z + 1, by omega, by go_num, by trivial⟩
                          case measure => simp [intOf]; omega
                        | true =>
                          cases bb with
                          | false =>
                            clear hsh
                            go_wp2_with fail
                            go_roundw
                            case rel => exact ⟨z + 1, by omega, by go_num, by trivial⟩
                            case measure => simp [intOf]; omega
                          | true =>
                            have hbc := hsh rfl rfl
                            subst hbc
                            clear hsh
                            go_wp2_with fail
                            go_roundw
                            case rel => exact ⟨z + 1, by omega, by go_num, by trivial⟩
                            case measure => simp [intOf]; omega
                      · have hzi : ¬ (z : Int) < (n1 : Int) := by omega
                        have HB10 := Lib.hid HB9.out
                        clear HB9
                        go_wp2_with fail
                        go_roundw
                        case rel => exact ⟨y + 1, by omega, by go_num, HB10.out⟩
                        case measure => simp [intOf]; omega
                | true =>
                  have hmt := hfrom rfl
                  subst hmt
                  clear hfrom
                  refine Rgs.region (by kernel_rfl) (by kernel_rfl) (fun (j : Nat) (v : Value) (_ : World) => match j with | 0 => v = .slice (some ⟨g4, 0, none⟩) n1 n1 | 1 => v = .int .i64 (x : Int) | 2 => v = .pointer (some ⟨g4, x, none⟩) | 3 => v = .slice (some ⟨xa, 0, none⟩) n1 n1 | 4 => v = .int .i64 (y : Int) | 5 => v = .pointer (some ⟨xa, y, none⟩) | 6 => v = .bool dv | 7 => v = .slice (some ⟨g4, 0, none⟩) n1 n1 | 8 => v = .int .i64 (y : Int) | 9 => v = .pointer (some ⟨g4, y, none⟩) | 10 => v = .slice (some ⟨xb, 0, none⟩) n1 n1 | 11 => v = .int .i64 (x : Int) | 12 => v = .pointer (some ⟨xb, x, none⟩) | 13 => v = .bool dv | 14 => v = .bool false | 15 => v = .bool false | 16 => v = .slice (some ⟨g5, 0, none⟩) n1 n1 | 17 => v = .int .i64 (x : Int) | 18 => v = .pointer (some ⟨g5, x, none⟩) | 19 => v = .slice (some ⟨xs, 0, none⟩) n1 n1 | 20 => v = .int .i64 (y : Int) | 21 => v = .pointer (some ⟨xs, y, none⟩) | 22 => v = .bool true | 23 => v = .bool true | 24 => v = .slice (some ⟨g6, 0, none⟩) n1 n1 | 25 => v = .int .i64 (x : Int) | 26 => v = .pointer (some ⟨g6, x, none⟩) | 27 => v = .slice (some ⟨xm, 0, none⟩) n1 n1 | 28 => v = .int .i64 (y : Int) | 29 => v = .pointer (some ⟨xm, y, none⟩) | 30 => v = .bool true | 31 => v = .bool false | 32 => v = .bool false | 33 => v = .bool false | 34 => v = .bool false | 35 => v = .agg #[.slice A1 n1 c1, .slice A2 n2 c2, .slice A3 n3 c3] | 36 => v = .int .i64 (x : Int) | 37 => v = .int .i64 (y : Int) | 38 => v = .bool (!dv) | 39 => v = .slice (some ⟨g4, 0, none⟩) n1 n1 | 40 => v = .int .i64 (x : Int) | 41 => v = .pointer (some ⟨g4, x, none⟩) | 42 => v = .slice (some ⟨xa, 0, none⟩) n1 n1 | 43 => v = .int .i64 (y : Int) | 44 => v = .pointer (some ⟨xa, y, none⟩) | 45 => v = .bool dv | 46 => v = .bool false | 47 => v = .bool false | _ => True) (fun _ _ w' => Below wr.heap.size wr w') (Below.refl _ _).drew (Rgs.steps_of ?_) ?_
                  · refine ⟨?_, ?_, ?_, ?_, ?_, ?_, ?_, ?_, ?_, ?_, ?_, ?_, ?_, ?_, ?_, ?_, ?_, ?_, ?_, ?_, ?_, ?_, ?_, ?_, ?_, ?_, ?_, ?_, ?_, ?_, ?_, ?_, ?_, ?_, ?_, ?_, ?_, ?_, ?_, ?_, ?_, ?_, ?_, ?_, ?_, ?_, ?_, ?_, trivial⟩
                    · intro a w1 live S E D C h0 hk hW
                      have e4 : a.eval (.tmp 4) = .slice (some ⟨g4, 0, none⟩) n1 n1 := E 4 rfl
                      exact Rgs.val rfl (Reg.wanted_free rfl) (.slice (some ⟨g4, 0, none⟩) n1 n1) (by have c := Reg.consts a; generalize a.eval = ρ at *; simp [execOp, go_sem, c.1, c.2, e4]) rfl hW
                    · intro a w1 live S E D C h0 hk hW
                      have e9 : a.eval (.tmp 9) = .int .i64 (x : Int) := E 9 rfl
                      exact Rgs.val rfl (Reg.wanted_free rfl) (.int .i64 (x : Int)) (by have c := Reg.consts a; generalize a.eval = ρ at *; simp [execOp, go_sem, c.1, c.2, e9]) rfl hW
                    · intro a w1 live S E D C h0 hk hW
                      have d0 : a.eval (.tmp 103) = .slice (some ⟨g4, 0, none⟩) n1 n1 := D 0 rfl _ _ rfl rfl
                      have d1 : a.eval (.tmp 104) = .int .i64 (x : Int) := D 1 rfl _ _ rfl rfl
                      have i1 := HLT.out
                      obtain ⟨i1, i2, i3, i4⟩ := i1
                      have ead := mk_add (g4) (x)
                      exact Rgs.val rfl (Reg.wanted_free rfl) (.pointer (some ⟨g4, x, none⟩)) (by have c := Reg.consts a; generalize a.eval = ρ at *; simp [execOp, go_sem, c.1, c.2, d0, d1, i1, i2, i3, i4, ead]) rfl hW
                    · intro a w1 live S E D C h0 hk hW
                      have d2 : a.eval (.tmp 105) = .pointer (some ⟨g4, x, none⟩) := D 2 rfl _ _ rfl rfl
                      have hc0 := (hW.cell (p := ⟨g4, x, none⟩) (World.block_lt_of_cell? _ _ p4a)).trans p4a
                      exact Rgs.val rfl (Reg.wanted_free rfl) (.slice (some ⟨xa, 0, none⟩) n1 n1) (by have c := Reg.consts a; generalize a.eval = ρ at *; simp [execOp, go_sem, c.1, c.2, d2, hc0]) rfl hW
                    · intro a w1 live S E D C h0 hk hW
                      have e10 : a.eval (.tmp 10) = .int .i64 (y : Int) := E 10 rfl
                      exact Rgs.val rfl (Reg.wanted_free rfl) (.int .i64 (y : Int)) (by have c := Reg.consts a; generalize a.eval = ρ at *; simp [execOp, go_sem, c.1, c.2, e10]) rfl hW
                    · intro a w1 live S E D C h0 hk hW
                      have d3 : a.eval (.tmp 106) = .slice (some ⟨xa, 0, none⟩) n1 n1 := D 3 rfl _ _ rfl rfl
                      have d4 : a.eval (.tmp 107) = .int .i64 (y : Int) := D 4 rfl _ _ rfl rfl
                      have i1 := HLT.out
                      obtain ⟨i1, i2, i3, i4⟩ := i1
                      have ead := mk_add (xa) (y)
                      exact Rgs.val rfl (Reg.wanted_free rfl) (.pointer (some ⟨xa, y, none⟩)) (by have c := Reg.consts a; generalize a.eval = ρ at *; simp [execOp, go_sem, c.1, c.2, d3, d4, i1, i2, i3, i4, ead]) rfl hW
                    · intro a w1 live S E D C h0 hk hW
                      have d5 : a.eval (.tmp 108) = .pointer (some ⟨xa, y, none⟩) := D 5 rfl _ _ rfl rfl
                      have hc0 := (hW.cell (p := ⟨xa, y, none⟩) (World.block_lt_of_cell? _ _ u4a)).trans u4a
                      exact Rgs.val rfl (Reg.wanted_free rfl) (.bool dv) (by have c := Reg.consts a; generalize a.eval = ρ at *; simp [execOp, go_sem, c.1, c.2, d5, hc0]) rfl hW
                    · intro a w1 live S E D C h0 hk hW
                      have e4 : a.eval (.tmp 4) = .slice (some ⟨g4, 0, none⟩) n1 n1 := E 4 rfl
                      exact Rgs.val rfl (Reg.wanted_free rfl) (.slice (some ⟨g4, 0, none⟩) n1 n1) (by have c := Reg.consts a; generalize a.eval = ρ at *; simp [execOp, go_sem, c.1, c.2, e4]) rfl hW
                    · intro a w1 live S E D C h0 hk hW
                      have e10 : a.eval (.tmp 10) = .int .i64 (y : Int) := E 10 rfl
                      exact Rgs.val rfl (Reg.wanted_free rfl) (.int .i64 (y : Int)) (by have c := Reg.consts a; generalize a.eval = ρ at *; simp [execOp, go_sem, c.1, c.2, e10]) rfl hW
                    · intro a w1 live S E D C h0 hk hW
                      have d7 : a.eval (.tmp 110) = .slice (some ⟨g4, 0, none⟩) n1 n1 := D 7 rfl _ _ rfl rfl
                      have d8 : a.eval (.tmp 111) = .int .i64 (y : Int) := D 8 rfl _ _ rfl rfl
                      have i1 := HLT.out
                      obtain ⟨i1, i2, i3, i4⟩ := i1
                      have ead := mk_add (g4) (y)
                      exact Rgs.val rfl (Reg.wanted_free rfl) (.pointer (some ⟨g4, y, none⟩)) (by have c := Reg.consts a; generalize a.eval = ρ at *; simp [execOp, go_sem, c.1, c.2, d7, d8, i1, i2, i3, i4, ead]) rfl hW
                    · intro a w1 live S E D C h0 hk hW
                      have d9 : a.eval (.tmp 112) = .pointer (some ⟨g4, y, none⟩) := D 9 rfl _ _ rfl rfl
                      have hc0 := (hW.cell (p := ⟨g4, y, none⟩) (World.block_lt_of_cell? _ _ p4b)).trans p4b
                      exact Rgs.val rfl (Reg.wanted_free rfl) (.slice (some ⟨xb, 0, none⟩) n1 n1) (by have c := Reg.consts a; generalize a.eval = ρ at *; simp [execOp, go_sem, c.1, c.2, d9, hc0]) rfl hW
                    · intro a w1 live S E D C h0 hk hW
                      have e9 : a.eval (.tmp 9) = .int .i64 (x : Int) := E 9 rfl
                      exact Rgs.val rfl (Reg.wanted_free rfl) (.int .i64 (x : Int)) (by have c := Reg.consts a; generalize a.eval = ρ at *; simp [execOp, go_sem, c.1, c.2, e9]) rfl hW
                    · intro a w1 live S E D C h0 hk hW
                      have d10 : a.eval (.tmp 113) = .slice (some ⟨xb, 0, none⟩) n1 n1 := D 10 rfl _ _ rfl rfl
                      have d11 : a.eval (.tmp 114) = .int .i64 (x : Int) := D 11 rfl _ _ rfl rfl
                      have i1 := HLT.out
                      obtain ⟨i1, i2, i3, i4⟩ := i1
                      have ead := mk_add (xb) (x)
                      exact Rgs.val rfl (Reg.wanted_free rfl) (.pointer (some ⟨xb, x, none⟩)) (by have c := Reg.consts a; generalize a.eval = ρ at *; simp [execOp, go_sem, c.1, c.2, d10, d11, i1, i2, i3, i4, ead]) rfl hW
                    · intro a w1 live S E D C h0 hk hW
                      have d12 : a.eval (.tmp 115) = .pointer (some ⟨xb, x, none⟩) := D 12 rfl _ _ rfl rfl
                      have hc0 := (hW.cell (p := ⟨xb, x, none⟩) (World.block_lt_of_cell? _ _ u4b)).trans u4b
                      exact Rgs.val rfl (Reg.wanted_free rfl) (.bool dv) (by have c := Reg.consts a; generalize a.eval = ρ at *; simp [execOp, go_sem, c.1, c.2, d12, hc0]) rfl hW
                    · intro a w1 live S E D C h0 hk hW
                      have d6 : a.eval (.tmp 109) = .bool dv := D 6 rfl _ _ rfl rfl
                      have d13 : a.eval (.tmp 116) = .bool dv := D 13 rfl _ _ rfl rfl
                      exact Rgs.val rfl (Reg.wanted_free rfl) (.bool false) (by have c := Reg.consts a; generalize a.eval = ρ at *; simp [execOp, go_sem, c.1, c.2, d6, d13, hdv1, hdv2]) rfl hW
                    · intro a w1 live S E D C h0 hk hW
                      have d14 : a.eval (.tmp 117) = .bool false := D 14 rfl _ _ rfl rfl
                      exact Rgs.val rfl (Reg.wanted_free rfl) (.bool false) (by have c := Reg.consts a; generalize a.eval = ρ at *; simp [execOp, go_sem, c.1, c.2, d14]) rfl hW
                    · intro a w1 live S E D C h0 hk hW
                      have dg : a.eval (.tmp 118) = .bool false := D 15 rfl _ _ rfl rfl
                      have e5 : a.eval (.tmp 5) = .slice (some ⟨g5, 0, none⟩) n1 n1 := E 5 rfl
                      exact Rgs.val rfl (Reg.wanted_if rfl rfl dg rfl) (.slice (some ⟨g5, 0, none⟩) n1 n1) (by have c := Reg.consts a; generalize a.eval = ρ at *; simp [execOp, go_sem, c.1, c.2, e5]) rfl hW
                    · intro a w1 live S E D C h0 hk hW
                      have dg : a.eval (.tmp 118) = .bool false := D 15 rfl _ _ rfl rfl
                      have e9 : a.eval (.tmp 9) = .int .i64 (x : Int) := E 9 rfl
                      exact Rgs.val rfl (Reg.wanted_if rfl rfl dg rfl) (.int .i64 (x : Int)) (by have c := Reg.consts a; generalize a.eval = ρ at *; simp [execOp, go_sem, c.1, c.2, e9]) rfl hW
                    · intro a w1 live S E D C h0 hk hW
                      have dg : a.eval (.tmp 118) = .bool false := D 15 rfl _ _ rfl rfl
                      have d16 : a.eval (.tmp 119) = .slice (some ⟨g5, 0, none⟩) n1 n1 := D 16 rfl _ _ rfl rfl
                      have d17 : a.eval (.tmp 120) = .int .i64 (x : Int) := D 17 rfl _ _ rfl rfl
                      have i1 := HLT.out
                      obtain ⟨i1, i2, i3, i4⟩ := i1
                      have ead := mk_add (g5) (x)
                      exact Rgs.val rfl (Reg.wanted_if rfl rfl dg rfl) (.pointer (some ⟨g5, x, none⟩)) (by have c := Reg.consts a; generalize a.eval = ρ at *; simp [execOp, go_sem, c.1, c.2, d16, d17, i1, i2, i3, i4, ead]) rfl hW
                    · intro a w1 live S E D C h0 hk hW
                      have dg : a.eval (.tmp 118) = .bool false := D 15 rfl _ _ rfl rfl
                      have d18 : a.eval (.tmp 121) = .pointer (some ⟨g5, x, none⟩) := D 18 rfl _ _ rfl rfl
                      have hc0 := (hW.cell (p := ⟨g5, x, none⟩) (World.block_lt_of_cell? _ _ p5)).trans p5
                      exact Rgs.val rfl (Reg.wanted_if rfl rfl dg rfl) (.slice (some ⟨xs, 0, none⟩) n1 n1) (by have c := Reg.consts a; generalize a.eval = ρ at *; simp [execOp, go_sem, c.1, c.2, d18, hc0]) rfl hW
                    · intro a w1 live S E D C h0 hk hW
                      have dg : a.eval (.tmp 118) = .bool false := D 15 rfl _ _ rfl rfl
                      have e10 : a.eval (.tmp 10) = .int .i64 (y : Int) := E 10 rfl
                      exact Rgs.val rfl (Reg.wanted_if rfl rfl dg rfl) (.int .i64 (y : Int)) (by have c := Reg.consts a; generalize a.eval = ρ at *; simp [execOp, go_sem, c.1, c.2, e10]) rfl hW
                    · intro a w1 live S E D C h0 hk hW
                      have dg : a.eval (.tmp 118) = .bool false := D 15 rfl _ _ rfl rfl
                      have d19 : a.eval (.tmp 122) = .slice (some ⟨xs, 0, none⟩) n1 n1 := D 19 rfl _ _ rfl rfl
                      have d20 : a.eval (.tmp 123) = .int .i64 (y : Int) := D 20 rfl _ _ rfl rfl
                      have i1 := HLT.out
                      obtain ⟨i1, i2, i3, i4⟩ := i1
                      have ead := mk_add (xs) (y)
                      exact Rgs.val rfl (Reg.wanted_if rfl rfl dg rfl) (.pointer (some ⟨xs, y, none⟩)) (by have c := Reg.consts a; generalize a.eval = ρ at *; simp [execOp, go_sem, c.1, c.2, d19, d20, i1, i2, i3, i4, ead]) rfl hW
                    · intro a w1 live S E D C h0 hk hW
                      have dg : a.eval (.tmp 118) = .bool false := D 15 rfl _ _ rfl rfl
                      have d21 : a.eval (.tmp 124) = .pointer (some ⟨xs, y, none⟩) := D 21 rfl _ _ rfl rfl
                      have hc0 := (hW.cell (p := ⟨xs, y, none⟩) (World.block_lt_of_cell? _ _ u5)).trans u5
                      exact Rgs.val rfl (Reg.wanted_if rfl rfl dg rfl) (.bool true) (by have c := Reg.consts a; generalize a.eval = ρ at *; simp [execOp, go_sem, c.1, c.2, d21, hc0]) rfl hW
                    · intro a w1 live S E D C h0 hk hW
                      have dg : a.eval (.tmp 118) = .bool false := D 15 rfl _ _ rfl rfl
                      have d22 : a.eval (.tmp 125) = .bool true := D 22 rfl _ _ rfl rfl
                      exact Rgs.val rfl (Reg.wanted_if rfl rfl dg rfl) (.bool true) (by have c := Reg.consts a; generalize a.eval = ρ at *; simp [execOp, go_sem, c.1, c.2, d22]) rfl hW
                    · intro a w1 live S E D C h0 hk hW
                      have dg : a.eval (.tmp 126) = .bool true := D 23 rfl _ _ rfl rfl
                      have e6 : a.eval (.tmp 6) = .slice (some ⟨g6, 0, none⟩) n1 n1 := E 6 rfl
                      exact Rgs.val rfl (Reg.wanted_if rfl rfl dg rfl) (.slice (some ⟨g6, 0, none⟩) n1 n1) (by have c := Reg.consts a; generalize a.eval = ρ at *; simp [execOp, go_sem, c.1, c.2, e6]) rfl hW
                    · intro a w1 live S E D C h0 hk hW
                      have dg : a.eval (.tmp 126) = .bool true := D 23 rfl _ _ rfl rfl
                      have e9 : a.eval (.tmp 9) = .int .i64 (x : Int) := E 9 rfl
                      exact Rgs.val rfl (Reg.wanted_if rfl rfl dg rfl) (.int .i64 (x : Int)) (by have c := Reg.consts a; generalize a.eval = ρ at *; simp [execOp, go_sem, c.1, c.2, e9]) rfl hW
                    · intro a w1 live S E D C h0 hk hW
                      have dg : a.eval (.tmp 126) = .bool true := D 23 rfl _ _ rfl rfl
                      have d24 : a.eval (.tmp 127) = .slice (some ⟨g6, 0, none⟩) n1 n1 := D 24 rfl _ _ rfl rfl
                      have d25 : a.eval (.tmp 128) = .int .i64 (x : Int) := D 25 rfl _ _ rfl rfl
                      have i1 := HLT.out
                      obtain ⟨i1, i2, i3, i4⟩ := i1
                      have ead := mk_add (g6) (x)
                      exact Rgs.val rfl (Reg.wanted_if rfl rfl dg rfl) (.pointer (some ⟨g6, x, none⟩)) (by have c := Reg.consts a; generalize a.eval = ρ at *; simp [execOp, go_sem, c.1, c.2, d24, d25, i1, i2, i3, i4, ead]) rfl hW
                    · intro a w1 live S E D C h0 hk hW
                      have dg : a.eval (.tmp 126) = .bool true := D 23 rfl _ _ rfl rfl
                      have d26 : a.eval (.tmp 129) = .pointer (some ⟨g6, x, none⟩) := D 26 rfl _ _ rfl rfl
                      have hc0 := (hW.cell (p := ⟨g6, x, none⟩) (World.block_lt_of_cell? _ _ p6)).trans p6
                      exact Rgs.val rfl (Reg.wanted_if rfl rfl dg rfl) (.slice (some ⟨xm, 0, none⟩) n1 n1) (by have c := Reg.consts a; generalize a.eval = ρ at *; simp [execOp, go_sem, c.1, c.2, d26, hc0]) rfl hW
                    · intro a w1 live S E D C h0 hk hW
                      have dg : a.eval (.tmp 126) = .bool true := D 23 rfl _ _ rfl rfl
                      have e10 : a.eval (.tmp 10) = .int .i64 (y : Int) := E 10 rfl
                      exact Rgs.val rfl (Reg.wanted_if rfl rfl dg rfl) (.int .i64 (y : Int)) (by have c := Reg.consts a; generalize a.eval = ρ at *; simp [execOp, go_sem, c.1, c.2, e10]) rfl hW
                    · intro a w1 live S E D C h0 hk hW
                      have dg : a.eval (.tmp 126) = .bool true := D 23 rfl _ _ rfl rfl
                      have d27 : a.eval (.tmp 130) = .slice (some ⟨xm, 0, none⟩) n1 n1 := D 27 rfl _ _ rfl rfl
                      have d28 : a.eval (.tmp 131) = .int .i64 (y : Int) := D 28 rfl _ _ rfl rfl
                      have i1 := HLT.out
                      obtain ⟨i1, i2, i3, i4⟩ := i1
                      have ead := mk_add (xm) (y)
                      exact Rgs.val rfl (Reg.wanted_if rfl rfl dg rfl) (.pointer (some ⟨xm, y, none⟩)) (by have c := Reg.consts a; generalize a.eval = ρ at *; simp [execOp, go_sem, c.1, c.2, d27, d28, i1, i2, i3, i4, ead]) rfl hW
                    · intro a w1 live S E D C h0 hk hW
                      have dg : a.eval (.tmp 126) = .bool true := D 23 rfl _ _ rfl rfl
                      have d29 : a.eval (.tmp 132) = .pointer (some ⟨xm, y, none⟩) := D 29 rfl _ _ rfl rfl
                      have hc0 := (hW.cell (p := ⟨xm, y, none⟩) (World.block_lt_of_cell? _ _ u6)).trans u6
                      exact Rgs.val rfl (Reg.wanted_if rfl rfl dg rfl) (.bool true) (by have c := Reg.consts a; generalize a.eval = ρ at *; simp [execOp, go_sem, c.1, c.2, d29, hc0]) rfl hW
                    · intro a w1 live S E D C h0 hk hW
                      have dg : a.eval (.tmp 126) = .bool true := D 23 rfl _ _ rfl rfl
                      have d30 : a.eval (.tmp 133) = .bool true := D 30 rfl _ _ rfl rfl
                      exact Rgs.val rfl (Reg.wanted_if rfl rfl dg rfl) (.bool false) (by have c := Reg.consts a; generalize a.eval = ρ at *; simp [execOp, go_sem, c.1, c.2, d30]) rfl hW
                    · intro a w1 live S E D C h0 hk hW
                      have dg : a.eval (.tmp 118) = .bool false := D 15 rfl _ _ rfl rfl
                      have d23 : a.eval (.tmp 126) = .bool true := D 23 rfl _ _ rfl rfl
                      have d31 : a.eval (.tmp 134) = .bool false := D 31 rfl _ _ rfl rfl
                      exact Rgs.val rfl (Reg.wanted_if rfl rfl dg rfl) (.bool false) (by have c := Reg.consts a; generalize a.eval = ρ at *; simp [execOp, go_sem, c.1, c.2, d23, d31]) rfl hW
                    · intro a w1 live S E D C h0 hk hW
                      have d15 : a.eval (.tmp 118) = .bool false := D 15 rfl _ _ rfl rfl
                      have d32 : a.eval (.tmp 135) = .bool false := D 32 rfl _ _ rfl rfl
                      exact Rgs.val rfl (Reg.wanted_free rfl) (.bool false) (by have c := Reg.consts a; generalize a.eval = ρ at *; simp [execOp, go_sem, c.1, c.2, d15, d32]) rfl hW
                    · intro a w1 live S E D C h0 hk hW
                      have d33 : a.eval (.tmp 136) = .bool false := D 33 rfl _ _ rfl rfl
                      exact Rgs.val rfl (Reg.wanted_free rfl) (.bool false) (by have c := Reg.consts a; generalize a.eval = ρ at *; simp [execOp, go_sem, c.1, c.2, d33]) rfl hW
                    · intro a w1 live S E D C h0 hk hW
                      have dg : a.eval (.tmp 137) = .bool false := D 34 rfl _ _ rfl rfl
                      have e3 : a.eval (.tmp 3) = .pointer (some ⟨gq, 0, none⟩) := E 3 rfl
                      have hc0 := (hW.cell (p := ⟨gq, 0, none⟩) (World.block_lt_of_cell? _ _ m0)).trans m0
                      have hc1 := (hW.cell (p := ⟨gq, 1, none⟩) (World.block_lt_of_cell? _ _ m1)).trans m1
                      have hc2 := (hW.cell (p := ⟨gq, 2, none⟩) (World.block_lt_of_cell? _ _ m2)).trans m2
                      exact Rgs.val rfl (Reg.wanted_if rfl rfl dg rfl) (.agg #[.slice A1 n1 c1, .slice A2 n2 c2, .slice A3 n3 c3]) (by have c := Reg.consts a; generalize a.eval = ρ at *; simp [execOp, go_sem, c.1, c.2, e3, hc0, hc1, hc2]) rfl hW
                    · intro a w1 live S E D C h0 hk hW
                      have dg : a.eval (.tmp 137) = .bool false := D 34 rfl _ _ rfl rfl
                      have e9 : a.eval (.tmp 9) = .int .i64 (x : Int) := E 9 rfl
                      exact Rgs.val rfl (Reg.wanted_if rfl rfl dg rfl) (.int .i64 (x : Int)) (by have c := Reg.consts a; generalize a.eval = ρ at *; simp [execOp, go_sem, c.1, c.2, e9]) rfl hW
                    · intro a w1 live S E D C h0 hk hW
                      have dg : a.eval (.tmp 137) = .bool false := D 34 rfl _ _ rfl rfl
                      have e10 : a.eval (.tmp 10) = .int .i64 (y : Int) := E 10 rfl
                      exact Rgs.val rfl (Reg.wanted_if rfl rfl dg rfl) (.int .i64 (y : Int)) (by have c := Reg.consts a; generalize a.eval = ρ at *; simp [execOp, go_sem, c.1, c.2, e10]) rfl hW
                    · intro a w1 live S E D C h0 hk hW
                      have dg : a.eval (.tmp 137) = .bool false := D 34 rfl _ _ rfl rfl
                      have d35 : a.eval (.tmp 138) = .agg #[.slice A1 n1 c1, .slice A2 n2 c2, .slice A3 n3 c3] := D 35 rfl _ _ rfl rfl
                      have d36 : a.eval (.tmp 139) = .int .i64 (x : Int) := D 36 rfl _ _ rfl rfl
                      have d37 : a.eval (.tmp 140) = .int .i64 (y : Int) := D 37 rfl _ _ rfl rfl
                      refine Rgs.call rfl (Reg.wanted_if rfl rfl dg rfl) 18 #[.agg #[.slice A1 n1 c1, .slice A2 n2 c2, .slice A3 n3 c3], .int .i64 (x : Int), .int .i64 (y : Int)] (by have c := Reg.consts a; generalize a.eval = ρ at *; simp [execOp, go_sem, c.1, c.2, d35, d36, d37]) ?_
                      refine (HFR.out w1 hW).mono ?_
                      rintro e w5 ⟨rfl, hb5⟩
                      exact ⟨_, rfl, rfl, hW.trans (hb5.mono hW.size), fun j v _ h => h⟩
                    · intro a w1 live S E D C h0 hk hW
                      have dg : a.eval (.tmp 137) = .bool false := D 34 rfl _ _ rfl rfl
                      have e4 : a.eval (.tmp 4) = .slice (some ⟨g4, 0, none⟩) n1 n1 := E 4 rfl
                      exact Rgs.val rfl (Reg.wanted_if rfl rfl dg rfl) (.slice (some ⟨g4, 0, none⟩) n1 n1) (by have c := Reg.consts a; generalize a.eval = ρ at *; simp [execOp, go_sem, c.1, c.2, e4]) rfl hW
                    · intro a w1 live S E D C h0 hk hW
                      have dg : a.eval (.tmp 137) = .bool false := D 34 rfl _ _ rfl rfl
                      have e9 : a.eval (.tmp 9) = .int .i64 (x : Int) := E 9 rfl
                      exact Rgs.val rfl (Reg.wanted_if rfl rfl dg rfl) (.int .i64 (x : Int)) (by have c := Reg.consts a; generalize a.eval = ρ at *; simp [execOp, go_sem, c.1, c.2, e9]) rfl hW
                    · intro a w1 live S E D C h0 hk hW
                      have dg : a.eval (.tmp 137) = .bool false := D 34 rfl _ _ rfl rfl
                      have d39 : a.eval (.tmp 142) = .slice (some ⟨g4, 0, none⟩) n1 n1 := D 39 rfl _ _ rfl rfl
                      have d40 : a.eval (.tmp 143) = .int .i64 (x : Int) := D 40 rfl _ _ rfl rfl
                      have i1 := HLT.out
                      obtain ⟨i1, i2, i3, i4⟩ := i1
                      have ead := mk_add (g4) (x)
                      exact Rgs.val rfl (Reg.wanted_if rfl rfl dg rfl) (.pointer (some ⟨g4, x, none⟩)) (by have c := Reg.consts a; generalize a.eval = ρ at *; simp [execOp, go_sem, c.1, c.2, d39, d40, i1, i2, i3, i4, ead]) rfl hW
                    · intro a w1 live S E D C h0 hk hW
                      have dg : a.eval (.tmp 137) = .bool false := D 34 rfl _ _ rfl rfl
                      have d41 : a.eval (.tmp 144) = .pointer (some ⟨g4, x, none⟩) := D 41 rfl _ _ rfl rfl
                      have hc0 := (hW.cell (p := ⟨g4, x, none⟩) (World.block_lt_of_cell? _ _ p4a)).trans p4a
                      exact Rgs.val rfl (Reg.wanted_if rfl rfl dg rfl) (.slice (some ⟨xa, 0, none⟩) n1 n1) (by have c := Reg.consts a; generalize a.eval = ρ at *; simp [execOp, go_sem, c.1, c.2, d41, hc0]) rfl hW
                    · intro a w1 live S E D C h0 hk hW
                      have dg : a.eval (.tmp 137) = .bool false := D 34 rfl _ _ rfl rfl
                      have e10 : a.eval (.tmp 10) = .int .i64 (y : Int) := E 10 rfl
                      exact Rgs.val rfl (Reg.wanted_if rfl rfl dg rfl) (.int .i64 (y : Int)) (by have c := Reg.consts a; generalize a.eval = ρ at *; simp [execOp, go_sem, c.1, c.2, e10]) rfl hW
                    · intro a w1 live S E D C h0 hk hW
                      have dg : a.eval (.tmp 137) = .bool false := D 34 rfl _ _ rfl rfl
                      have d42 : a.eval (.tmp 145) = .slice (some ⟨xa, 0, none⟩) n1 n1 := D 42 rfl _ _ rfl rfl
                      have d43 : a.eval (.tmp 146) = .int .i64 (y : Int) := D 43 rfl _ _ rfl rfl
                      have i1 := HLT.out
                      obtain ⟨i1, i2, i3, i4⟩ := i1
                      have ead := mk_add (xa) (y)
                      exact Rgs.val rfl (Reg.wanted_if rfl rfl dg rfl) (.pointer (some ⟨xa, y, none⟩)) (by have c := Reg.consts a; generalize a.eval = ρ at *; simp [execOp, go_sem, c.1, c.2, d42, d43, i1, i2, i3, i4, ead]) rfl hW
                    · intro a w1 live S E D C h0 hk hW
                      have dg : a.eval (.tmp 137) = .bool false := D 34 rfl _ _ rfl rfl
                      have d44 : a.eval (.tmp 147) = .pointer (some ⟨xa, y, none⟩) := D 44 rfl _ _ rfl rfl
                      have hc0 := (hW.cell (p := ⟨xa, y, none⟩) (World.block_lt_of_cell? _ _ u4a)).trans u4a
                      exact Rgs.val rfl (Reg.wanted_if rfl rfl dg rfl) (.bool dv) (by have c := Reg.consts a; generalize a.eval = ρ at *; simp [execOp, go_sem, c.1, c.2, d44, hc0]) rfl hW
                    · intro a w1 live S E D C h0 hk hW
                      have dg : a.eval (.tmp 137) = .bool false := D 34 rfl _ _ rfl rfl
                      have d38 : a.eval (.tmp 141) = .bool (!dv) := D 38 rfl _ _ rfl rfl
                      have d45 : a.eval (.tmp 148) = .bool dv := D 45 rfl _ _ rfl rfl
                      exact Rgs.val rfl (Reg.wanted_if rfl rfl dg rfl) (.bool false) (by have c := Reg.consts a; generalize a.eval = ρ at *; simp [execOp, go_sem, c.1, c.2, d38, d45, hdv1, hdv2]) rfl hW
                    · intro a w1 live S E D C h0 hk hW
                      have d34 : a.eval (.tmp 137) = .bool false := D 34 rfl _ _ rfl rfl
                      have d46 : a.eval (.tmp 149) = .bool false := D 46 rfl _ _ rfl rfl
                      exact Rgs.val rfl (Reg.wanted_free rfl) (.bool false) (by have c := Reg.consts a; generalize a.eval = ρ at *; simp [execOp, go_sem, c.1, c.2, d34, d46]) rfl hW
                  · intro a w3 live hs hd E D Hl hW
                    have e150 : a.eval (.tmp 150) = .bool false := by
                      obtain ⟨v, hv, he⟩ := D 47 _ rfl
                      exact (he 150 rfl).trans hv
                    rw [Rgs.act_ws a _ _ hs hd E [103, 104, 105, 106, 107, 108, 109, 110, 111, 112, 113, 114, 115, 116, 117, 118, 119, 120, 121, 122, 123, 124, 125, 126, 127, 128, 129, 130, 131, 132, 133, 134, 135, 136, 137, 138, 139, 140, 141, 142, 143, 144, 145, 146, 147, 148, 149, 150] (by kernel_rfl)]
                    simp only [List.foldl, List.setIfInBounds_toArray, List.set_cons_succ, List.set_cons_zero, e150]
                    have HB9 := Lib.hid (HB.out.trans (hW.mono HB.out.size))
                    clear E D Hl hW e150
                    generalize a.eval = ρ
                    clear a hs hd
                    clear m0 m1 m2 p4a p4b u4a u4b p5 u5 p6 u6
                    go_wp2_with fail
                    generalize hw3 : w3 = wv at HB9 ⊢
                    go_loopw [11, 151] (fun s _ wx => ∃ z : Nat, z ≤ n1 ∧ s = .int .i64 z ∧ wx = wv) (fun s _ _ => n1 - (intOf s).toNat)
                    case atStart => exact ⟨0, by omega, rfl, rfl⟩
                    case round =>
                      obtain ⟨z, hz, rfl, rfl⟩ := hrel
                      by_cases hzn : z < n1
                      · obtain ⟨xm, _, _, p6, v6⟩ := (HM6.out.on HB9.out).row hx (Nat.le_refl _)
                        obtain ⟨xz, _, _, q6, t6⟩ := (HM6.out.on HB9.out).row hzn (Nat.le_refl _)
                        have u6 := v6.cell z hzn
                        have u7 := t6.cell y hy
                        have u8 := v6.cell y hy
                        have hsh := HSH.out x y z hx hy hzn
                        clear v6 t6
                        generalize War S n1 x z = ba at u6 hsh
                        generalize War S n1 z y = bb at u7 hsh
                        generalize War S n1 x y = bc at u8 hsh
                        have hxi : (x : Int) < (n1 : Int) := by omega
                        have hyi : (y : Int) < (n1 : Int) := by omega
                        have hzi : (z : Int) < (n1 : Int) := by omega
                        cases ba with
                        | false =>
                          clear hsh
                          go_wp2_with fail
                          go_roundw
                          case rel => exact ⟨z + 1, by omega, by go_num, by trivial⟩
                          case measure => simp [intOf]; omega
                        | true =>
                          cases bb with
                          | false =>
                            clear hsh
                            go_wp2_with fail
                            go_roundw
                            case rel => exact ⟨z + 1, by omega, by go_num, by trivial⟩
                            case measure => simp [intOf]; omega
                          | true =>
                            have hbc := hsh rfl rfl
                            subst hbc
                            clear hsh
                            go_wp2_with fail
                            go_roundw
                            case rel => exact ⟨z + 1, by omega, by go_num, by trivial⟩
                            case measure => simp [intOf]; omega
                      · have hzi : ¬ (z : Int) < (n1 : Int) := by omega
                        have HB10 := Lib.hid HB9.out
                        clear HB9
                        go_wp2_with fail
                        go_roundw
                        case rel => exact ⟨y + 1, by omega, by go_num, HB10.out⟩
                        case measure => simp [intOf]; omega
              · have hyi : ¬ (y : Int) < (n1 : Int) := by omega
                have HBy := Lib.hid hb
                clear hb
                go_wp2_with fail
                go_roundw
                case rel => exact ⟨x + 1, by omega, by go_num, HBy.out⟩
                case measure => simp [intOf]; omega
          · have hxi : ¬ (x : Int) < (n1 : Int) := by omega
            have HBx := Lib.hid hb
            obtain ⟨m0, m1, m2⟩ := (HBX6.out.on hb).three
            clear hb
            go_wp2_with fail
            clear m0 m1 m2
            go_loopw [13, 185] (fun _ s wx => ∃ j : Nat, j ≤ n2 ∧ s = .int .i64 j ∧ Below w5.heap.size w5 wx) (fun _ s _ => n2 - (intOf s).toNat)
            case atStart => exact ⟨0, by omega, rfl, HBx.out⟩
            case round =>
              obtain ⟨j, hj, rfl, hb⟩ := hrel
              clear HBx
              by_cases hj : j < n2
              · obtain ⟨ad, x, rfl, had, hxC, c0, ck⟩ := (HCF6.out.on hb).c.at_ cc_len (by omega) hj
                have hxm := List.mem_of_getElem? hxC
                have hok := HCO.out x hxm
                have d0 := c0 _ rfl
                have d1 := ck 1 _ (by omega) rfl
                have d2 := ck 2 _ (by omega) rfl
                have d3 := ck 3 _ (by omega) rfl
                have d4 := ck 4 _ (by omega) rfl
                have d5 := ck 5 _ (by omega) rfl
                obtain ⟨xf, xt, xq, xc, xm, xl⟩ := x
                unfold ChOk at hok
                dsimp only at d0 d1 d2 d3 d4 d5 hok
                obtain ⟨f, rfl⟩ : ∃ f : Nat, xf = f := ⟨xf.toNat, by omega⟩
                obtain ⟨t, rfl⟩ : ∃ t : Nat, xt = t := ⟨xt.toNat, by omega⟩
                have hf : f < n1 := by omega
                have ht : t < n1 := by omega
                have hjo : joins (P.map ptOf).length (chOf ⟨(f : Int), (t : Int), xq, xc, xm, xl⟩) f t = true := by
                  rw [joins_iff, List.length_map, hlen, inP_iff, inP_iff]
                  exact ⟨⟨⟨hok.1, hok.2.1⟩, hok.2.2.1, hok.2.2.2⟩, rfl, rfl⟩
                have hmem : chOf ⟨(f : Int), (t : Int), xq, xc, xm, xl⟩ ∈ C.map chOf := List.mem_map_of_mem hxm
                have hd1 := (depF_chan (P := P.map ptOf) hmem hjo).1
                have hs1 := swayF_chan (P := P.map ptOf) hmem hjo
                rw [← HD0.out] at hd1
                rw [← HS0.out] at hs1
                have hs1q : xq = true → S t f = true := hs1.2
                have hs1 := hs1.1
                have hbx := bl1 wr (.cells #[.int .i64 (f : Int), .int .i64 (t : Int), .bool xq, .int .i64 xc, .int .u32 xm, .int .i64 xl] 36)
                have hb1 := hb.trans (hbx.mono hb.size)
                obtain ⟨xa, _, _, p4, v4⟩ := (HM4'.out.on hb1).row hf (Nat.le_refl _)
                obtain ⟨xs, _, _, p5, v5⟩ := (HM5'.out.on hb1).row hf (Nat.le_refl _)
                obtain ⟨xr, _, _, p6, v6⟩ := (HM5'.out.on hb1).row ht (Nat.le_refl _)
                have u4 := v4.cell t ht
                have u5 := v5.cell t ht
                have u6 := v6.cell f hf
                rw [hd1] at u4
                rw [hs1] at u5
                have h0c : (wr.alloc (.cells #[.int .i64 (f : Int), .int .i64 (t : Int), .bool xq, .int .i64 xc, .int .u32 xm, .int .i64 xl] 36)).cell? ⟨wr.heap.size, 0, none⟩ = some (.int .i64 (f : Int)) := World.cell?_alloc_mark _ _ _ _ _
                have h1c : (wr.alloc (.cells #[.int .i64 (f : Int), .int .i64 (t : Int), .bool xq, .int .i64 xc, .int .u32 xm, .int .i64 xl] 36)).cell? ⟨wr.heap.size, 1, none⟩ = some (.int .i64 (t : Int)) := World.cell?_alloc_mark _ _ _ _ _
                have h2c : (wr.alloc (.cells #[.int .i64 (f : Int), .int .i64 (t : Int), .bool xq, .int .i64 xc, .int .u32 xm, .int .i64 xl] 36)).cell? ⟨wr.heap.size, 2, none⟩ = some (.bool xq) := World.cell?_alloc_mark _ _ _ _ _
                have hfi : (f : Int) < (n1 : Int) := by omega
                have hti : (t : Int) < (n1 : Int) := by omega
                have HB1 := Lib.hid hb1
                clear v4 v5 v6 hb hb1 hbx c0 ck hxC hxm hok hjo hmem hd1 hs1
                go_upto_region 28 with fail
                generalize wr.alloc (.cells #[.int .i64 (f : Int), .int .i64 (t : Int), .bool xq, .int .i64 xc, .int .u32 xm, .int .i64 xl] 36) = wx at HB1 p4 p5 p6 u4 u5 u6 h0c h1c h2c ⊢
                generalize wr.heap.size = gx at h0c h1c h2c ⊢
                clear d0 d1 d2 d3 d4 d5
                cases xq with
                | false =>
                  clear hs1q u6 p6
                  go_quiet (fail)
                  go_wp2_with fail
                  go_roundw
                  case rel => exact ⟨j + 1, by omega, by go_num, Below.drewN HB1.out nq⟩
                  case measure => simp [intOf]; omega
                | true =>
                  rw [hs1q rfl] at u6
                  clear hs1q
                  go_quiet (fail)
                  go_wp2_with fail
                  go_roundw
                  case rel => exact ⟨j + 1, by omega, by go_num, Below.drewN HB1.out nq⟩
                  case measure => simp [intOf]; omega
              · have hji : ¬ (j : Int) < (n2 : Int) := by omega
                have HBj := Lib.hid hb
                clear hb
                go_wp2_with fail
                refine (known7_any wr).mono ?_
                rintro e w9 ⟨rfl, hb9⟩
                go_wp2_with fail
                go_ret
                have h1 := HB6.out.trans (HBj.out.mono HB6.out.size)
                exact Ans.mk rfl (h1.trans (hb9.mono h1.size))

set_option maxRecDepth 100000 in
theorem lifted (os : Os) (started : os.Started) (H : Type) (enc : TypeId × Value → H) :
    ReturnsInHanded {} Try.checked os 5 .any (Rows.graphOrderSpec.pre6 enc Try.prog Try.f5 Rows.graphOrderRow.domain false) (Rows.graphOrderSpec.post enc Try.prog Try.f5 false true false false) := by
  refine returnsInHanded_of_change_sized (C := Try.checked) own started (by kernel_rfl) Try.func5
    (ChangeSpec.witness6 (enc := enc) (C := Try.checked) false ⟨#[], #[.slice none 0 0], []⟩ 8 (by kernel_rfl) (by kernel_rfl) (by kernel_rfl) (by kernel_rfl)) ?_
  intro W base args ds gs before hval0 hW hcnd hsz0 _
  have hval : ∀ (j : Nat) t v, Try.f5.params[j]? = some t → args[j]? = some v → Value.okWide Try.prog W .any base t v := hval0
  have hW' := hW
  obtain ⟨p, q, hA0, hV, rfl, hfz, hnd⟩ := hW
  have hA : DataW.TrodAll enc Try.prog W 0 (fun _ => true) true Try.f5.params.toList args.toList ds p := hA0
  have hsz : (DataW.weightsEach Try.prog (Try.f5.params.toList ++ Rows.graphOrderSpec.plain.varTypes Try.prog) (ds ++ gs)).all (· ≤ reachBytes) = true := hsz0
  rw [Try.params5] at hA hval hsz
  obtain ⟨v0, vs0, d0, ds0, p0, q0, hargs, rfl, rfl, h0, r0⟩ := trodAll_cons hA
  obtain ⟨rfl, rfl, rfl⟩ := trodAll_nil r0
  obtain rfl : args = #[v0] := by cases args; simp_all
  obtain ⟨rfl, rfl⟩ := trodVars_none hV
  obtain ⟨A0, n0, k0, rfl⟩ := okWide_slice Try.underlying28 (hval 0 28 v0 rfl rfl)
  have t0 := h0
  have lt0 : ∀ x ∈ p0, x.block < W.heap.size := by obtain ⟨m, hm⟩ := t0; exact DataW.trod_lt m _ _ _ hm
  obtain ⟨f0, u0, c0, b0, w0⟩ := ints_sized h0 (fun elems spare e => sized_slice hsz (j := 0) (t := 28) (e := 3) rfl (by rw [← e]; rfl) Try.underlying28)
  clear hA0 hval0
  refine (walk A0 n0 k0 f0 W u0 c0 b0 w0).mono fun e W' ⟨he, bel⟩ => ?_
  subst he
  exact ⟨_, rfl, _, _, _, [], _, [], hW', trodAll_mk1 (shut_bool Try.underlying4 _), (trodAll_cons_mk (Below.trod laidOut (by kernel_rfl) (of_decide_eq_true (by kernel_rfl)) t0 bel lt0) trodAll_mk0), rfl, bel.frame _, fun h => by cases h⟩

theorem proved : Rows.GraphOrderSaid :=
  OpenClaim.holds_of_wide 5 Try.f5 rfl rfl rfl rfl rfl rfl rfl ⟨rfl, rfl, rfl, rfl, rfl⟩ rfl rfl rfl rfl rfl (by kernel_rfl) Try.func5 (by kernel_rfl)
    (of_decide_eq_true (by kernel_rfl)) (by unfold Func.isWrapper; first | (rw [if_pos (by decide +kernel)]; kernel_rfl) | (rw [if_neg (by decide +kernel)]; exact ⟨rfl, rfl⟩))
    (fun os started H enc _ => lifted os started H enc)

end Go.Proofs.Ytknlhhbkahollaa.graphOrder
