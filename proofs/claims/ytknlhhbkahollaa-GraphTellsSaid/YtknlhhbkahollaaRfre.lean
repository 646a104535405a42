/- The document's own answers to who may be turned about, who reaches whom. -/
import Derived.Test.YtknlhhbkahollaaRswa
import Derived.Test.YtknlhhbkahollaaRclo
import Derived.Test.YtknlhhbkahollaaGfre
namespace Go.Proofs.Ytknlhhbkahollaa
open Go.RowKit Tab
set_option linter.unusedSimpArgs false
set_option linter.unusedVariables false

theorem freeF_at {P : List Pt} {C : List Ch} {a b : Int} {p q d : Bool} (ha : (decide (a = -1) || inP P.length a) = p) (hb : (decide (b = -1) || inP P.length b) = q) (hd : (decide (a = -1) || decide (b = -1) || !depF P C a.toNat b.toNat) = d) : freeF P C a b = (p && q && d) := by
  unfold freeF
  rw [ha, hb, hd]
set_option maxRecDepth 100000 in
set_option maxHeartbeats 4000000 in
theorem rfree_any (A1 A2 A3 : Option Addr) (n1 n2 n3 c1 c2 c3 : Nat) (P : List PtV) (C : List ChV) (a b : Int) (w : World) (h : CfW w w.heap.size A1 A2 n1 n2 P C) (q1 : n1 ≤ 1024) (q2 : n2 ≤ 1048576) :
    Calls Try.prog 26 #[.agg #[.slice A1 n1 c1, .slice A2 n2 c2, .slice A3 n3 c3], .int .i64 a, .int .i64 b] w (Ans (.bool (freeF (P.map ptOf) (C.map chOf) a b)) w) := by
  have hlen : (P.map ptOf).length = n1 := by rw [List.length_map]; exact h.p.len
  obtain ⟨v, hv⟩ : ∃ v, v = freeF (P.map ptOf) (C.map chOf) a b := ⟨_, rfl⟩
  rw [← hv]
  have hbw := bl1 w (.cells #[.slice A1 n1 c1, .slice A2 n2 c2, .slice A3 n3 c3] 26)
  have hbox := box_vec w (.slice A1 n1 c1) (.slice A2 n2 c2) (.slice A3 n3 c3) 26
  have hCf := h.on hbw
  have HV := Lib.hid hv
  have HLEN := Lib.hid hlen
  clear h hv hlen
  go_enter Try.func26, Try.ntmps26
  go_upto_region 1 with fail
  generalize w.alloc (.cells #[.slice A1 n1 c1, .slice A2 n2 c2, .slice A3 n3 c3] 26) = W at hbw hbox hCf ⊢
  obtain ⟨gb, hgb⟩ : ∃ gb, gb = w.heap.size := ⟨_, rfl⟩
  rw [← hgb] at hbox ⊢
  have HGB := Lib.hid hgb
  have HBW := Lib.hid hbw
  have HBX := Lib.hid hbox
  have HCF := Lib.hid hCf
  clear hgb hbw hbox hCf
  have HM : Hid (∀ w', Below W.heap.size W w' → w'.cell? ⟨gb, 0, none⟩ = some (.slice A1 n1 c1) ∧ w'.cell? ⟨gb, 1, none⟩ = some (.slice A2 n2 c2) ∧ w'.cell? ⟨gb, 2, none⟩ = some (.slice A3 n3 c3)) := Lib.hid fun w' hb => (HBX.out.on hb).three
  have HE : Hid (∀ u w', u = v → Below W.heap.size W w' → Ans (.bool v) w (.returned (.bool u)) w') := Lib.hid fun u w' e hb => by
    subst e
    exact Ans.mk rfl (HBW.out.trans (hb.mono HBW.out.size))
  obtain ⟨m0, m1, m2⟩ := HM.out W (Below.refl _ _)
  by_cases ha : a = -1
  · subst ha
    by_cases hb : b = -1
    · subst hb
      have hvt := HV.out
      rw [freeF_at (p := true) (q := true) (d := true) rfl rfl rfl] at hvt
      have HVT := Lib.hid hvt
      clear hvt
      go_wp2_with fail
      go_ret
      exact HE.out _ _ HVT.out.symm (Below.refl _ _)
    · have hbne : (b != -1) = true := bne_iff_ne.2 hb
      have hbd : decide (b = -1) = false := decide_eq_false hb
      go_wp2_with fail
      refine (in_any A1 A2 A3 n1 n2 n3 c1 c2 c3 b W).mono ?_
      rintro e w4 ⟨rfl, hb4⟩
      have HB4 := Lib.hid hb4
      obtain ⟨i, hi⟩ : ∃ i, i = inP n1 b := ⟨_, rfl⟩
      rw [← hi]
      have hvt := HV.out
      rw [freeF_at (p := true) (q := i) (d := true) rfl (by rw [hbd, HLEN.out, hi]; rfl) rfl] at hvt
      have HVT := Lib.hid hvt
      clear hvt hb4 hi hb m0 m1 m2
      cases i with
      | false =>
        go_wp2_with fail
        go_ret
        exact HE.out _ _ HVT.out.symm HB4.out
      | true =>
        go_wp2_with fail
        go_ret
        exact HE.out _ _ HVT.out.symm HB4.out
  · have hane : (a != -1) = true := bne_iff_ne.2 ha
    have had : decide (a = -1) = false := decide_eq_false ha
    have haeq : (a == -1) = false := beq_eq_false_iff_ne.2 ha
    go_wp2_with fail
    refine (in_any A1 A2 A3 n1 n2 n3 c1 c2 c3 a W).mono ?_
    rintro e w3 ⟨rfl, hb3⟩
    have HB3 := Lib.hid hb3
    obtain ⟨i, hi⟩ : ∃ i, i = inP n1 a := ⟨_, rfl⟩
    rw [← hi]
    have HI := Lib.hid hi
    clear hi hb3 m0 m1 m2
    cases i with
    | false =>
      have hvt := HV.out
      rw [freeF_at (p := false) rfl rfl (ha := by rw [had, HLEN.out, ← HI.out]; rfl)] at hvt
      have HVT := Lib.hid hvt
      clear hvt
      go_wp2_with fail
      go_ret
      exact HE.out _ _ HVT.out.symm HB3.out
    | true =>
      obtain ⟨m0, m1, m2⟩ := HM.out w3 HB3.out
      have hai := inP_iff.1 HI.out.symm
      by_cases hb : b = -1
      · subst hb
        have hvt := HV.out
        rw [freeF_at (p := true) (q := true) (d := true) (by rw [had, HLEN.out, ← HI.out]; rfl) rfl (by rw [had]; rfl)] at hvt
        have HVT := Lib.hid hvt
        clear hvt
        go_wp2_with fail
        go_ret
        exact HE.out _ _ HVT.out.symm HB3.out
      · have hbne : (b != -1) = true := bne_iff_ne.2 hb
        have hbd : decide (b = -1) = false := decide_eq_false hb
        have hbeq : (b == -1) = false := beq_eq_false_iff_ne.2 hb
        go_wp2_with fail
        refine (in_any A1 A2 A3 n1 n2 n3 c1 c2 c3 b w3).mono ?_
        rintro e w4 ⟨rfl, hb4⟩
        have HB4 := Lib.hid (HB3.out.trans (hb4.mono HB3.out.size))
        obtain ⟨i, hi⟩ : ∃ i, i = inP n1 b := ⟨_, rfl⟩
        rw [← hi]
        have HI2 := Lib.hid hi
        clear hi hb4 m0 m1 m2
        cases i with
        | false =>
          have hvt := HV.out
          rw [freeF_at (p := true) (q := false) (by rw [had, HLEN.out, ← HI.out]; rfl) (by rw [hbd, HLEN.out, ← HI2.out]; rfl) rfl] at hvt
          have HVT := Lib.hid hvt
          clear hvt
          go_wp2_with fail
          go_ret
          exact HE.out _ _ HVT.out.symm HB4.out
        | true =>
          have hbi := inP_iff.1 HI2.out.symm
          obtain ⟨x, rfl⟩ : ∃ x : Nat, a = x := ⟨a.toNat, by omega⟩
          obtain ⟨y, rfl⟩ : ∃ y : Nat, b = y := ⟨b.toNat, by omega⟩
          have hx : x < n1 := by omega
          have hy : y < n1 := by omega
          have hxi : (x : Int) < (n1 : Int) := by omega
          have hyi : (y : Int) < (n1 : Int) := by omega
          have hvt := HV.out
          rw [freeF_at (p := true) (q := true) (d := !depF (P.map ptOf) (C.map chOf) x y) (by rw [had, HLEN.out, ← HI.out]; rfl) (by rw [hbd, HLEN.out, ← HI2.out]; rfl) (by rw [had, hbd]; rfl)] at hvt
          have HVT := Lib.hid hvt
          have HRD := Lib.hid (rdepends_any A1 A2 A3 n1 n2 n3 c1 c2 c3 P C w4 (HCF.out.on HB4.out) q1 q2)
          obtain ⟨m0, m1, m2⟩ := HM.out w4 HB4.out
          clear hvt hai hbi ha hb hane had hbne hbd
          go_wp2_with fail
          refine HRD.out.mono ?_
          rintro e w5 ⟨g, G, rfl, hM, hb5⟩
          obtain ⟨z, _, _, p4, v4⟩ := hM.row hx (Nat.le_refl _)
          have u4 := v4.cell y hy
          have HB5 := Lib.hid (HB4.out.trans (hb5.mono HB4.out.size))
          clear hM v4 hb5 HRD m0 m1 m2
          generalize depF (P.map ptOf) (C.map chOf) x y = d at u4 HVT
          go_wp2_with fail
          go_ret
          exact HE.out _ _ (by rw [HVT.out]; cases d <;> rfl) HB5.out
set_option maxRecDepth 100000 in
set_option maxHeartbeats 4000000 in
theorem rreach_any (A1 A2 A3 : Option Addr) (n1 n2 n3 c1 c2 c3 : Nat) (P : List PtV) (C : List ChV) (p : Int) (w : World) (h : CfW w w.heap.size A1 A2 n1 n2 P C) (q1 : n1 ≤ 1024) (q2 : n2 ≤ 1048576) :
    Calls Try.prog 28 #[.agg #[.slice A1 n1 c1, .slice A2 n2 c2, .slice A3 n3 c3], .int .i64 p] w (MadN (if inP n1 p = true then reachL (P.map ptOf) (C.map chOf) p.toNat else []) w) := by
  have hlen : (P.map ptOf).length = n1 := by rw [List.length_map]; exact h.p.len
  have hbw := bl1 w (.cells #[.slice A1 n1 c1, .slice A2 n2 c2, .slice A3 n3 c3] 26)
  have hbox := box_vec w (.slice A1 n1 c1) (.slice A2 n2 c2) (.slice A3 n3 c3) 26
  have hCf := h.on hbw
  obtain ⟨r, hr⟩ : ∃ r : Nat → Bool, r = fun a => War (swayF (P.map ptOf) (C.map chOf)) n1 a p.toNat := ⟨_, rfl⟩
  have hL : reachL (P.map ptOf) (C.map chOf) p.toNat = plcs n1 r := by unfold reachL plcs; rw [hlen, hr]
  rw [hL]
  obtain ⟨L, hLd⟩ : ∃ L, L = (if inP n1 p = true then plcs n1 r else []) := ⟨_, rfl⟩
  rw [← hLd]
  have HLD := Lib.hid hLd
  have HR := Lib.hid hr
  clear h hr hL hLd
  go_enter Try.func28, Try.ntmps28
  go_upto_region 2 with fail
  generalize w.alloc (.cells #[.slice A1 n1 c1, .slice A2 n2 c2, .slice A3 n3 c3] 26) = W at hbw hbox hCf ⊢
  obtain ⟨gb, hgb⟩ : ∃ gb, gb = w.heap.size := ⟨_, rfl⟩
  rw [← hgb] at hbox ⊢
  have HGB := Lib.hid hgb
  have HBW := Lib.hid hbw
  have HBX := Lib.hid hbox
  have HSW := Lib.hid (rsways_any A1 A2 A3 n1 n2 n3 c1 c2 c3 P C W hCf q1 q2)
  clear hgb hbw hbox hCf
  obtain ⟨m0, m1, m2⟩ := HBX.out.three
  go_wp2_with fail
  refine HSW.out.mono ?_
  rintro e w2 ⟨g, G, rfl, hM, hb2⟩
  have HCL := Lib.hid (rclosure_any (some ⟨g, 0, none⟩) n1 n1 (fun _ => n1) _ w2 hM.rdm q1)
  have HB2 := Lib.hid hb2
  clear hM hb2 HSW m0 m1 m2
  go_wp2_with fail
  refine HCL.out.mono ?_
  intro e w3 hcl
  obtain ⟨A6, c6, rfl, hc6, hR6, hb3⟩ := hcl.1 (sqB_iff.2 fun _ _ => rfl)
  have HR6 := Lib.hid hR6
  have HB3 := Lib.hid (HB2.out.trans (hb3.mono HB2.out.size))
  clear hcl hR6 hb3 HCL
  go_wp2_with fail
  by_cases hp : inP n1 p = true
  · have hLe := HLD.out
    rw [if_pos hp] at hLe
    have HLE := Lib.hid hLe
    clear hLe HLD
    have hpi := inP_iff.1 hp
    obtain ⟨y, rfl⟩ : ∃ y : Nat, p = y := ⟨p.toNat, by omega⟩
    have hy : y < n1 := by omega
    have hyi : (y : Int) < (n1 : Int) := by omega
    go_loopw [5, 7] (fun q s wr => ∃ (i k c : Nat) (A : Option Addr), i ≤ n1 ∧ s = .int .i64 i ∧ q = .slice A k c ∧ k ≤ i ∧ OwnV 3 1 wr w3.heap.size A k c (is ((plcs i r).map fun x : Nat => (x : Int))) ∧ Below w3.heap.size w3 wr) (fun _ s _ => n1 - (intOf s).toNat)
    case atStart => exact ⟨0, 0, 0, none, by omega, rfl, rfl, by omega, by simpa [plcs, is] using OwnV.nil _ _ _ _, Below.refl _ _⟩
    case round =>
      obtain ⟨i, k, c, A, hi, rfl, rfl, hk, how, hb⟩ := hrel
      by_cases hlt : i < n1
      · have hlti : (i : Int) < (n1 : Int) := by omega
        obtain ⟨m0, m1, m2⟩ := ((HBX.out.on HB3.out).on hb).three
        have HB := Lib.hid hb
        have HOW := Lib.hid how
        clear how hb
        go_wp2_with fail
        refine (in_any A1 A2 A3 n1 n2 n3 c1 c2 c3 (y : Int) wr).mono ?_
        rintro e w5 ⟨rfl, hb5⟩
        rw [hp]
        have hb6 := HB.out.trans (hb5.mono HB.out.size)
        obtain ⟨ad, R, cr, rfl, had, p4, hcr, hrow⟩ := (HR6.out.below hb6).at_ hlt
        obtain ⟨adr, rfl, hadr, u4⟩ := hrow.at_ hy
        have how5 := HOW.out.below rfl hb5
        have HB6 := Lib.hid hb6
        have hps := plcs_succ i r
        have hri : War (swayF (P.map ptOf) (C.map chOf)) n1 i y = r i := by rw [HR.out]; rfl
        rw [hri] at u4
        clear hb5 hb6 hrow hri m0 m1 m2 HB HOW
        generalize r i = ri at u4 hps
        cases ri with
        | false =>
          rw [if_neg (by decide)] at hps
          rw [← hps] at how5
          have HOW5 := Lib.hid how5
          clear how5 hps
          go_wp2_with fail
          go_roundw
          case rel => exact ⟨i + 1, k, c, A, by omega, by go_num, rfl, by omega, HOW5.out, HB6.out⟩
          case measure => simp [intOf]; omega
        | true =>
          rw [if_pos rfl] at hps
          have HPS := Lib.hid hps
          have hbl := bl1 w5 (.cells #[.int .i64 (i : Int)] 3)
          have how2 := how5.below rfl hbl
          have hrd := rdV_new w5 #[.int .i64 (i : Int)] 3 (is [(i : Int)]) rfl
          have hb7 := HB6.out.trans (hbl.mono HB6.out.size)
          have hs2 := hb7.size
          have HB7 := Lib.hid hb7
          clear hps how5 hbl hb7
          go_wp2_with (at_builtin; go_loud (refine wpList_appX elI rfl (.tmp 29) (.tmp 31) rfl rfl w3.heap.size A k c _ rfl how2 _ 1 1 _ _ rfl hrd rfl Nat.one_pos (is_one _) (by omega) (by unfold maxLen; omega) hs2 (k + 1) rfl (is ((plcs (i + 1) r).map fun x : Nat => (x : Int))) (by rw [HPS.out, List.map_append]; exact (is_append _ _).symm) ?_; intro A4 c4 w4 hw4 hb4 hot))
          go_roundw
          case rel => exact ⟨i + 1, k + 1, c4, A4, by omega, by go_num, rfl, by omega, hw4, HB7.out.trans hb4⟩
          case measure => simp [intOf]; omega
      · have hlti : ¬ (i : Int) < (n1 : Int) := by omega
        obtain rfl : n1 = i := by omega
        have hl := how.len
        rw [is_length, List.length_map, Nat.mul_one] at hl
        have HB := Lib.hid hb
        have HOW := Lib.hid how
        clear how hb
        go_wp2_with fail
        go_ret
        have h1 := HBW.out.trans (HB3.out.mono HBW.out.size)
        rw [HLE.out]
        exact ⟨A, c, by rw [hl]; rfl, by rw [hl]; exact HOW.out.weak h1.size, h1.trans (HB.out.mono h1.size)⟩
  · have hLe := HLD.out
    rw [if_neg hp] at hLe
    subst hLe
    have hpf : inP n1 p = false := by simpa using hp
    obtain ⟨m0, m1, m2⟩ := (HBX.out.on HB3.out).three
    go_loopw [5, 7] (fun q s wr => q = .slice none 0 0 ∧ s = .int .i64 0 ∧ wr = w3) (fun _ s _ => 0)
    case atStart => exact ⟨rfl, rfl, rfl⟩
    case round =>
      obtain ⟨rfl, rfl, rfl⟩ := hrel
      have h1 := HBW.out.trans (HB3.out.mono HBW.out.size)
      have H1 := Lib.hid h1
      clear h1
      by_cases h0 : n1 = 0
      · subst h0
        go_wp2_with fail
        go_ret
        exact ⟨none, 0, rfl, OwnV.nil _ _ _ _, H1.out⟩
      · have h0i : (0 : Int) < (n1 : Int) := by omega
        have h0n : 0 < n1 := by omega
        go_wp2_with fail
        refine (in_any A1 A2 A3 n1 n2 n3 c1 c2 c3 p wr).mono ?_
        rintro e w5 ⟨rfl, hb5⟩
        rw [hpf]
        have HB5 := Lib.hid hb5
        clear hb5
        go_wp2_with fail
        go_ret
        exact ⟨none, 0, rfl, OwnV.nil _ _ _ _, H1.out.trans (HB5.out.mono H1.out.size)⟩
end Go.Proofs.Ytknlhhbkahollaa
