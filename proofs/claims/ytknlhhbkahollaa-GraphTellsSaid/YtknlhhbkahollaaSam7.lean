/- Law 7's same: the program's answers are the document's own. -/
import Derived.Test.YtknlhhbkahollaaRfre
import Derived.Test.YtknlhhbkahollaaGrea
import Derived.Test.YtknlhhbkahollaaGmat
import Derived.Test.YtknlhhbkahollaaSame
import Derived.Test.YtknlhhbkahollaaRegs
namespace Go.Proofs.Ytknlhhbkahollaa
open Go.RowKit Tab
set_option linter.unusedSimpArgs false
set_option linter.unusedVariables false

def MtV (n : Nat) (m : Nat → Nat → Bool) (v : Value) (w : World) : Prop := ∃ A c, v = .slice A n c ∧ n ≤ c ∧ RdM w w.heap.size A n (fun _ => n) m
def RwV (L : List Nat) (v : Value) (w : World) : Prop := ∃ B A c, v = .slice A L.length c ∧ OwnV 3 1 w B A L.length c (is (L.map fun x : Nat => (x : Int)))
theorem MtV.on {n : Nat} {m : Nat → Nat → Bool} {v : Value} {w w' : World} (h : MtV n m v w) (hb : Below w.heap.size w w') : MtV n m v w' := by
  obtain ⟨A, c, h1, h2, h3⟩ := h
  exact ⟨A, c, h1, h2, h3.on hb⟩
theorem RwV.on {L : List Nat} {v : Value} {w w' : World} (h : RwV L v w) (hb : Below w.heap.size w w') : RwV L v w' := by
  obtain ⟨B, A, c, h1, h2⟩ := h
  exact ⟨B, A, c, h1, h2.below rfl hb⟩
def SamV (A1 A2 A3 : Option Addr) (n1 n2 n3 c1 c2 c3 : Nat) (a b : Int) (D S : Nat → Nat → Bool) (fv : Bool) (L : List Nat) (j : Nat) (v : Value) (w : World) : Prop :=
  match j with
  | 0 => v = .agg #[.slice A1 n1 c1, .slice A2 n2 c2, .slice A3 n3 c3]
  | 1 => MtV n1 D v w
  | 2 => v = .agg #[.slice A1 n1 c1, .slice A2 n2 c2, .slice A3 n3 c3]
  | 3 => MtV n1 D v w
  | 4 => v = .bool true
  | 5 => v = .bool true
  | 6 => v = .agg #[.slice A1 n1 c1, .slice A2 n2 c2, .slice A3 n3 c3]
  | 7 => MtV n1 S v w
  | 8 => v = .agg #[.slice A1 n1 c1, .slice A2 n2 c2, .slice A3 n3 c3]
  | 9 => MtV n1 S v w
  | 10 => v = .bool true
  | 11 => v = .bool true
  | 12 => v = .bool true
  | 13 => v = .agg #[.slice A1 n1 c1, .slice A2 n2 c2, .slice A3 n3 c3]
  | 14 => v = .int .i64 a
  | 15 => v = .int .i64 b
  | 16 => v = .bool fv
  | 17 => v = .agg #[.slice A1 n1 c1, .slice A2 n2 c2, .slice A3 n3 c3]
  | 18 => v = .int .i64 a
  | 19 => v = .int .i64 b
  | 20 => v = .bool fv
  | 21 => v = .bool true
  | 22 => v = .bool true
  | 23 => v = .bool true
  | 24 => v = .agg #[.slice A1 n1 c1, .slice A2 n2 c2, .slice A3 n3 c3]
  | 25 => v = .int .i64 a
  | 26 => RwV L v w
  | 27 => v = .agg #[.slice A1 n1 c1, .slice A2 n2 c2, .slice A3 n3 c3]
  | 28 => v = .int .i64 a
  | 29 => RwV L v w
  | 30 => v = .bool true
  | 31 => v = .bool true
  | 32 => v = .bool true
  | 33 => v = .agg #[.slice A1 n1 c1, .slice A2 n2 c2, .slice A3 n3 c3]
  | 34 => MtV n1 S v w
  | 35 => MtV n1 (War S n1) v w
  | 36 => v = .agg #[.slice A1 n1 c1, .slice A2 n2 c2, .slice A3 n3 c3]
  | 37 => MtV n1 S v w
  | 38 => MtV n1 (War S n1) v w
  | 39 => v = .bool true
  | 40 => v = .bool true
  | 41 => v = .bool true
  | _ => True
theorem SamV.on {A1 A2 A3 : Option Addr} {n1 n2 n3 c1 c2 c3 : Nat} {a b : Int} {D S : Nat → Nat → Bool} {fv : Bool} {L : List Nat} {w w' : World} (hb : Below w.heap.size w w') (j : Nat) (v : Value) (h : SamV A1 A2 A3 n1 n2 n3 c1 c2 c3 a b D S fv L j v w) : SamV A1 A2 A3 n1 n2 n3 c1 c2 c3 a b D S fv L j v w' := by
  unfold SamV at h ⊢
  split at h <;> first | exact h | exact MtV.on h hb | exact RwV.on h hb
theorem reach_all (A1 A2 A3 : Option Addr) (n1 n2 n3 c1 c2 c3 : Nat) (P : List PtV) (C : List ChV) (p : Int) (w : World) (h : CfW w w.heap.size A1 A2 n1 n2 P C) (q1 : n1 ≤ 1024) (q2 : n2 ≤ 524288) :
    Calls Try.prog 20 #[.agg #[.slice A1 n1 c1, .slice A2 n2 c2, .slice A3 n3 c3], .int .i64 p] w (MadN (if inP n1 p = true then reachL (P.map ptOf) (C.map chOf) p.toNat else []) w) := by
  by_cases hp : inP n1 p = true
  · rw [if_pos hp]
    have hpi := inP_iff.1 hp
    obtain ⟨y, rfl⟩ : ∃ y : Nat, p = y := ⟨p.toNat, by omega⟩
    exact reach_any A1 A2 A3 n1 n2 n3 c1 c2 c3 P C y w h q1 q2 (by omega)
  · rw [if_neg hp]
    exact reach_none A1 A2 A3 n1 n2 n3 c1 c2 c3 p w (by simpa using hp)
set_option maxRecDepth 100000 in
set_option maxHeartbeats 4000000 in
theorem same7_any (A1 A2 A3 : Option Addr) (n1 n2 n3 c1 c2 c3 : Nat) (P : List PtV) (C : List ChV) (a b : Int) (w : World) (h : CfW w w.heap.size A1 A2 n1 n2 P C) (q1 : n1 ≤ 1024) (q2 : n2 ≤ 524288) :
    Calls Try.prog 10 #[.agg #[.slice A1 n1 c1, .slice A2 n2 c2, .slice A3 n3 c3], .int .i64 a, .int .i64 b] w (Ans (.bool true) w) := by
  have hbw := bl1 w (.cells #[.slice A1 n1 c1, .slice A2 n2 c2, .slice A3 n3 c3] 26)
  have hbox := box_vec w (.slice A1 n1 c1) (.slice A2 n2 c2) (.slice A3 n3 c3) 26
  have hCf := h.on hbw
  clear h
  go_enter Try.func10, Try.ntmps10
  go_wp2_with fail
  generalize w.alloc (.cells #[.slice A1 n1 c1, .slice A2 n2 c2, .slice A3 n3 c3] 26) = W at hbw hbox hCf ⊢
  obtain ⟨gb, hgb⟩ : ∃ gb, gb = w.heap.size := ⟨_, rfl⟩
  rw [← hgb] at hbox ⊢
  have HGB := Lib.hid hgb
  have HBW := Lib.hid hbw
  have HCF := Lib.hid hCf
  obtain ⟨m0, m1, m2⟩ := hbox.three
  clear hgb hbw hbox hCf
  obtain ⟨D, hD⟩ : ∃ D, D = depF (P.map ptOf) (C.map chOf) := ⟨_, rfl⟩
  obtain ⟨S, hS⟩ : ∃ S, S = swayF (P.map ptOf) (C.map chOf) := ⟨_, rfl⟩
  obtain ⟨fv, hF⟩ : ∃ fv, fv = freeF (P.map ptOf) (C.map chOf) a b := ⟨_, rfl⟩
  obtain ⟨L, hL⟩ : ∃ L, L = (if inP n1 a = true then reachL (P.map ptOf) (C.map chOf) a.toNat else []) := ⟨_, rfl⟩
  have hLl : L.length ≤ 1048576 := by
    rw [hL]
    split
    · unfold reachL
      have := List.length_filter_le (fun x => War (swayF (P.map ptOf) (C.map chOf)) (P.map ptOf).length x a.toNat) (List.range (P.map ptOf).length)
      have hlr : (List.range (P.map ptOf).length).length ≤ 1024 := by rw [List.length_range, List.length_map, HCF.out.p.len]; exact q1
      omega
    · simp
  refine Rgs.region (by kernel_rfl) (by kernel_rfl) (SamV A1 A2 A3 n1 n2 n3 c1 c2 c3 a b D S fv L) (fun _ _ w' => Below W.heap.size W w') (Below.refl _ _).drew (Rgs.steps_of ?_) ?_
  · refine ⟨?_, ?_, ?_, ?_, ?_, ?_, ?_, ?_, ?_, ?_, ?_, ?_, ?_, ?_, ?_, ?_, ?_, ?_, ?_, ?_, ?_, ?_, ?_, ?_, ?_, ?_, ?_, ?_, ?_, ?_, ?_, ?_, ?_, ?_, ?_, ?_, ?_, ?_, ?_, ?_, ?_, ?_, trivial⟩
    · intro a' w1 live Sz E Dv Cl h0 hk hW
      have e3 : a'.eval (.tmp 3) = .pointer (some ⟨gb, 0, none⟩) := E 3 rfl
      have l0 := (hW.cell (p := ⟨gb, 0, none⟩) (World.block_lt_of_cell? _ _ m0)).trans m0
      have l1 := (hW.cell (p := ⟨gb, 1, none⟩) (World.block_lt_of_cell? _ _ m1)).trans m1
      have l2 := (hW.cell (p := ⟨gb, 2, none⟩) (World.block_lt_of_cell? _ _ m2)).trans m2
      exact Rgs.val rfl (Reg.wanted_free rfl) (.agg #[.slice A1 n1 c1, .slice A2 n2 c2, .slice A3 n3 c3]) (by have c := Reg.consts a'; generalize a'.eval = ρ at *; simp [execOp, go_sem, c.1, c.2, e3, l0, l1, l2]) rfl hW
    · intro a' w1 live Sz E Dv Cl h0 hk hW
      have d0 : a'.eval (.tmp 7) = .agg #[.slice A1 n1 c1, .slice A2 n2 c2, .slice A3 n3 c3] := Dv 0 rfl _ _ rfl rfl
      refine Rgs.call rfl (Reg.wanted_free rfl) 16 #[.agg #[.slice A1 n1 c1, .slice A2 n2 c2, .slice A3 n3 c3]] (by have c := Reg.consts a'; generalize a'.eval = ρ at *; simp [execOp, go_sem, c.1, c.2, d0]) ?_
      have hth := (depends_any A1 A2 A3 n1 n2 n3 c1 c2 c3 P C w1 (HCF.out.on hW) q1 (by omega))
      rw [← hD] at hth
      refine hth.mono ?_
      rintro e w5 ⟨g, G, rfl, hM, hb5⟩
      exact ⟨_, rfl, ⟨_, _, rfl, Nat.le_refl _, hM.rdm⟩, hW.trans (hb5.mono hW.size), fun j v _ h => h.on hb5 j v⟩
    · intro a' w1 live Sz E Dv Cl h0 hk hW
      have e3 : a'.eval (.tmp 3) = .pointer (some ⟨gb, 0, none⟩) := E 3 rfl
      have l0 := (hW.cell (p := ⟨gb, 0, none⟩) (World.block_lt_of_cell? _ _ m0)).trans m0
      have l1 := (hW.cell (p := ⟨gb, 1, none⟩) (World.block_lt_of_cell? _ _ m1)).trans m1
      have l2 := (hW.cell (p := ⟨gb, 2, none⟩) (World.block_lt_of_cell? _ _ m2)).trans m2
      exact Rgs.val rfl (Reg.wanted_free rfl) (.agg #[.slice A1 n1 c1, .slice A2 n2 c2, .slice A3 n3 c3]) (by have c := Reg.consts a'; generalize a'.eval = ρ at *; simp [execOp, go_sem, c.1, c.2, e3, l0, l1, l2]) rfl hW
    · intro a' w1 live Sz E Dv Cl h0 hk hW
      have d2 : a'.eval (.tmp 9) = .agg #[.slice A1 n1 c1, .slice A2 n2 c2, .slice A3 n3 c3] := Dv 2 rfl _ _ rfl rfl
      refine Rgs.call rfl (Reg.wanted_free rfl) 24 #[.agg #[.slice A1 n1 c1, .slice A2 n2 c2, .slice A3 n3 c3]] (by have c := Reg.consts a'; generalize a'.eval = ρ at *; simp [execOp, go_sem, c.1, c.2, d2]) ?_
      have hth := (rdepends_any A1 A2 A3 n1 n2 n3 c1 c2 c3 P C w1 (HCF.out.on hW) q1 (by omega))
      rw [← hD] at hth
      refine hth.mono ?_
      rintro e w5 ⟨g, G, rfl, hM, hb5⟩
      exact ⟨_, rfl, ⟨_, _, rfl, Nat.le_refl _, hM.rdm⟩, hW.trans (hb5.mono hW.size), fun j v _ h => h.on hb5 j v⟩
    · intro a' w1 live Sz E Dv Cl h0 hk hW
      obtain ⟨X1, y1, d1, hc1, hr1⟩ : MtV n1 D (a'.eval (.tmp 8)) w1 := Dv 1 rfl _ _ rfl rfl
      obtain ⟨X3, y3, d3, hc3, hr3⟩ : MtV n1 D (a'.eval (.tmp 10)) w1 := Dv 3 rfl _ _ rfl rfl
      refine Rgs.call rfl (Reg.wanted_free rfl) 11 #[.slice X1 n1 y1, .slice X3 n1 y3] (by have c := Reg.consts a'; generalize a'.eval = ρ at *; simp [execOp, go_sem, c.1, c.2, d1, d3]) ?_
      have hth := (matrix_any X1 X3 n1 n1 y1 y3 (fun _ => n1) (fun _ => n1) _ _ w1 hr1 hr3 (by omega) (fun _ _ => by omega))
      rw [matB_iff.2 ⟨rfl, fun i _ => ⟨rfl, fun j _ => rfl⟩⟩] at hth
      refine hth.mono ?_
      intro e w5 hq
      obtain ⟨rfl, hb5⟩ := hq.ans
      exact ⟨_, rfl, rfl, hW.trans (hb5.mono hW.size), fun j v _ h => h.on hb5 j v⟩
    · intro a' w1 live Sz E Dv Cl h0 hk hW
      have d4 : a'.eval (.tmp 11) = .bool true := Dv 4 rfl _ _ rfl rfl
      exact Rgs.val rfl (Reg.wanted_free rfl) (.bool true) (by have c := Reg.consts a'; generalize a'.eval = ρ at *; simp [execOp, go_sem, c.1, c.2, d4]) rfl hW
    · intro a' w1 live Sz E Dv Cl h0 hk hW
      have dg : a'.eval (.tmp 12) = .bool true := Dv 5 rfl _ _ rfl rfl
      have e3 : a'.eval (.tmp 3) = .pointer (some ⟨gb, 0, none⟩) := E 3 rfl
      have l0 := (hW.cell (p := ⟨gb, 0, none⟩) (World.block_lt_of_cell? _ _ m0)).trans m0
      have l1 := (hW.cell (p := ⟨gb, 1, none⟩) (World.block_lt_of_cell? _ _ m1)).trans m1
      have l2 := (hW.cell (p := ⟨gb, 2, none⟩) (World.block_lt_of_cell? _ _ m2)).trans m2
      exact Rgs.val rfl (Reg.wanted_if rfl rfl dg rfl) (.agg #[.slice A1 n1 c1, .slice A2 n2 c2, .slice A3 n3 c3]) (by have c := Reg.consts a'; generalize a'.eval = ρ at *; simp [execOp, go_sem, c.1, c.2, e3, l0, l1, l2]) rfl hW
    · intro a' w1 live Sz E Dv Cl h0 hk hW
      have dg : a'.eval (.tmp 12) = .bool true := Dv 5 rfl _ _ rfl rfl
      have d6 : a'.eval (.tmp 13) = .agg #[.slice A1 n1 c1, .slice A2 n2 c2, .slice A3 n3 c3] := Dv 6 rfl _ _ rfl rfl
      refine Rgs.call rfl (Reg.wanted_if rfl rfl dg rfl) 17 #[.agg #[.slice A1 n1 c1, .slice A2 n2 c2, .slice A3 n3 c3]] (by have c := Reg.consts a'; generalize a'.eval = ρ at *; simp [execOp, go_sem, c.1, c.2, d6]) ?_
      have hth := (sways_any A1 A2 A3 n1 n2 n3 c1 c2 c3 P C w1 (HCF.out.on hW) q1 (by omega))
      rw [← hS] at hth
      refine hth.mono ?_
      rintro e w5 ⟨g, G, rfl, hM, hb5⟩
      exact ⟨_, rfl, ⟨_, _, rfl, Nat.le_refl _, hM.rdm⟩, hW.trans (hb5.mono hW.size), fun j v _ h => h.on hb5 j v⟩
    · intro a' w1 live Sz E Dv Cl h0 hk hW
      have dg : a'.eval (.tmp 12) = .bool true := Dv 5 rfl _ _ rfl rfl
      have e3 : a'.eval (.tmp 3) = .pointer (some ⟨gb, 0, none⟩) := E 3 rfl
      have l0 := (hW.cell (p := ⟨gb, 0, none⟩) (World.block_lt_of_cell? _ _ m0)).trans m0
      have l1 := (hW.cell (p := ⟨gb, 1, none⟩) (World.block_lt_of_cell? _ _ m1)).trans m1
      have l2 := (hW.cell (p := ⟨gb, 2, none⟩) (World.block_lt_of_cell? _ _ m2)).trans m2
      exact Rgs.val rfl (Reg.wanted_if rfl rfl dg rfl) (.agg #[.slice A1 n1 c1, .slice A2 n2 c2, .slice A3 n3 c3]) (by have c := Reg.consts a'; generalize a'.eval = ρ at *; simp [execOp, go_sem, c.1, c.2, e3, l0, l1, l2]) rfl hW
    · intro a' w1 live Sz E Dv Cl h0 hk hW
      have dg : a'.eval (.tmp 12) = .bool true := Dv 5 rfl _ _ rfl rfl
      have d8 : a'.eval (.tmp 15) = .agg #[.slice A1 n1 c1, .slice A2 n2 c2, .slice A3 n3 c3] := Dv 8 rfl _ _ rfl rfl
      refine Rgs.call rfl (Reg.wanted_if rfl rfl dg rfl) 25 #[.agg #[.slice A1 n1 c1, .slice A2 n2 c2, .slice A3 n3 c3]] (by have c := Reg.consts a'; generalize a'.eval = ρ at *; simp [execOp, go_sem, c.1, c.2, d8]) ?_
      have hth := (rsways_any A1 A2 A3 n1 n2 n3 c1 c2 c3 P C w1 (HCF.out.on hW) q1 (by omega))
      rw [← hS] at hth
      refine hth.mono ?_
      rintro e w5 ⟨g, G, rfl, hM, hb5⟩
      exact ⟨_, rfl, ⟨_, _, rfl, Nat.le_refl _, hM.rdm⟩, hW.trans (hb5.mono hW.size), fun j v _ h => h.on hb5 j v⟩
    · intro a' w1 live Sz E Dv Cl h0 hk hW
      have dg : a'.eval (.tmp 12) = .bool true := Dv 5 rfl _ _ rfl rfl
      obtain ⟨X7, y7, d7, hc7, hr7⟩ : MtV n1 S (a'.eval (.tmp 14)) w1 := Dv 7 rfl _ _ rfl rfl
      obtain ⟨X9, y9, d9, hc9, hr9⟩ : MtV n1 S (a'.eval (.tmp 16)) w1 := Dv 9 rfl _ _ rfl rfl
      refine Rgs.call rfl (Reg.wanted_if rfl rfl dg rfl) 11 #[.slice X7 n1 y7, .slice X9 n1 y9] (by have c := Reg.consts a'; generalize a'.eval = ρ at *; simp [execOp, go_sem, c.1, c.2, d7, d9]) ?_
      have hth := (matrix_any X7 X9 n1 n1 y7 y9 (fun _ => n1) (fun _ => n1) _ _ w1 hr7 hr9 (by omega) (fun _ _ => by omega))
      rw [matB_iff.2 ⟨rfl, fun i _ => ⟨rfl, fun j _ => rfl⟩⟩] at hth
      refine hth.mono ?_
      intro e w5 hq
      obtain ⟨rfl, hb5⟩ := hq.ans
      exact ⟨_, rfl, rfl, hW.trans (hb5.mono hW.size), fun j v _ h => h.on hb5 j v⟩
    · intro a' w1 live Sz E Dv Cl h0 hk hW
      have d5 : a'.eval (.tmp 12) = .bool true := Dv 5 rfl _ _ rfl rfl
      have d10 : a'.eval (.tmp 17) = .bool true := Dv 10 rfl _ _ rfl rfl
      exact Rgs.val rfl (Reg.wanted_free rfl) (.bool true) (by have c := Reg.consts a'; generalize a'.eval = ρ at *; simp [execOp, go_sem, c.1, c.2, d5, d10]) rfl hW
    · intro a' w1 live Sz E Dv Cl h0 hk hW
      have d11 : a'.eval (.tmp 18) = .bool true := Dv 11 rfl _ _ rfl rfl
      exact Rgs.val rfl (Reg.wanted_free rfl) (.bool true) (by have c := Reg.consts a'; generalize a'.eval = ρ at *; simp [execOp, go_sem, c.1, c.2, d11]) rfl hW
    · intro a' w1 live Sz E Dv Cl h0 hk hW
      have dg : a'.eval (.tmp 19) = .bool true := Dv 12 rfl _ _ rfl rfl
      have e3 : a'.eval (.tmp 3) = .pointer (some ⟨gb, 0, none⟩) := E 3 rfl
      have l0 := (hW.cell (p := ⟨gb, 0, none⟩) (World.block_lt_of_cell? _ _ m0)).trans m0
      have l1 := (hW.cell (p := ⟨gb, 1, none⟩) (World.block_lt_of_cell? _ _ m1)).trans m1
      have l2 := (hW.cell (p := ⟨gb, 2, none⟩) (World.block_lt_of_cell? _ _ m2)).trans m2
      exact Rgs.val rfl (Reg.wanted_if rfl rfl dg rfl) (.agg #[.slice A1 n1 c1, .slice A2 n2 c2, .slice A3 n3 c3]) (by have c := Reg.consts a'; generalize a'.eval = ρ at *; simp [execOp, go_sem, c.1, c.2, e3, l0, l1, l2]) rfl hW
    · intro a' w1 live Sz E Dv Cl h0 hk hW
      have dg : a'.eval (.tmp 19) = .bool true := Dv 12 rfl _ _ rfl rfl
      have e1 : a'.eval (.tmp 1) = .int .i64 a := E 1 rfl
      exact Rgs.val rfl (Reg.wanted_if rfl rfl dg rfl) (.int .i64 a) (by have c := Reg.consts a'; generalize a'.eval = ρ at *; simp [execOp, go_sem, c.1, c.2, e1]) rfl hW
    · intro a' w1 live Sz E Dv Cl h0 hk hW
      have dg : a'.eval (.tmp 19) = .bool true := Dv 12 rfl _ _ rfl rfl
      have e2 : a'.eval (.tmp 2) = .int .i64 b := E 2 rfl
      exact Rgs.val rfl (Reg.wanted_if rfl rfl dg rfl) (.int .i64 b) (by have c := Reg.consts a'; generalize a'.eval = ρ at *; simp [execOp, go_sem, c.1, c.2, e2]) rfl hW
    · intro a' w1 live Sz E Dv Cl h0 hk hW
      have dg : a'.eval (.tmp 19) = .bool true := Dv 12 rfl _ _ rfl rfl
      have d13 : a'.eval (.tmp 20) = .agg #[.slice A1 n1 c1, .slice A2 n2 c2, .slice A3 n3 c3] := Dv 13 rfl _ _ rfl rfl
      have d14 : a'.eval (.tmp 21) = .int .i64 a := Dv 14 rfl _ _ rfl rfl
      have d15 : a'.eval (.tmp 22) = .int .i64 b := Dv 15 rfl _ _ rfl rfl
      refine Rgs.call rfl (Reg.wanted_if rfl rfl dg rfl) 18 #[.agg #[.slice A1 n1 c1, .slice A2 n2 c2, .slice A3 n3 c3], .int .i64 a, .int .i64 b] (by have c := Reg.consts a'; generalize a'.eval = ρ at *; simp [execOp, go_sem, c.1, c.2, d13, d14, d15]) ?_
      have hth := (free_any A1 A2 A3 n1 n2 n3 c1 c2 c3 P C a b w1 (HCF.out.on hW) (by omega) (by omega))
      rw [← hF] at hth
      refine hth.mono ?_
      rintro e w5 ⟨rfl, hb5⟩
      exact ⟨_, rfl, rfl, hW.trans (hb5.mono hW.size), fun j v _ h => h.on hb5 j v⟩
    · intro a' w1 live Sz E Dv Cl h0 hk hW
      have dg : a'.eval (.tmp 19) = .bool true := Dv 12 rfl _ _ rfl rfl
      have e3 : a'.eval (.tmp 3) = .pointer (some ⟨gb, 0, none⟩) := E 3 rfl
      have l0 := (hW.cell (p := ⟨gb, 0, none⟩) (World.block_lt_of_cell? _ _ m0)).trans m0
      have l1 := (hW.cell (p := ⟨gb, 1, none⟩) (World.block_lt_of_cell? _ _ m1)).trans m1
      have l2 := (hW.cell (p := ⟨gb, 2, none⟩) (World.block_lt_of_cell? _ _ m2)).trans m2
      exact Rgs.val rfl (Reg.wanted_if rfl rfl dg rfl) (.agg #[.slice A1 n1 c1, .slice A2 n2 c2, .slice A3 n3 c3]) (by have c := Reg.consts a'; generalize a'.eval = ρ at *; simp [execOp, go_sem, c.1, c.2, e3, l0, l1, l2]) rfl hW
    · intro a' w1 live Sz E Dv Cl h0 hk hW
      have dg : a'.eval (.tmp 19) = .bool true := Dv 12 rfl _ _ rfl rfl
      have e1 : a'.eval (.tmp 1) = .int .i64 a := E 1 rfl
      exact Rgs.val rfl (Reg.wanted_if rfl rfl dg rfl) (.int .i64 a) (by have c := Reg.consts a'; generalize a'.eval = ρ at *; simp [execOp, go_sem, c.1, c.2, e1]) rfl hW
    · intro a' w1 live Sz E Dv Cl h0 hk hW
      have dg : a'.eval (.tmp 19) = .bool true := Dv 12 rfl _ _ rfl rfl
      have e2 : a'.eval (.tmp 2) = .int .i64 b := E 2 rfl
      exact Rgs.val rfl (Reg.wanted_if rfl rfl dg rfl) (.int .i64 b) (by have c := Reg.consts a'; generalize a'.eval = ρ at *; simp [execOp, go_sem, c.1, c.2, e2]) rfl hW
    · intro a' w1 live Sz E Dv Cl h0 hk hW
      have dg : a'.eval (.tmp 19) = .bool true := Dv 12 rfl _ _ rfl rfl
      have d17 : a'.eval (.tmp 24) = .agg #[.slice A1 n1 c1, .slice A2 n2 c2, .slice A3 n3 c3] := Dv 17 rfl _ _ rfl rfl
      have d18 : a'.eval (.tmp 25) = .int .i64 a := Dv 18 rfl _ _ rfl rfl
      have d19 : a'.eval (.tmp 26) = .int .i64 b := Dv 19 rfl _ _ rfl rfl
      refine Rgs.call rfl (Reg.wanted_if rfl rfl dg rfl) 26 #[.agg #[.slice A1 n1 c1, .slice A2 n2 c2, .slice A3 n3 c3], .int .i64 a, .int .i64 b] (by have c := Reg.consts a'; generalize a'.eval = ρ at *; simp [execOp, go_sem, c.1, c.2, d17, d18, d19]) ?_
      have hth := (rfree_any A1 A2 A3 n1 n2 n3 c1 c2 c3 P C a b w1 (HCF.out.on hW) q1 (by omega))
      rw [← hF] at hth
      refine hth.mono ?_
      rintro e w5 ⟨rfl, hb5⟩
      exact ⟨_, rfl, rfl, hW.trans (hb5.mono hW.size), fun j v _ h => h.on hb5 j v⟩
    · intro a' w1 live Sz E Dv Cl h0 hk hW
      have dg : a'.eval (.tmp 19) = .bool true := Dv 12 rfl _ _ rfl rfl
      have d16 : a'.eval (.tmp 23) = .bool fv := Dv 16 rfl _ _ rfl rfl
      have d20 : a'.eval (.tmp 27) = .bool fv := Dv 20 rfl _ _ rfl rfl
      exact Rgs.val rfl (Reg.wanted_if rfl rfl dg rfl) (.bool true) (by have c := Reg.consts a'; generalize a'.eval = ρ at *; simp [execOp, go_sem, c.1, c.2, d16, d20]) rfl hW
    · intro a' w1 live Sz E Dv Cl h0 hk hW
      have d12 : a'.eval (.tmp 19) = .bool true := Dv 12 rfl _ _ rfl rfl
      have d21 : a'.eval (.tmp 28) = .bool true := Dv 21 rfl _ _ rfl rfl
      exact Rgs.val rfl (Reg.wanted_free rfl) (.bool true) (by have c := Reg.consts a'; generalize a'.eval = ρ at *; simp [execOp, go_sem, c.1, c.2, d12, d21]) rfl hW
    · intro a' w1 live Sz E Dv Cl h0 hk hW
      have d22 : a'.eval (.tmp 29) = .bool true := Dv 22 rfl _ _ rfl rfl
      exact Rgs.val rfl (Reg.wanted_free rfl) (.bool true) (by have c := Reg.consts a'; generalize a'.eval = ρ at *; simp [execOp, go_sem, c.1, c.2, d22]) rfl hW
    · intro a' w1 live Sz E Dv Cl h0 hk hW
      have dg : a'.eval (.tmp 30) = .bool true := Dv 23 rfl _ _ rfl rfl
      have e3 : a'.eval (.tmp 3) = .pointer (some ⟨gb, 0, none⟩) := E 3 rfl
      have l0 := (hW.cell (p := ⟨gb, 0, none⟩) (World.block_lt_of_cell? _ _ m0)).trans m0
      have l1 := (hW.cell (p := ⟨gb, 1, none⟩) (World.block_lt_of_cell? _ _ m1)).trans m1
      have l2 := (hW.cell (p := ⟨gb, 2, none⟩) (World.block_lt_of_cell? _ _ m2)).trans m2
      exact Rgs.val rfl (Reg.wanted_if rfl rfl dg rfl) (.agg #[.slice A1 n1 c1, .slice A2 n2 c2, .slice A3 n3 c3]) (by have c := Reg.consts a'; generalize a'.eval = ρ at *; simp [execOp, go_sem, c.1, c.2, e3, l0, l1, l2]) rfl hW
    · intro a' w1 live Sz E Dv Cl h0 hk hW
      have dg : a'.eval (.tmp 30) = .bool true := Dv 23 rfl _ _ rfl rfl
      have e1 : a'.eval (.tmp 1) = .int .i64 a := E 1 rfl
      exact Rgs.val rfl (Reg.wanted_if rfl rfl dg rfl) (.int .i64 a) (by have c := Reg.consts a'; generalize a'.eval = ρ at *; simp [execOp, go_sem, c.1, c.2, e1]) rfl hW
    · intro a' w1 live Sz E Dv Cl h0 hk hW
      have dg : a'.eval (.tmp 30) = .bool true := Dv 23 rfl _ _ rfl rfl
      have d24 : a'.eval (.tmp 31) = .agg #[.slice A1 n1 c1, .slice A2 n2 c2, .slice A3 n3 c3] := Dv 24 rfl _ _ rfl rfl
      have d25 : a'.eval (.tmp 32) = .int .i64 a := Dv 25 rfl _ _ rfl rfl
      refine Rgs.call rfl (Reg.wanted_if rfl rfl dg rfl) 20 #[.agg #[.slice A1 n1 c1, .slice A2 n2 c2, .slice A3 n3 c3], .int .i64 a] (by have c := Reg.consts a'; generalize a'.eval = ρ at *; simp [execOp, go_sem, c.1, c.2, d24, d25]) ?_
      have hth := (reach_all A1 A2 A3 n1 n2 n3 c1 c2 c3 P C a w1 (HCF.out.on hW) q1 q2)
      rw [← hL] at hth
      refine hth.mono ?_
      rintro e w5 ⟨X, y, rfl, ho, hb5⟩
      exact ⟨_, rfl, ⟨_, X, y, rfl, ho⟩, hW.trans (hb5.mono hW.size), fun j v _ h => h.on hb5 j v⟩
    · intro a' w1 live Sz E Dv Cl h0 hk hW
      have dg : a'.eval (.tmp 30) = .bool true := Dv 23 rfl _ _ rfl rfl
      have e3 : a'.eval (.tmp 3) = .pointer (some ⟨gb, 0, none⟩) := E 3 rfl
      have l0 := (hW.cell (p := ⟨gb, 0, none⟩) (World.block_lt_of_cell? _ _ m0)).trans m0
      have l1 := (hW.cell (p := ⟨gb, 1, none⟩) (World.block_lt_of_cell? _ _ m1)).trans m1
      have l2 := (hW.cell (p := ⟨gb, 2, none⟩) (World.block_lt_of_cell? _ _ m2)).trans m2
      exact Rgs.val rfl (Reg.wanted_if rfl rfl dg rfl) (.agg #[.slice A1 n1 c1, .slice A2 n2 c2, .slice A3 n3 c3]) (by have c := Reg.consts a'; generalize a'.eval = ρ at *; simp [execOp, go_sem, c.1, c.2, e3, l0, l1, l2]) rfl hW
    · intro a' w1 live Sz E Dv Cl h0 hk hW
      have dg : a'.eval (.tmp 30) = .bool true := Dv 23 rfl _ _ rfl rfl
      have e1 : a'.eval (.tmp 1) = .int .i64 a := E 1 rfl
      exact Rgs.val rfl (Reg.wanted_if rfl rfl dg rfl) (.int .i64 a) (by have c := Reg.consts a'; generalize a'.eval = ρ at *; simp [execOp, go_sem, c.1, c.2, e1]) rfl hW
    · intro a' w1 live Sz E Dv Cl h0 hk hW
      have dg : a'.eval (.tmp 30) = .bool true := Dv 23 rfl _ _ rfl rfl
      have d27 : a'.eval (.tmp 34) = .agg #[.slice A1 n1 c1, .slice A2 n2 c2, .slice A3 n3 c3] := Dv 27 rfl _ _ rfl rfl
      have d28 : a'.eval (.tmp 35) = .int .i64 a := Dv 28 rfl _ _ rfl rfl
      refine Rgs.call rfl (Reg.wanted_if rfl rfl dg rfl) 28 #[.agg #[.slice A1 n1 c1, .slice A2 n2 c2, .slice A3 n3 c3], .int .i64 a] (by have c := Reg.consts a'; generalize a'.eval = ρ at *; simp [execOp, go_sem, c.1, c.2, d27, d28]) ?_
      have hth := (rreach_any A1 A2 A3 n1 n2 n3 c1 c2 c3 P C a w1 (HCF.out.on hW) q1 (by omega))
      rw [← hL] at hth
      refine hth.mono ?_
      rintro e w5 ⟨X, y, rfl, ho, hb5⟩
      exact ⟨_, rfl, ⟨_, X, y, rfl, ho⟩, hW.trans (hb5.mono hW.size), fun j v _ h => h.on hb5 j v⟩
    · intro a' w1 live Sz E Dv Cl h0 hk hW
      have dg : a'.eval (.tmp 30) = .bool true := Dv 23 rfl _ _ rfl rfl
      obtain ⟨B26, X26, y26, d26, ho26⟩ : RwV L (a'.eval (.tmp 33)) w1 := Dv 26 rfl _ _ rfl rfl
      obtain ⟨B29, X29, y29, d29, ho29⟩ : RwV L (a'.eval (.tmp 36)) w1 := Dv 29 rfl _ _ rfl rfl
      refine Rgs.call rfl (Reg.wanted_if rfl rfl dg rfl) 27 #[.slice X26 L.length y26, .slice X29 L.length y29] (by have c := Reg.consts a'; generalize a'.eval = ρ at *; simp [execOp, go_sem, c.1, c.2, d26, d29]) ?_
      refine (ints_same X26 X29 L.length y26 y29 (L.map fun x : Nat => (x : Int)) w1 ⟨by rw [List.length_map], ho26.rd⟩ ⟨by rw [List.length_map], ho29.rd⟩ hLl).mono ?_
      rintro e w5 ⟨rfl, hb5⟩
      exact ⟨_, rfl, rfl, hW.trans (hb5.mono hW.size), fun j v _ h => h.on hb5 j v⟩
    · intro a' w1 live Sz E Dv Cl h0 hk hW
      have d23 : a'.eval (.tmp 30) = .bool true := Dv 23 rfl _ _ rfl rfl
      have d30 : a'.eval (.tmp 37) = .bool true := Dv 30 rfl _ _ rfl rfl
      exact Rgs.val rfl (Reg.wanted_free rfl) (.bool true) (by have c := Reg.consts a'; generalize a'.eval = ρ at *; simp [execOp, go_sem, c.1, c.2, d23, d30]) rfl hW
    · intro a' w1 live Sz E Dv Cl h0 hk hW
      have d31 : a'.eval (.tmp 38) = .bool true := Dv 31 rfl _ _ rfl rfl
      exact Rgs.val rfl (Reg.wanted_free rfl) (.bool true) (by have c := Reg.consts a'; generalize a'.eval = ρ at *; simp [execOp, go_sem, c.1, c.2, d31]) rfl hW
    · intro a' w1 live Sz E Dv Cl h0 hk hW
      have dg : a'.eval (.tmp 39) = .bool true := Dv 32 rfl _ _ rfl rfl
      have e3 : a'.eval (.tmp 3) = .pointer (some ⟨gb, 0, none⟩) := E 3 rfl
      have l0 := (hW.cell (p := ⟨gb, 0, none⟩) (World.block_lt_of_cell? _ _ m0)).trans m0
      have l1 := (hW.cell (p := ⟨gb, 1, none⟩) (World.block_lt_of_cell? _ _ m1)).trans m1
      have l2 := (hW.cell (p := ⟨gb, 2, none⟩) (World.block_lt_of_cell? _ _ m2)).trans m2
      exact Rgs.val rfl (Reg.wanted_if rfl rfl dg rfl) (.agg #[.slice A1 n1 c1, .slice A2 n2 c2, .slice A3 n3 c3]) (by have c := Reg.consts a'; generalize a'.eval = ρ at *; simp [execOp, go_sem, c.1, c.2, e3, l0, l1, l2]) rfl hW
    · intro a' w1 live Sz E Dv Cl h0 hk hW
      have dg : a'.eval (.tmp 39) = .bool true := Dv 32 rfl _ _ rfl rfl
      have d33 : a'.eval (.tmp 40) = .agg #[.slice A1 n1 c1, .slice A2 n2 c2, .slice A3 n3 c3] := Dv 33 rfl _ _ rfl rfl
      refine Rgs.call rfl (Reg.wanted_if rfl rfl dg rfl) 25 #[.agg #[.slice A1 n1 c1, .slice A2 n2 c2, .slice A3 n3 c3]] (by have c := Reg.consts a'; generalize a'.eval = ρ at *; simp [execOp, go_sem, c.1, c.2, d33]) ?_
      have hth := (rsways_any A1 A2 A3 n1 n2 n3 c1 c2 c3 P C w1 (HCF.out.on hW) q1 (by omega))
      rw [← hS] at hth
      refine hth.mono ?_
      rintro e w5 ⟨g, G, rfl, hM, hb5⟩
      exact ⟨_, rfl, ⟨_, _, rfl, Nat.le_refl _, hM.rdm⟩, hW.trans (hb5.mono hW.size), fun j v _ h => h.on hb5 j v⟩
    · intro a' w1 live Sz E Dv Cl h0 hk hW
      have dg : a'.eval (.tmp 39) = .bool true := Dv 32 rfl _ _ rfl rfl
      obtain ⟨X34, y34, d34, hc34, hr34⟩ : MtV n1 S (a'.eval (.tmp 41)) w1 := Dv 34 rfl _ _ rfl rfl
      refine Rgs.call rfl (Reg.wanted_if rfl rfl dg rfl) 12 #[.slice X34 n1 y34] (by have c := Reg.consts a'; generalize a'.eval = ρ at *; simp [execOp, go_sem, c.1, c.2, d34]) ?_
      refine (closure_any X34 n1 y34 S w1 hr34 q1).mono ?_
      rintro e w5 ⟨g, G, rfl, hM, hb5⟩
      exact ⟨_, rfl, ⟨_, _, rfl, Nat.le_refl _, hM.rdm⟩, hW.trans (hb5.mono hW.size), fun j v _ h => h.on hb5 j v⟩
    · intro a' w1 live Sz E Dv Cl h0 hk hW
      have dg : a'.eval (.tmp 39) = .bool true := Dv 32 rfl _ _ rfl rfl
      have e3 : a'.eval (.tmp 3) = .pointer (some ⟨gb, 0, none⟩) := E 3 rfl
      have l0 := (hW.cell (p := ⟨gb, 0, none⟩) (World.block_lt_of_cell? _ _ m0)).trans m0
      have l1 := (hW.cell (p := ⟨gb, 1, none⟩) (World.block_lt_of_cell? _ _ m1)).trans m1
      have l2 := (hW.cell (p := ⟨gb, 2, none⟩) (World.block_lt_of_cell? _ _ m2)).trans m2
      exact Rgs.val rfl (Reg.wanted_if rfl rfl dg rfl) (.agg #[.slice A1 n1 c1, .slice A2 n2 c2, .slice A3 n3 c3]) (by have c := Reg.consts a'; generalize a'.eval = ρ at *; simp [execOp, go_sem, c.1, c.2, e3, l0, l1, l2]) rfl hW
    · intro a' w1 live Sz E Dv Cl h0 hk hW
      have dg : a'.eval (.tmp 39) = .bool true := Dv 32 rfl _ _ rfl rfl
      have d36 : a'.eval (.tmp 43) = .agg #[.slice A1 n1 c1, .slice A2 n2 c2, .slice A3 n3 c3] := Dv 36 rfl _ _ rfl rfl
      refine Rgs.call rfl (Reg.wanted_if rfl rfl dg rfl) 25 #[.agg #[.slice A1 n1 c1, .slice A2 n2 c2, .slice A3 n3 c3]] (by have c := Reg.consts a'; generalize a'.eval = ρ at *; simp [execOp, go_sem, c.1, c.2, d36]) ?_
      have hth := (rsways_any A1 A2 A3 n1 n2 n3 c1 c2 c3 P C w1 (HCF.out.on hW) q1 (by omega))
      rw [← hS] at hth
      refine hth.mono ?_
      rintro e w5 ⟨g, G, rfl, hM, hb5⟩
      exact ⟨_, rfl, ⟨_, _, rfl, Nat.le_refl _, hM.rdm⟩, hW.trans (hb5.mono hW.size), fun j v _ h => h.on hb5 j v⟩
    · intro a' w1 live Sz E Dv Cl h0 hk hW
      have dg : a'.eval (.tmp 39) = .bool true := Dv 32 rfl _ _ rfl rfl
      obtain ⟨X37, y37, d37, hc37, hr37⟩ : MtV n1 S (a'.eval (.tmp 44)) w1 := Dv 37 rfl _ _ rfl rfl
      refine Rgs.call rfl (Reg.wanted_if rfl rfl dg rfl) 15 #[.slice X37 n1 y37] (by have c := Reg.consts a'; generalize a'.eval = ρ at *; simp [execOp, go_sem, c.1, c.2, d37]) ?_
      refine (rclosure_any X37 n1 y37 (fun _ => n1) S w1 hr37 q1).mono ?_
      intro e w5 hq
      obtain ⟨X, y, rfl, hcy, hrx, hb5⟩ := hq.1 (sqB_iff.2 fun _ _ => rfl)
      exact ⟨_, rfl, ⟨X, y, rfl, hcy, hrx⟩, hW.trans (hb5.mono hW.size), fun j v _ h => h.on hb5 j v⟩
    · intro a' w1 live Sz E Dv Cl h0 hk hW
      have dg : a'.eval (.tmp 39) = .bool true := Dv 32 rfl _ _ rfl rfl
      obtain ⟨X35, y35, d35, hc35, hr35⟩ : MtV n1 (War S n1) (a'.eval (.tmp 42)) w1 := Dv 35 rfl _ _ rfl rfl
      obtain ⟨X38, y38, d38, hc38, hr38⟩ : MtV n1 (War S n1) (a'.eval (.tmp 45)) w1 := Dv 38 rfl _ _ rfl rfl
      refine Rgs.call rfl (Reg.wanted_if rfl rfl dg rfl) 11 #[.slice X35 n1 y35, .slice X38 n1 y38] (by have c := Reg.consts a'; generalize a'.eval = ρ at *; simp [execOp, go_sem, c.1, c.2, d35, d38]) ?_
      have hth := (matrix_any X35 X38 n1 n1 y35 y38 (fun _ => n1) (fun _ => n1) _ _ w1 hr35 hr38 (by omega) (fun _ _ => by omega))
      rw [matB_iff.2 ⟨rfl, fun i _ => ⟨rfl, fun j _ => rfl⟩⟩] at hth
      refine hth.mono ?_
      intro e w5 hq
      obtain ⟨rfl, hb5⟩ := hq.ans
      exact ⟨_, rfl, rfl, hW.trans (hb5.mono hW.size), fun j v _ h => h.on hb5 j v⟩
    · intro a' w1 live Sz E Dv Cl h0 hk hW
      have d32 : a'.eval (.tmp 39) = .bool true := Dv 32 rfl _ _ rfl rfl
      have d39 : a'.eval (.tmp 46) = .bool true := Dv 39 rfl _ _ rfl rfl
      exact Rgs.val rfl (Reg.wanted_free rfl) (.bool true) (by have c := Reg.consts a'; generalize a'.eval = ρ at *; simp [execOp, go_sem, c.1, c.2, d32, d39]) rfl hW
    · intro a' w1 live Sz E Dv Cl h0 hk hW
      have d40 : a'.eval (.tmp 47) = .bool true := Dv 40 rfl _ _ rfl rfl
      exact Rgs.val rfl (Reg.wanted_free rfl) (.bool true) (by have c := Reg.consts a'; generalize a'.eval = ρ at *; simp [execOp, go_sem, c.1, c.2, d40]) rfl hW
  · intro a' w3 live hs hd E Dv Hl hW
    have e6 : a'.eval (.tmp 6) = .bool true := by
      obtain ⟨v, hv, he⟩ := Dv 41 _ rfl
      exact (he 6 rfl).trans hv
    rw [Reg.act_lit a' 48 hs, hd]
    simp only [List.range, List.range.loop, List.map, e6]
    have HB3 := Lib.hid (HBW.out.trans (Below.mono hW HBW.out.size))
    clear E Dv Hl hW e6 m0 m1 m2
    generalize a'.eval = ρ
    clear a' hs hd
    go_wp2_with fail
    go_ret
    exact Ans.mk rfl HB3.out
end Go.Proofs.Ytknlhhbkahollaa
