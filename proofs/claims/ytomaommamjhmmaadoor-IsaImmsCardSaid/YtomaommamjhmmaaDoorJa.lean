/- Instructions: what chapter 15 says of them; the document's own regs, Right, Imm. -/
import Derived.Test.YtomaommamjhmmaaDoorGen
import Derived.Deep.Cut
namespace Go.Proofs.YtomaommamjhmmaaDoor
open Go.RowKit
set_option linter.unusedSimpArgs false
set_option linter.unusedVariables false

/-- An instruction. -/
structure InsV where
  o : Int
  a : Int
  b : Int
  c : Int
deriving DecidableEq
def iv (x : InsV) : Value := .agg #[.int .i64 x.o, .int .i64 x.a, .int .i64 x.b, .int .i64 x.c]
/-- It answers v, and turns nothing. -/
def PurI (v : Value) (w : World) (e : Ending) (w' : World) : Prop := e = .returned v ∧ w = w'
/-- Which of A, B, C are registers. -/
def raF (o : Int) : Bool := o == 1 || o == 9 || o == 10 || o == 13 || o == 14 || o == 15 || o == 2 || o == 3 || o == 4 || o == 5 || o == 6 || o == 7
def rbF (o : Int) : Bool := o == 2 || o == 3 || o == 4 || o == 5 || o == 6 || o == 7 || o == 11 || o == 12
def rcF (o : Int) : Bool := o == 2 || o == 3 || o == 4 || o == 5
set_option maxRecDepth 100000 in
set_option maxHeartbeats 4000000 in
theorem rregs_any (o : Int) (w : World) : Calls Tryd.prog 21 #[.int .i64 o] w (PurI (.tuple #[.bool (raF o), .bool (rbF o), .bool (rcF o)]) w) := by
  by_cases h : o = 1 ∨ o = 9 ∨ o = 10 ∨ o = 13 ∨ o = 14 ∨ o = 15 ∨ o = 2 ∨ o = 3 ∨ o = 4 ∨ o = 5 ∨ o = 6 ∨ o = 7 ∨ o = 11 ∨ o = 12
  · rcases h with rfl | rfl | rfl | rfl | rfl | rfl | rfl | rfl | rfl | rfl | rfl | rfl | rfl | rfl <;>
      (go_enter Tryd.func21, Tryd.ntmps21
       go_wp2_with fail
       refine bodyPost_ret (results_tmp3 rfl _ _ _) rfl ?_
       exact ⟨rfl, rfl⟩)
  · have n1 : (o == 1) = false := by simp; omega
    have n2 : (o == 9) = false := by simp; omega
    have n3 : (o == 10) = false := by simp; omega
    have n4 : (o == 13) = false := by simp; omega
    have n5 : (o == 14) = false := by simp; omega
    have n6 : (o == 15) = false := by simp; omega
    have n7 : (o == 2) = false := by simp; omega
    have n8 : (o == 3) = false := by simp; omega
    have n9 : (o == 4) = false := by simp; omega
    have n10 : (o == 5) = false := by simp; omega
    have n11 : (o == 6) = false := by simp; omega
    have n12 : (o == 7) = false := by simp; omega
    have n13 : (o == 11) = false := by simp; omega
    have n14 : (o == 12) = false := by simp; omega
    have E1 : Hid (raF o = false ∧ rbF o = false ∧ rcF o = false) := Lib.hid (by unfold raF rbF rcF; simp [n1, n2, n3, n4, n5, n6, n7, n8, n9, n10, n11, n12, n13, n14])
    clear h
    go_enter Tryd.func21, Tryd.ntmps21
    go_wp2_with fail
    refine bodyPost_ret (results_tmp3 rfl _ _ _) rfl ?_
    exact ⟨by rw [E1.out.1, E1.out.2.1, E1.out.2.2]; rfl, rfl⟩
/-- A byte. -/
def byF (z : Int) : Bool := decide (0 ≤ z) && decide (z ≤ 255)
def rightF (x : InsV) : Bool := (byF x.a && (byF x.b && byF x.c)) && (decide (0 ≤ x.o) && decide (x.o ≤ 17) && (!raF x.o || decide (x.a < 8)) && (!rbF x.o || decide (x.b < 8)) && (!rcF x.o || decide (x.c < 8)))
theorem byF_yes {z : Int} (h : 0 ≤ z) (h2 : z ≤ 255) : byF z = true := by unfold byF; rw [decide_eq_true h, decide_eq_true h2]; rfl
theorem byF_no1 {z : Int} (h : z < 0) : byF z = false := by unfold byF; rw [decide_eq_false (by omega)]; rfl
theorem byF_no2 {z : Int} (h : 255 < z) : byF z = false := by unfold byF; rw [decide_eq_false (p := z ≤ 255) (by omega), Bool.and_false]
theorem mk_addI (g k : Nat) : (⟨g, 0, none⟩ : Addr).add k = ⟨g, k, none⟩ := by
  unfold Addr.add
  split
  · rename_i h; rw [h]
  · simp
/-- The i-th of three. -/
def of3 (a b c : Int) : Nat → Int
  | 0 => a
  | 1 => b
  | _ => c
set_option maxRecDepth 100000 in
set_option maxHeartbeats 4000000 in
theorem rright_any (x : InsV) (w : World) : Calls Tryd.prog 18 #[iv x] w (Ans (.bool (rightF x)) w) := by
  obtain ⟨o, a, b, c⟩ := x
  have HV : Hid (∀ v, v = rightF ⟨o, a, b, c⟩ → v = ((byF a && (byF b && byF c)) && (decide (0 ≤ o) && decide (o ≤ 17) && (!raF o || decide (a < 8)) && (!rbF o || decide (b < 8)) && (!rcF o || decide (c < 8))))) := Lib.hid fun v h => h
  obtain ⟨v, hv⟩ : ∃ v, v = rightF ⟨o, a, b, c⟩ := ⟨_, rfl⟩
  have HV2 := Lib.hid (HV.out v hv)
  rw [← hv]
  clear hv HV
  unfold iv
  dsimp only
  have hb0 := bl1 w (.cells #[.int .i64 o, .int .i64 a, .int .i64 b, .int .i64 c] 26)
  have n0 : (w.alloc (.cells #[.int .i64 o, .int .i64 a, .int .i64 b, .int .i64 c] 26)).cell? ⟨w.heap.size, 0, none⟩ = some (.int .i64 o) := World.cell?_alloc_mark _ _ _ _ _
  have n1 : (w.alloc (.cells #[.int .i64 o, .int .i64 a, .int .i64 b, .int .i64 c] 26)).cell? ⟨w.heap.size, 1, none⟩ = some (.int .i64 a) := World.cell?_alloc_mark _ _ _ _ _
  have n2 : (w.alloc (.cells #[.int .i64 o, .int .i64 a, .int .i64 b, .int .i64 c] 26)).cell? ⟨w.heap.size, 2, none⟩ = some (.int .i64 b) := World.cell?_alloc_mark _ _ _ _ _
  have n3 : (w.alloc (.cells #[.int .i64 o, .int .i64 a, .int .i64 b, .int .i64 c] 26)).cell? ⟨w.heap.size, 3, none⟩ = some (.int .i64 c) := World.cell?_alloc_mark _ _ _ _ _
  go_enter Tryd.func18, Tryd.ntmps18
  go_upto_region 1 with fail
  have hg0 : w.heap.size < (w.alloc (.cells #[.int .i64 o, .int .i64 a, .int .i64 b, .int .i64 c] 26)).heap.size := by simp
  generalize w.alloc (.cells #[.int .i64 o, .int .i64 a, .int .i64 b, .int .i64 c] 26) = w1 at hb0 n0 n1 n2 n3 hg0 ⊢
  have HB0 := Lib.hid hb0
  clear hb0
  obtain ⟨g, hg⟩ : ∃ g, g = w.heap.size := ⟨_, rfl⟩
  rw [← hg] at n0 n1 n2 n3 hg0 ⊢
  clear hg
  go_wp2_with fail
  have hb1 := bl1 w1 (.cells #[.int .i64 a, .int .i64 b, .int .i64 c] 3)
  have k0 : (w1.alloc (.cells #[.int .i64 a, .int .i64 b, .int .i64 c] 3)).cell? ⟨w1.heap.size, 0, none⟩ = some (.int .i64 a) := World.cell?_alloc_mark _ _ _ _ _
  have k1 : (w1.alloc (.cells #[.int .i64 a, .int .i64 b, .int .i64 c] 3)).cell? ⟨w1.heap.size, 1, none⟩ = some (.int .i64 b) := World.cell?_alloc_mark _ _ _ _ _
  have k2 : (w1.alloc (.cells #[.int .i64 a, .int .i64 b, .int .i64 c] 3)).cell? ⟨w1.heap.size, 2, none⟩ = some (.int .i64 c) := World.cell?_alloc_mark _ _ _ _ _
  have m0 := (hb1.cell (p := ⟨g, 0, none⟩) hg0).trans n0
  have m1 := (hb1.cell (p := ⟨g, 1, none⟩) hg0).trans n1
  have m2 := (hb1.cell (p := ⟨g, 2, none⟩) hg0).trans n2
  have m3 := (hb1.cell (p := ⟨g, 3, none⟩) hg0).trans n3
  have HB := Lib.hid (HB0.out.trans (hb1.mono HB0.out.size))
  clear HB0 hb1 n0 n1 n2 n3 hg0
  generalize w1.alloc (.cells #[.int .i64 a, .int .i64 b, .int .i64 c] 3) = w2 at HB k0 k1 k2 m0 m1 m2 m3 ⊢
  generalize w1.heap.size = g2 at k0 k1 k2 ⊢
  have HK := Lib.hid fun (i : Nat) (h : i < 3) => show w2.cell? ⟨g2, i, none⟩ = some (.int .i64 (of3 a b c i)) by
    rcases (by omega : i = 0 ∨ i = 1 ∨ i = 2) with rfl | rfl | rfl
    · exact k0
    · exact k1
    · exact k2
  have HV3 : Hid (∀ i, i < 3 → byF (of3 a b c i) = false → v = false) := Lib.hid fun i h e => by
    rw [HV2.out]
    rcases (by omega : i = 0 ∨ i = 1 ∨ i = 2) with rfl | rfl | rfl
    · rw [show byF a = false from e]; rfl
    · rw [show byF b = false from e, Bool.false_and, Bool.and_false]; rfl
    · rw [show byF c = false from e, Bool.and_false, Bool.and_false]; rfl
  have M := Lib.hid (And.intro m0 (And.intro m1 (And.intro m2 m3)))
  clear k0 k1 k2 m0 m1 m2 m3
  go_loopw [4, 16] (fun _ s wx => ∃ i : Nat, i ≤ 3 ∧ s = .int .i64 i ∧ (∀ j, j < i → byF (of3 a b c j) = true) ∧ wx = w2) (fun _ s _ => 3 - (intOf s).toNat)
  case atStart => exact ⟨0, by omega, rfl, fun j h => absurd h (by omega), rfl⟩
  case round =>
    obtain ⟨i, hi, rfl, hby, hw⟩ := hrel
    have HBY := Lib.hid hby
    have hw' := hw.symm
    clear hw hby
    subst hw'
    by_cases hi3 : i < 3
    · have hi3' : (i : Int) < 3 := by omega
      have hc := HK.out i hi3
      have ead := mk_addI g2 i
      obtain ⟨z, hz⟩ : ∃ z, of3 a b c i = z := ⟨_, rfl⟩
      rw [hz] at hc
      have HZ := Lib.hid hz
      clear hz
      rcases (by omega : z < 0 ∨ 255 < z ∨ (0 ≤ z ∧ z ≤ 255)) with h | h | h
      · have HE := Lib.hid (HV3.out i hi3 (by rw [HZ.out]; exact byF_no1 h))
        go_wp2_with fail
        go_ret
        exact Ans.mk (by rw [HE.out]; rfl) HB.out
      · have HE := Lib.hid (HV3.out i hi3 (by rw [HZ.out]; exact byF_no2 h))
        have h0 : ¬ z < 0 := by omega
        go_wp2_with fail
        go_ret
        exact Ans.mk (by rw [HE.out]; rfl) HB.out
      · have h0 : ¬ z < 0 := by omega
        have h1 : ¬ 255 < z := by omega
        have HE := Lib.hid (byF_yes h.1 h.2)
        clear h
        go_wp2_with fail
        go_roundw
        case rel => exact ⟨i + 1, by omega, by go_num, fun j hj => by
          by_cases e : j = i
          · rw [e, HZ.out]; exact HE.out
          · exact HBY.out j (by omega), trivial⟩
        case measure => simp [intOf]; omega
    · have hi3' : ¬ (i : Int) < 3 := by omega
      obtain rfl : i = 3 := by omega
      obtain ⟨m0, m1, m2, m3⟩ := M.out
      have hv4 : v = (decide (0 ≤ o) && decide (o ≤ 17) && (!raF o || decide (a < 8)) && (!rbF o || decide (b < 8)) && (!rcF o || decide (c < 8))) := by
        rw [HV2.out, show byF a = true from HBY.out 0 (by omega), show byF b = true from HBY.out 1 (by omega), show byF c = true from HBY.out 2 (by omega)]
        rfl
      have HV5 := Lib.hid hv4
      clear hv4 HV2 HV3 HBY HK M
      go_wp2_with fail
      refine (rregs_any o w2).mono ?_
      rintro e w3 ⟨rfl, rfl⟩
      go_wp2_with fail
      all_goals
        go_ret
        refine Ans.mk ?_ HB.out
        rw [HV5.out]
        simp [*]
        try (intros; exfalso; omega)
end Go.Proofs.YtomaommamjhmmaaDoor
