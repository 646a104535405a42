/- Chapter 4's runs. -/
import Derived.Test.YtgdkbeleapbffaaPart
import Derived.Laws.StructEq
namespace Go.Proofs.Ytgdkbeleapbffaa
open Go.RowKit Tab
set_option linter.unusedSimpArgs false
set_option linter.unusedVariables false

theorem rv_eql (x y : Int) (W : World) : (binOp .eql 48 (rv x y) (rv x y)).run Try.prog W = .ok (.bool true) W := by
  simp [run_eql_struct, go_sem]
theorem gb_cell {w w' : World} {b g o : Nat} {v : Value} (hG : w.grownBy w' (some b)) (h : w.cell? ⟨g, o, none⟩ = some v) (hne : g ≠ b) : w'.cell? ⟨g, o, none⟩ = some v :=
  (World.cell?_of_block (hG.block g (World.block_lt_of_cell? w _ h) (fun e => by injection e with e; omega))).trans h
theorem bl_cell {w w' : World} {g o : Nat} {v : Value} (hb : Below w.heap.size w w') (h : w.cell? ⟨g, o, none⟩ = some v) : w'.cell? ⟨g, o, none⟩ = some v :=
  (hb.cell (p := ⟨g, o, none⟩) (World.block_lt_of_cell? w _ h)).trans h
/-- A literal's row of nodes. -/
theorem RdN.lit (w : World) (C : Array Value) (l : List Nd) (m : Nat) (hl : l.length = m) (hC : C.toList = ns l) (hb : ∀ x ∈ l, NdIn x) : RdN (w.alloc (.cells C 31)) (w.alloc (.cells C 31)).heap.size (some ⟨w.heap.size, 0, none⟩) m l :=
  ⟨hl, rdV_new w C 31 (ns l) hC, hb⟩
theorem right_empty (w : World) : Calls Try.prog 26 #[.slice none 0 0] w (Ans (.int .i64 12) w) :=
  right_none none 0 0 [] w ⟨rfl, RdV.nil, fun _ h => by cases h⟩ (Nat.le_refl _) (by omega) rfl
set_option maxRecDepth 100000 in
set_option maxHeartbeats 4000000 in
theorem known_any (w : World) : Calls Try.prog 11 #[] w (Ans (.bool true) w) := by
  have hb0 := bl1 w (.cells #[.int .i64 4, .int .i64 0, .int .i64 2, .int .i64 1, .int .i64 2, .int .i64 5] 31)
  have hr0 := RdN.lit w #[.int .i64 4, .int .i64 0, .int .i64 2, .int .i64 1, .int .i64 2, .int .i64 5] (⟨4, 0, 2⟩ :: (F.cons ⟨1, 2, 5⟩ .nil .nil).flat) 2 rfl rfl (by intro x hx; simp [F.flat] at hx; rcases hx with rfl | rfl <;> exact ndIn_mk (by omega) (by omega) (by omega))
  have hN := new_right _ 2 2 ⟨4, 0, 2⟩ (F.cons ⟨1, 2, 5⟩ .nil .nil) _ hr0 (Nat.le_refl _) ⟨by decide, rfl, ⟨by decide, rfl, trivial, trivial⟩, trivial⟩ (by omega) (by decide) (by decide)
  have HN := Lib.hid hN
  clear hN hr0
  go_enter Try.func11, Try.ntmps11
  go_wp2_with fail
  refine HN.out.mono ?_
  rintro e w1 ⟨b, A1, n1, c1, rfl, hC1, hbb, hb1⟩
  have k1 := hb0.trans (hb1.mono hb0.size)
  have hbw : w.heap.size ≤ b := Nat.le_trans hb0.size hbb
  have HC1 : Hid (Cur w1 b A1 n1 c1 (⟨4, 0, 2⟩ :: (F.cons ⟨1, 2, 5⟩ .nil .nil).flat) [⟨2, 5⟩, ⟨2, 5⟩] 0 0) := Lib.hid hC1
  clear hC1 HN hb0 hb1
  generalize (⟨4, 0, 2⟩ :: (F.cons ⟨1, 2, 5⟩ .nil .nil).flat : List Nd) = l at HC1
  go_wp2_with fail
  refine (new_wrong none 0 0 w1 12 (right_empty w1) (by decide)).mono ?_
  rintro e w2 ⟨rfl, hb2⟩
  have k2 := k1.trans (hb2.mono k1.size)
  have hC2 := HC1.out.below hb2
  clear HC1 hb2 k1
  go_wp2_with fail
  refine (next_some b A1 n1 c1 l ⟨2, 5⟩ [⟨2, 5⟩] 0 0 w2 hC2).mono ?_
  rintro e w3 ⟨rfl, hC3, hG3⟩
  have k3 := below_gb k2 hG3 hbw k2.size
  have hC3' : Cur w3 b A1 n1 c1 l [⟨2, 5⟩] 0 5 := hC3
  clear hC2 hG3 hC3 k2
  go_wp2_with fail
  have hl3 := bl1 w3 (.cells #[.int .i64 2, .int .i64 5] 48)
  have hg3 : b ≠ w3.heap.size := by have := hC3'.lt; omega
  have v0 : (w3.alloc (.cells #[.int .i64 2, .int .i64 5] 48)).cell? ⟨w3.heap.size, 0, none⟩ = some (.int .i64 2) := World.cell?_alloc_mark _ _ _ _ _
  have v1 : (w3.alloc (.cells #[.int .i64 2, .int .i64 5] 48)).cell? ⟨w3.heap.size, 1, none⟩ = some (.int .i64 5) := World.cell?_alloc_mark _ _ _ _ _
  have hC4 := hC3'.below hl3
  have k4 := k3.trans (hl3.mono k3.size)
  refine (tick_some b A1 n1 c1 l ⟨2, 5⟩ [] 0 5 _ hC4).mono ?_
  rintro e w5 ⟨rfl, hC5, hG5⟩
  have k5 := below_gb k4 hG5 hbw k4.size
  have hC5' : Cur w5 b A1 n1 c1 l [⟨2, 5⟩] 1 6 := hC5
  have v0 := gb_cell hG5 v0 (Ne.symm hg3)
  have v1 := gb_cell hG5 v1 (Ne.symm hg3)
  clear hC4 hG5 hC5 k4 hC3' k3 hl3
  generalize w3.heap.size = g1 at v0 v1 hg3 ⊢
  go_wp2_with fail
  refine (at_any b A1 n1 c1 l [⟨2, 5⟩] 1 6 _ hC5').mono ?_
  rintro e w6 ⟨rfl, rfl⟩
  go_wp2_with fail
  refine (next_some b A1 n1 c1 l ⟨2, 5⟩ [] 1 6 _ hC5').mono ?_
  rintro e w7 ⟨rfl, hC7, hG7⟩
  have k7 := below_gb k5 hG7 hbw k5.size
  have hC7' : Cur w7 b A1 n1 c1 l [] 0 10 := hC7
  have v0 := gb_cell hG7 v0 (Ne.symm hg3)
  have v1 := gb_cell hG7 v1 (Ne.symm hg3)
  clear hC5' hG7 hC7 k5
  go_wp2_with fail
  have hl7 := bl1 w7 (.cells #[.int .i64 2, .int .i64 4] 48)
  have u0 : (w7.alloc (.cells #[.int .i64 2, .int .i64 4] 48)).cell? ⟨w7.heap.size, 0, none⟩ = some (.int .i64 2) := World.cell?_alloc_mark _ _ _ _ _
  have u1 : (w7.alloc (.cells #[.int .i64 2, .int .i64 4] 48)).cell? ⟨w7.heap.size, 1, none⟩ = some (.int .i64 4) := World.cell?_alloc_mark _ _ _ _ _
  have v0 := bl_cell hl7 v0
  have v1 := bl_cell hl7 v1
  have hC8 := hC7'.below hl7
  have k8 := k7.trans (hl7.mono k7.size)
  clear hC7' k7 hl7
  refine (next_end b A1 n1 c1 l 0 10 _ hC8).mono ?_
  rintro e w9 ⟨rfl, hb9⟩
  have v0 := bl_cell hb9 v0
  have v1 := bl_cell hb9 v1
  have u0 := bl_cell hb9 u0
  have u1 := bl_cell hb9 u1
  have hC9 := hC8.below hb9
  have k9 := k8.trans (hb9.mono k8.size)
  clear hC8 k8 hb9
  generalize w7.heap.size = g2 at u0 u1 ⊢
  go_wp2_with fail
  have hl9 := bl1 w9 (.cells #[.int .i64 0, .int .i64 0] 48)
  have v0 := bl_cell hl9 v0
  have v1 := bl_cell hl9 v1
  have u0 := bl_cell hl9 u0
  have u1 := bl_cell hl9 u1
  have hC10 := hC9.below hl9
  have k10 := k9.trans (hl9.mono k9.size)
  clear hC9 k9 hl9
  refine (tick_end b A1 n1 c1 l 0 10 _ hC10).mono ?_
  rintro e w11 ⟨rfl, hb11⟩
  have v0 := bl_cell hb11 v0
  have v1 := bl_cell hb11 v1
  have u0 := bl_cell hb11 u0
  have u1 := bl_cell hb11 u1
  have k11 := k10.trans (hb11.mono k10.size)
  clear hC10 k10 hb11
  have e1 := rv_eql 2 5
  have e2 := rv_eql 2 4
  go_wp2_with fail
  have hl11 := bl1 w11 (.cells #[.int .i64 2, .int .i64 0, .int .i64 1] 31)
  have k12 := k11.trans (hl11.mono k11.size)
  have hr1 := RdN.lit w11 #[.int .i64 2, .int .i64 0, .int .i64 1] (⟨2, 0, 1⟩ :: F.nil.flat) 1 rfl rfl (by intro x hx; simp [F.flat] at hx; subst hx; exact ndIn_mk (by omega) (by omega) (by omega))
  have hP := part_right _ 1 1 ⟨2, 0, 1⟩ .nil 0 _ hr1 (Nat.le_refl _) ⟨by decide, rfl, trivial, trivial⟩ (by omega) (by decide) (by decide)
  have e3 : whoAt (one ⟨2, 0, 1⟩ F.nil.lvs) 0 = -1 := by decide
  rw [e3] at hP
  refine hP.mono ?_
  rintro e w13 ⟨rfl, hb13⟩
  go_wp2_with fail
  go_ret
  exact Ans.mk rfl (k12.trans (hb13.mono k12.size))
end Go.Proofs.Ytgdkbeleapbffaa
