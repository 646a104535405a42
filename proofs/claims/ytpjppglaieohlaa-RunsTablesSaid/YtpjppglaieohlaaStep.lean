/- A cursor in memory: the next leaf, the next tick. -/
import Derived.Test.YtpjppglaieohlaaReset
namespace Go.Proofs.Ytpjppglaieohlaa
open Go.RowKit Tab
set_option linter.unusedSimpArgs false
set_option linter.unusedVariables false

/-- What stands in a variable of two cells that was just written, below a newer block. -/
theorem two_cells {w : World} {g : Nat} {x y u v : Value} {o : Obj} (h0 : w.cell? ⟨g, 0, none⟩ = some u) (h1 : w.cell? ⟨g, 1, none⟩ = some v) (hg : g < w.heap.size) :
    (((w.setCell ⟨g, 0, none⟩ x).setCell ⟨g, 1, none⟩ y).alloc o).cell? ⟨g, 0, none⟩ = some x ∧ (((w.setCell ⟨g, 0, none⟩ x).setCell ⟨g, 1, none⟩ y).alloc o).cell? ⟨g, 1, none⟩ = some y := by
  have hs : g < ((w.setCell ⟨g, 0, none⟩ x).setCell ⟨g, 1, none⟩ y).heap.size := by simpa [World.setCell] using hg
  constructor
  · rw [World.cell?_alloc_lt _ _ _ hs, World.cell?_setCell_other _ _ _ _ (by simp)]
    exact World.cell?_setCell_same _ _ _ h0
  · rw [World.cell?_alloc_lt _ _ _ hs]
    exact World.cell?_setCell_same _ _ _ ((World.cell?_setCell_other _ _ _ _ (by simp)).trans h1)
theorem two_cells0 {w : World} {g : Nat} {x y u v : Value} (h0 : w.cell? ⟨g, 0, none⟩ = some u) (h1 : w.cell? ⟨g, 1, none⟩ = some v) :
    ((w.setCell ⟨g, 0, none⟩ x).setCell ⟨g, 1, none⟩ y).cell? ⟨g, 0, none⟩ = some x ∧ ((w.setCell ⟨g, 0, none⟩ x).setCell ⟨g, 1, none⟩ y).cell? ⟨g, 1, none⟩ = some y := by
  constructor
  · rw [World.cell?_setCell_other _ _ _ _ (by simp)]
    exact World.cell?_setCell_same _ _ _ h0
  · exact World.cell?_setCell_same _ _ _ ((World.cell?_setCell_other _ _ _ _ (by simp)).trans h1)
/-- A new variable's cells, in a later world. -/
theorem new_two {w w1 : World} {x y : Int} {t : TypeId} (hb : Below (w.alloc (.cells #[.int .i64 x, .int .i64 y] t)).heap.size (w.alloc (.cells #[.int .i64 x, .int .i64 y] t)) w1) :
    w1.cell? ⟨w.heap.size, 0, none⟩ = some (.int .i64 x) ∧ w1.cell? ⟨w.heap.size, 1, none⟩ = some (.int .i64 y) ∧ w1.frozen? ⟨w.heap.size, 0, none⟩ = false ∧ w1.frozen? ⟨w.heap.size, 1, none⟩ = false ∧ w.heap.size < w1.heap.size := by
  have lt0 : w.heap.size < (w.alloc (.cells #[.int .i64 x, .int .i64 y] t)).heap.size := by simp
  exact ⟨(hb.cell (p := ⟨w.heap.size, 0, none⟩) lt0).trans (World.cell?_alloc_mark _ _ _ _ _), (hb.cell (p := ⟨w.heap.size, 1, none⟩) lt0).trans (World.cell?_alloc_mark _ _ _ _ _),
    (World.frozen?_of_block (a := ⟨w.heap.size, 0, none⟩) (hb.block _ lt0)).trans (by simp), (World.frozen?_of_block (a := ⟨w.heap.size, 1, none⟩) (hb.block _ lt0)).trans (by simp), Nat.lt_of_lt_of_le lt0 hb.size⟩
theorem new_two_gb {w w1 : World} {x y : Int} {t : TypeId} {b : Nat} (hg : (w.alloc (.cells #[.int .i64 x, .int .i64 y] t)).grownBy w1 (some b)) (hb : b < w.heap.size) :
    w1.cell? ⟨w.heap.size, 0, none⟩ = some (.int .i64 x) ∧ w1.cell? ⟨w.heap.size, 1, none⟩ = some (.int .i64 y) ∧ w1.frozen? ⟨w.heap.size, 0, none⟩ = false ∧ w1.frozen? ⟨w.heap.size, 1, none⟩ = false ∧ w.heap.size < w1.heap.size := by
  have lt0 : w.heap.size < (w.alloc (.cells #[.int .i64 x, .int .i64 y] t)).heap.size := by simp
  have hk := hg.block w.heap.size lt0 (fun e => by injection e with e; omega)
  exact ⟨(World.cell?_of_block (a := ⟨w.heap.size, 0, none⟩) hk).trans (World.cell?_alloc_mark _ _ _ _ _), (World.cell?_of_block (a := ⟨w.heap.size, 1, none⟩) hk).trans (World.cell?_alloc_mark _ _ _ _ _),
    (World.frozen?_of_block (a := ⟨w.heap.size, 0, none⟩) hk).trans (by simp), (World.frozen?_of_block (a := ⟨w.heap.size, 1, none⟩) hk).trans (by simp), Nat.lt_of_lt_of_le lt0 hg.size⟩
set_option maxRecDepth 100000 in
set_option maxHeartbeats 3200000 in
theorem next_end (b : Nat) (A : Option Addr) (n cap : Nat) (l : List Nd) (tk gn : Nat) (w : World) (h : Cur w b A n cap l [] tk gn) :
    Calls Try.prog 31 #[.pointer (some ⟨b, 0, none⟩)] w (Ans (.tuple #[rv 0 0, .bool false]) w) := by
  have hb1 := bl1 w (.cells #[.int .i64 0, .int .i64 0] 30)
  have hL : Calls Try.prog 43 #[.pointer (some ⟨b, 0, none⟩)] (w.alloc (.cells #[.int .i64 0, .int .i64 0] 30)) (Ans (rv (-1) 0) (w.alloc (.cells #[.int .i64 0, .int .i64 0] 30))) := left_any b A n cap l [] tk gn _ (h.below hb1)
  have HL := Lib.hid hL
  clear hL h
  go_enter Try.func31, Try.ntmps31
  go_wp2_with fail
  refine HL.out.mono ?_
  rintro e w1 ⟨rfl, hb2⟩
  have hk := hb1.trans (hb2.mono hb1.size)
  obtain ⟨m0, m1, f0, f1, hgl⟩ := new_two hb2
  clear hb1 hb2 HL
  generalize hg : w.heap.size = g at m0 m1 f0 f1 hgl hk ⊢
  have HG := Lib.hid hg
  clear hg
  go_wp2_with fail
  refine bodyPost_ret (results_run2 rfl rfl (two_cells m0 m1 hgl).1 (two_cells m0 m1 hgl).2) rfl ⟨rfl, ?_⟩
  rw [HG.out]
  exact ((hk.setCell (p := ⟨g, 0, none⟩) (Nat.le_refl _) _).setCell (p := ⟨g, 1, none⟩) (Nat.le_refl _) _).alloc (by have := hk.size; rw [HG.out] at this; simpa [World.setCell] using this) _
theorem nextTd_all (r : Rn) (s : List Rn) (tk : Nat) (h : tk < r.n) : nextTd (r :: s) tk (r.n - tk) = (s, 0) := by simp only [nextTd]; rw [if_neg (by omega)]
theorem gb_old {w w1 : World} {b : Nat} {o : Obj} (hg : (w.alloc o).grownBy w1 (some b)) : w.grownBy w1 (some b) := gb_trans (gb_alloc (gb_refl _ _) o) hg
theorem gb_set_new {a w : World} {g b : Nat} {x : Value} {i : Nat} (h : a.grownBy w (some b)) (hg : a.heap.size ≤ g) : a.grownBy (w.setCell ⟨g, i, none⟩ x) (some b) :=
  ⟨h.os, h.tape, h.output, by have := h.size; simpa [World.setCell] using this, fun k hk hne => (Below.heap_setCell w ⟨g, i, none⟩ x k (fun e => by dsimp only at e; omega)).trans (h.block k hk hne)⟩
set_option maxRecDepth 100000 in
set_option maxHeartbeats 3200000 in
theorem next_some (b : Nat) (A : Option Addr) (n cap : Nat) (l : List Nd) (r : Rn) (s : List Rn) (tk gn : Nat) (w : World) (h : Cur w b A n cap l (r :: s) tk gn) :
    Calls Try.prog 31 #[.pointer (some ⟨b, 0, none⟩)] w (CurN b A n cap l s 0 (gn + (r.n - tk)) (.tuple #[rv r.p ((r.n - tk : Nat) : Int), .bool true]) w) := by
  have hlt := h.lt
  have htk := h.low r s rfl
  have hb1 := bl1 w (.cells #[.int .i64 0, .int .i64 0] 30)
  have hL : Calls Try.prog 43 #[.pointer (some ⟨b, 0, none⟩)] (w.alloc (.cells #[.int .i64 0, .int .i64 0] 30)) (Ans (rv r.p ((r.n - tk : Nat) : Int)) (w.alloc (.cells #[.int .i64 0, .int .i64 0] 30))) := left_any b A n cap l (r :: s) tk gn _ (h.below hb1)
  have hK := fun w' (hc : Cur w' b A n cap l (r :: s) tk gn) => take_any b A n cap l r s tk gn (r.n - tk) w' hc (by omega) (by omega)
  rw [nextTd_all r s tk htk] at hK
  have HL := Lib.hid hL
  have HK := Lib.hid hK
  have HC := Lib.hid h
  have hm0 : 0 < r.n - tk := by omega
  clear hL h hK htk
  generalize r.n - tk = m at HL HK hm0 ⊢
  generalize r.p = q at HL ⊢
  have hne : ((m : Int) == 0) = false := beq_eq_false_iff_ne.2 (by omega)
  go_enter Try.func31, Try.ntmps31
  go_wp2_with fail
  refine HL.out.mono ?_
  rintro e w1 ⟨rfl, hb2⟩
  have hk := hb1.trans (hb2.mono hb1.size)
  obtain ⟨m0, m1, f0, f1, hgl⟩ := new_two hb2
  have hC1 := HC.out.below hk
  have HC1 := Lib.hid hC1
  clear hb1 hb2 HL hC1
  generalize hg : w.heap.size = g at m0 m1 f0 f1 hgl hk hlt ⊢
  have HG := Lib.hid hg
  clear hg
  go_wp2_with fail
  have hb3 := bl1 w1 (.cells #[.int .i64 q, .int .i64 (m : Int)] 30)
  refine (HK.out _ (HC1.out.below hb3)).mono ?_
  rintro e w2 ⟨rfl, hC2, hG2⟩
  have hbl : b < w1.heap.size := by omega
  obtain ⟨p0, p1, _, _, hgl2⟩ := new_two_gb hG2 hbl
  have hk2 := hG2.block g (by simp; omega) (fun e => by injection e with e; omega)
  have hk3 : (w1.alloc (.cells #[.int .i64 q, .int .i64 (m : Int)] 30)).heap[g]? = w1.heap[g]? := Below.heap_alloc w1 _ g hgl
  have n0 : w2.cell? ⟨g, 0, none⟩ = some (.int .i64 0) := (World.cell?_of_block (a := ⟨g, 0, none⟩) (hk2.trans hk3)).trans m0
  have n1 : w2.cell? ⟨g, 1, none⟩ = some (.int .i64 0) := (World.cell?_of_block (a := ⟨g, 1, none⟩) (hk2.trans hk3)).trans m1
  have e0 : w2.frozen? ⟨g, 0, none⟩ = false := (World.frozen?_of_block (a := ⟨g, 0, none⟩) (hk2.trans hk3)).trans f0
  have e1 : w2.frozen? ⟨g, 1, none⟩ = false := (World.frozen?_of_block (a := ⟨g, 1, none⟩) (hk2.trans hk3)).trans f1
  have HC2 := Lib.hid hC2
  have HG2 := Lib.hid hG2
  clear m0 m1 f0 f1 hC2 hG2
  generalize w1.heap.size = g2 at p0 p1 ⊢
  go_wp2_with fail
  have hgw : w.grownBy w2 (some b) := gb_trans (gb_alloc (gb_below (gb_refl w _) hk (by rw [HG.out]; exact Nat.le_refl _)) _) HG2.out
  refine bodyPost_ret (results_run2 rfl rfl (two_cells0 n0 n1).1 (two_cells0 n0 n1).2) rfl ⟨rfl, HC2.out.gb (gb_set (gb_set (gb_refl _ _) 0 _) 1 _) hlt, gb_set_new (gb_set_new hgw (by rw [HG.out]; exact Nat.le_refl _)) (by rw [HG.out]; exact Nat.le_refl _)⟩
end Go.Proofs.Ytpjppglaieohlaa
