/- A run as a node: the leaf of a row. -/
import Derived.Test.YtjbflndlfdekiaaLow4
import Derived.Test.YtjbflndlfdekiaaLow2
namespace Go.Proofs.Ytjbflndlfdekiaa
open Go.RowKit Tab
set_option linter.unusedSimpArgs false
set_option linter.unusedVariables false

theorem loadNd_run {w : World} {g : Nat} {x y z : Int} (h0 : w.cell? ⟨g, 0, none⟩ = some (.int .i64 x)) (h1 : w.cell? ⟨g, 1, none⟩ = some (.int .i64 y)) (h2 : w.cell? ⟨g, 2, none⟩ = some (.int .i64 z)) : (loadVar 53 ⟨g, 0, none⟩).run Try.prog w = .ok (nd x y z) w := by
  have e : (isAgg 53).run Try.prog w = .ok true w := by go_simp
  have e2 : (sizeOf 53).run Try.prog w = .ok 3 w := by go_simp
  unfold loadVar
  rw [Sem.run_bind, e, Result.andThen_ok]
  simp only [if_true]
  rw [Sem.run_bind, e2, Result.andThen_ok, Sem.run_bind]
  have := run_loadCells_list (P := Try.prog) (w := w) ⟨g, 0, none⟩ [.int .i64 x, .int .i64 y, .int .i64 z] (fun j v hj => by
    match j with
    | 0 => simp at hj; subst hj; simpa [Addr.add] using h0
    | 1 => simp at hj; subst hj; simpa [Addr.add] using h1
    | 2 => simp at hj; subst hj; simpa [Addr.add] using h2
    | j + 3 => simp at hj)
  simp only [List.length_cons, List.length_nil] at this
  rw [this, Result.andThen_ok]
  rfl
theorem results_nd {fn : Func} {p : Tmp} (h : fn.results = #[.cell p 53]) {tmps : Array Value} {w : World} {g : Nat} {x y z : Int} (hp : tmps.getD p undef = .pointer (some ⟨g, 0, none⟩)) (h0 : w.cell? ⟨g, 0, none⟩ = some (.int .i64 x)) (h1 : w.cell? ⟨g, 1, none⟩ = some (.int .i64 y)) (h2 : w.cell? ⟨g, 2, none⟩ = some (.int .i64 z)) :
    (results fn tmps).run Try.prog w = .ok (nd x y z) w := by
  have e : (asAddr (.pointer (some ⟨g, 0, none⟩))).run Try.prog w = .ok ⟨g, 0, none⟩ w := rfl
  rw [results_cell1 h, hp, e, Result.andThen_ok, loadNd_run h0 h1 h2]
/-- A node in a variable's block. -/
theorem mark_nd (w : World) (x y z : Int) (t : TypeId) (g : Nat) (hg : g = w.heap.size) : (w.alloc (.cells #[.int .i64 x, .int .i64 y, .int .i64 z] t)).cell? ⟨g, 0, none⟩ = some (.int .i64 x) ∧ (w.alloc (.cells #[.int .i64 x, .int .i64 y, .int .i64 z] t)).cell? ⟨g, 1, none⟩ = some (.int .i64 y) ∧ (w.alloc (.cells #[.int .i64 x, .int .i64 y, .int .i64 z] t)).cell? ⟨g, 2, none⟩ = some (.int .i64 z) := by
  subst hg
  exact ⟨World.cell?_alloc_mark _ _ _ _ _, World.cell?_alloc_mark _ _ _ _ _, World.cell?_alloc_mark _ _ _ _ _⟩
theorem leafN_idle (n : Nat) : leafN ⟨-1, n⟩ = ⟨2, 0, (n : Int)⟩ := if_pos rfl
theorem leafN_win {p : Int} (n : Nat) (h : ¬ p = -1) : leafN ⟨p, n⟩ = ⟨1, p, (n : Int)⟩ := if_neg h
set_option maxRecDepth 100000 in
set_option maxHeartbeats 1600000 in
theorem leaf_any (r : Rn) (w : World) : Calls Try.prog 31 #[rv r.p (r.n : Int)] w (Ans (nd (leafN r).k (leafN r).p (leafN r).n) w) := by
  obtain ⟨p, n⟩ := r
  by_cases h : p = -1
  · subst h
    go_enter Try.func31, Try.ntmps31
    go_wp2_with fail
    obtain ⟨h0, h1, h2⟩ := mark_nd (w.alloc (.cells #[.int .i64 (-1), .int .i64 (n : Int)] 41)) 2 0 (n : Int) 53 (w.heap.size + 1) (by simp)
    refine bodyPost_ret (results_nd rfl rfl h0 h1 h2) rfl ⟨by rw [leafN_idle], (bl1 _ _).alloc (by simp) _⟩
  · go_enter Try.func31, Try.ntmps31
    go_wp2_with fail
    obtain ⟨h0, h1, h2⟩ := mark_nd (w.alloc (.cells #[.int .i64 p, .int .i64 (n : Int)] 41)) 1 p (n : Int) 53 (w.heap.size + 1) (by simp)
    refine bodyPost_ret (results_nd rfl rfl h0 h1 h2) rfl ⟨by rw [leafN_win n h], (bl1 _ _).alloc (by simp) _⟩
end Go.Proofs.Ytjbflndlfdekiaa
