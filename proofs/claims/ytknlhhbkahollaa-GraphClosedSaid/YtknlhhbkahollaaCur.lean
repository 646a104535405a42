/- A cursor in memory: what is left of its leaf, taking of it, the next leaf, the next tick. -/
import Derived.Test.YtknlhhbkahollaaEnter
import Derived.Laws.ResultCell
namespace Go.Proofs.Ytknlhhbkahollaa
open Go.RowKit Tab
set_option linter.unusedSimpArgs false
set_option linter.unusedVariables false

/-- A cursor over the table l at block b: the leaves td are to come, of the first tk ticks are taken; gn are gone. -/
structure Cur (w : World) (b : Nat) (A : Option Addr) (n cap : Nat) (l : List Nd) (td : List Rn) (tk gn : Nat) : Prop where
  tb : Tb w b A n cap l
  ex : ∃ (c : Nat → Value) (st : List (Nat × Nat)) (p : Nat), Blk w b c ∧ PathC c st ∧ c 0 = .slice A n cap ∧ c 34 = .int .i64 (p : Int) ∧ c 35 = .int .i64 (tk : Int) ∧ c 36 = .int .i64 (gn : Int) ∧ AtL l st p td
  low : ∀ r s, td = r :: s → tk < r.n
  low0 : td = [] → tk = 0
  sum : gn + ticks td ≤ 1048576 + tk
  pos : ∀ r ∈ td, 1 ≤ r.n
theorem Cur.lt {w : World} {b : Nat} {A : Option Addr} {n cap : Nat} {l : List Nd} {td : List Rn} {tk gn : Nat} (h : Cur w b A n cap l td tk gn) : b < w.heap.size := by
  obtain ⟨c, st, p, hB, _⟩ := h.ex
  exact hB.lt
theorem Cur.below {w w' : World} {b : Nat} {A : Option Addr} {n cap : Nat} {l : List Nd} {td : List Rn} {tk gn : Nat} (h : Cur w b A n cap l td tk gn) (hb : Below w.heap.size w w') : Cur w' b A n cap l td tk gn := by
  obtain ⟨c, st, p, hB, r⟩ := h.ex
  have hlt := hB.lt
  exact ⟨⟨⟨h.tb.rd.len, h.tb.rd.rd.keep fun q hq => World.cell?_of_block (hb.block q.block (by omega)), h.tb.rd.bd⟩, h.tb.cap, h.tb.hn⟩, ⟨c, st, p, hB.keep (hb.block b hlt), r⟩, h.low, h.low0, h.sum, h.pos⟩
theorem Below.drewN {B : Nat} {w w' : World} (h : Below B w w') (q : Nat) : Below B w (w'.drewN q) := ⟨h.os, h.tape, h.output, h.size, h.block⟩
/-- The run that is left: of none -1, 0. -/
def leftR : List Rn → Nat → Rn
  | [], _ => ⟨-1, 0⟩
  | r :: _, tk => ⟨r.p, r.n - tk⟩
abbrev rv (p n : Int) : Value := .agg #[.int .i64 p, .int .i64 n]
theorem loadVar_run {w : World} {g : Nat} {x y : Int} (h0 : w.cell? ⟨g, 0, none⟩ = some (.int .i64 x)) (h1 : w.cell? ⟨g, 1, none⟩ = some (.int .i64 y)) : (loadVar 88 ⟨g, 0, none⟩).run Try.prog w = .ok (rv x y) w := by
  have e : (isAgg 88).run Try.prog w = .ok true w := by go_simp
  have e2 : (sizeOf 88).run Try.prog w = .ok 2 w := by go_simp
  unfold loadVar
  rw [Sem.run_bind, e, Result.andThen_ok]
  simp only [if_true]
  rw [Sem.run_bind, e2, Result.andThen_ok, Sem.run_bind]
  have := run_loadCells_list (P := Try.prog) (w := w) ⟨g, 0, none⟩ [.int .i64 x, .int .i64 y] (fun j v hj => by
    match j with
    | 0 => simp at hj; subst hj; simpa [Addr.add] using h0
    | 1 => simp at hj; subst hj; simpa [Addr.add] using h1
    | j + 2 => simp at hj)
  simp only [List.length_cons, List.length_nil] at this
  rw [this, Result.andThen_ok]
  rfl
theorem results_cell1 {fn : Func} {p : Tmp} {ty : TypeId} (h : fn.results = #[.cell p ty]) (tmps : Array Value) (P : Program) (w : World) :
    (results fn tmps).run P w = ((asAddr (tmps.getD p undef)).run P w).andThen fun a w₁ => (loadVar ty a).run P w₁ := by
  simp only [results, h]
  simp [Sem.run_bind, Result.andThen]
theorem results_run {fn : Func} {p : Tmp} (h : fn.results = #[.cell p 88]) {tmps : Array Value} {w : World} {g : Nat} {x y : Int} (hp : tmps.getD p undef = .pointer (some ⟨g, 0, none⟩)) (h0 : w.cell? ⟨g, 0, none⟩ = some (.int .i64 x)) (h1 : w.cell? ⟨g, 1, none⟩ = some (.int .i64 y)) :
    (results fn tmps).run Try.prog w = .ok (rv x y) w := by
  have e : (asAddr (.pointer (some ⟨g, 0, none⟩))).run Try.prog w = .ok ⟨g, 0, none⟩ w := rfl
  rw [results_cell1 h, hp, e, Result.andThen_ok, loadVar_run h0 h1]
theorem results_run2 {fn : Func} {p q : Tmp} (h : fn.results = #[.cell p 88, .tmp q]) {tmps : Array Value} {w : World} {g : Nat} {x y : Int} (hp : tmps.getD p undef = .pointer (some ⟨g, 0, none⟩)) (h0 : w.cell? ⟨g, 0, none⟩ = some (.int .i64 x)) (h1 : w.cell? ⟨g, 1, none⟩ = some (.int .i64 y)) :
    (results fn tmps).run Try.prog w = .ok (.tuple #[rv x y, tmps.getD q undef]) w := by
  have e : (asAddr (.pointer (some ⟨g, 0, none⟩))).run Try.prog w = .ok ⟨g, 0, none⟩ w := rfl
  rw [results_cell_tmp h, hp, e, Result.andThen_ok, loadVar_run h0 h1, Result.andThen_ok]
end Go.Proofs.Ytknlhhbkahollaa
