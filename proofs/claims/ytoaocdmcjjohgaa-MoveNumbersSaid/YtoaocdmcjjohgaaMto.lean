/- What law 10's comparison calls: a move as the document's own, a row held against itself. -/
import Derived.Test.YtoaocdmcjjohgaaLow4
import Derived.Test.YtoaocdmcjjohgaaAsk
namespace Go.Proofs.Ytoaocdmcjjohgaa
open Go.RowKit Tab
set_option linter.unusedSimpArgs false
set_option linter.unusedVariables false

theorem loadVar_runM {w : World} {g : Nat} {v0 v1 v2 : Value} (h0 : w.cell? ⟨g, 0, none⟩ = some v0) (h1 : w.cell? ⟨g, 1, none⟩ = some v1) (h2 : w.cell? ⟨g, 2, none⟩ = some v2) : (loadVar 76 ⟨g, 0, none⟩).run Try.prog w = .ok (.agg #[v0, v1, v2]) w := by
  have e : (isAgg 76).run Try.prog w = .ok true w := by go_simp
  have e2 : (sizeOf 76).run Try.prog w = .ok 3 w := by go_simp
  unfold loadVar
  rw [Sem.run_bind, e, Result.andThen_ok]
  simp only [if_true]
  rw [Sem.run_bind, e2, Result.andThen_ok, Sem.run_bind]
  have := run_loadCells_list (P := Try.prog) (w := w) ⟨g, 0, none⟩ [v0, v1, v2] (fun j v hj => by
    match j with
    | 0 => simp at hj; subst hj; simpa [Addr.add] using h0
    | 1 => simp at hj; subst hj; simpa [Addr.add] using h1
    | 2 => simp at hj; subst hj; simpa [Addr.add] using h2
    | j + 3 => simp at hj)
  simp only [List.length_cons, List.length_nil] at this
  rw [this, Result.andThen_ok]
  rfl
theorem results_runM {fn : Func} {p : Tmp} (h : fn.results = #[.cell p 76]) {tmps : Array Value} {w : World} {g : Nat} {v0 v1 v2 : Value} (hp : tmps.getD p undef = .pointer (some ⟨g, 0, none⟩)) (h0 : w.cell? ⟨g, 0, none⟩ = some v0) (h1 : w.cell? ⟨g, 1, none⟩ = some v1) (h2 : w.cell? ⟨g, 2, none⟩ = some v2) :
    (results fn tmps).run Try.prog w = .ok (.agg #[v0, v1, v2]) w := by
  have e : (asAddr (.pointer (some ⟨g, 0, none⟩))).run Try.prog w = .ok ⟨g, 0, none⟩ w := rfl
  rw [results_cell1 h, hp, e, Result.andThen_ok, loadVar_runM h0 h1 h2]
theorem samx_self (A1 A2 : Option Addr) (n c1 c2 : Nat) (L : List Rn) (w : World) (h1 : RdR w w.heap.size A1 n L) (h2 : RdR w w.heap.size A2 n L) (hn : n ≤ 1048576) :
    Calls Try.prog 31 #[.slice A1 n c1, .slice A2 n c2] w (Ans (.bool true) w) := by
  have h := xsame_any A1 A2 n n c1 c2 L L w h1 h2 hn
  rw [(sameR_iff L L).2 rfl] at h
  exact h.mono fun _ _ k => k.ans
theorem to_any (I J : Int) (rt : Bool) (w : World) : Calls Try.prog 28 #[.agg #[.int .i64 I, .int .i64 J, .bool rt]] w (Ans (.agg #[.int .i64 I, .int .i64 J, .bool rt]) w) := by
  have hb1 := bl1 w (.cells #[.int .i64 I, .int .i64 J, .bool rt] 37)
  have hb2 := bl1 (w.alloc (.cells #[.int .i64 I, .int .i64 J, .bool rt] 37)) (.cells #[.int .i64 I, .int .i64 J, .bool rt] 76)
  have hsz : (w.alloc (.cells #[.int .i64 I, .int .i64 J, .bool rt] 37)).heap.size = w.heap.size + 1 := by simp
  have f0 : (w.alloc (.cells #[.int .i64 I, .int .i64 J, .bool rt] 37)).cell? ⟨w.heap.size, 0, none⟩ = some (.int .i64 I) := World.cell?_alloc_mark _ _ _ _ _
  have f1 : (w.alloc (.cells #[.int .i64 I, .int .i64 J, .bool rt] 37)).cell? ⟨w.heap.size, 1, none⟩ = some (.int .i64 J) := World.cell?_alloc_mark _ _ _ _ _
  have f2 : (w.alloc (.cells #[.int .i64 I, .int .i64 J, .bool rt] 37)).cell? ⟨w.heap.size, 2, none⟩ = some (.bool rt) := World.cell?_alloc_mark _ _ _ _ _
  have g0 : ((w.alloc (.cells #[.int .i64 I, .int .i64 J, .bool rt] 37)).alloc (.cells #[.int .i64 I, .int .i64 J, .bool rt] 76)).cell? ⟨(w.alloc (.cells #[.int .i64 I, .int .i64 J, .bool rt] 37)).heap.size, 0, none⟩ = some (.int .i64 I) := World.cell?_alloc_mark _ _ _ _ _
  have g1 : ((w.alloc (.cells #[.int .i64 I, .int .i64 J, .bool rt] 37)).alloc (.cells #[.int .i64 I, .int .i64 J, .bool rt] 76)).cell? ⟨(w.alloc (.cells #[.int .i64 I, .int .i64 J, .bool rt] 37)).heap.size, 1, none⟩ = some (.int .i64 J) := World.cell?_alloc_mark _ _ _ _ _
  have g2 : ((w.alloc (.cells #[.int .i64 I, .int .i64 J, .bool rt] 37)).alloc (.cells #[.int .i64 I, .int .i64 J, .bool rt] 76)).cell? ⟨(w.alloc (.cells #[.int .i64 I, .int .i64 J, .bool rt] 37)).heap.size, 2, none⟩ = some (.bool rt) := World.cell?_alloc_mark _ _ _ _ _
  rw [hsz] at g0 g1 g2
  have G0 := Lib.hid g0
  have G1 := Lib.hid g1
  have G2 := Lib.hid g2
  have HB := Lib.hid (hb1.trans (hb2.mono hb1.size))
  clear g0 g1 g2 hb1 hb2 hsz
  go_enter Try.func28, Try.ntmps28
  go_wp2_with fail
  exact bodyPost_ret (results_runM rfl rfl G0.out G1.out G2.out) rfl (Ans.mk rfl HB.out)
end Go.Proofs.Ytoaocdmcjjohgaa
