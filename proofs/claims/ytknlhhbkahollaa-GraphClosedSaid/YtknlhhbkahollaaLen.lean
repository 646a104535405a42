/- How many ticks a table has, how deep it goes, by the program. -/
import Derived.Test.YtknlhhbkahollaaTimes
import Derived.Great.BuildSlice
import Derived.IntWalk
import Derived.BigQuiet
import Derived.Deep.QuietTactic
namespace Go.Proofs.Ytknlhhbkahollaa
open Go.RowKit Tab
set_option linter.unusedSimpArgs false
set_option linter.unusedVariables false

theorem Outer.low {o : List (Nat × Nat)} {fs : List F} (h : Outer o fs) (M : Nat) (hM : ∀ f ∈ fs, f.cnt < M) : ∀ e ∈ o, 1 ≤ e.1 ∧ e.1 ≤ M := by
  induction o generalizing fs with
  | nil => simp
  | cons x o ih =>
    obtain ⟨a, t⟩ := x
    cases fs with
    | nil => exact h.elim
    | cons f fs =>
      obtain ⟨h1, _, _, _, h5⟩ := h
      intro e he
      rcases List.mem_cons.1 he with rfl | he
      · have := hM f (by simp)
        dsimp only
        omega
      · exact ih h5 (fun g hg => hM g (by simp [hg])) e he
theorem flats_len (fs : List F) (f : F) (h : f ∈ fs) : f.cnt ≤ (flats fs).length := by
  induction fs with
  | nil => cases h
  | cons g fs ih =>
    simp only [flats, List.length_append]
    rcases List.mem_cons.1 h with rfl | h
    · have := F.cnt_le_sz f; rw [F.flat_length]; omega
    · have := ih h; omega
theorem InvP.low {st : List (Nat × Nat)} {cur : F} {fs : List F} (h : InvP st cur fs) {tl : List Nd} (hr : cur.flat ++ flats fs = tl) (M : Nat) (hM : tl.length < M) : ∀ e ∈ st, 1 ≤ e.1 ∧ e.1 ≤ M := by
  have hl := congrArg List.length hr
  rw [List.length_append, F.flat_length] at hl
  cases st with
  | nil => simp
  | cons x o =>
    obtain ⟨a, t⟩ := x
    obtain ⟨_, h1, h2, _, _, h5⟩ := h
    intro e he
    rcases List.mem_cons.1 he with rfl | he
    · have := F.cnt_le_sz cur
      dsimp only
      omega
    · exact Outer.low h5 M (fun f hf => by have := flats_len fs f hf; omega) e he

theorem pops_len (st : List (Nat × Nat)) : (pops st).length ≤ st.length := by
  induction st with
  | nil => simp [pops]
  | cons e o ih =>
    obtain ⟨a, t⟩ := e
    simp only [pops]
    split
    · simp
    · simp only [List.length_cons]; omega
theorem behind_len (st : List (Nat × Nat)) (x : Nd) : (behind st x).length ≤ st.length + 1 := by
  unfold behind
  split
  · simp
  · split
    · simp
    · have := pops_len st; omega
/-- What is told of so many ticks. -/
def lv (T : Nat) : Int := if T ≤ 4096 then (T : Int) else 0
def lb (T : Nat) : Bool := decide (T ≤ 4096)
def Len (T : Nat) (w : World) (e : Ending) (w' : World) : Prop := e = .returned (.tuple #[.int .i64 (lv T), .bool (lb T)]) ∧ Below w.heap.size w w'
theorem Len.mk {T : Nat} {z : Int} {b : Bool} {w w' : World} (h1 : lv T = z) (h2 : lb T = b) (hb : Below w.heap.size w w') : Len T w (.returned (.tuple #[.int .i64 z, .bool b])) w' := ⟨by rw [h1, h2], hb⟩
theorem kn_kz {x : Nd} (h : fine x = true) (h0 : kn x = 0) : kz x = 0 := by rw [kz_kn h, h0]; rfl
theorem kn_kz' {x : Nd} (h : fine x = true) (h0 : kn x ≠ 0) : ∃ K : Nat, kz x = (K : Int) ∧ 0 < K := ⟨kn x, kz_kn h, by omega⟩

end Go.Proofs.Ytknlhhbkahollaa
