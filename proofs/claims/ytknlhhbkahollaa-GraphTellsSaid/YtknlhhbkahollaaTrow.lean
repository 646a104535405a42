/- A row of runs that is made of a tape of numbers. -/
import Derived.Test.YtknlhhbkahollaaLow4
import Derived.Test.YtknlhhbkahollaaLow3
namespace Go.Proofs.Ytknlhhbkahollaa
open Go.RowKit Tab
set_option linter.unusedSimpArgs false
set_option linter.unusedVariables false

/-- A run of the kind that a tape makes. -/
def Fair (parts : Nat) (r : Rn) : Prop := 1 ≤ r.n ∧ r.n ≤ 4 ∧ -1 ≤ r.p ∧ r.p < parts
theorem fair_ticks {parts : Nat} {L : List Rn} (h : ∀ r ∈ L, Fair parts r) : ticks L ≤ 4 * L.length := by
  induction L with
  | nil => simp [ticks]
  | cons x L ih =>
    have h1 := h x (by simp)
    have h2 := ih fun r hr => h r (by simp [hr])
    unfold Fair at h1
    simp only [ticks, List.length_cons]
    omega
/-- A row of runs, new; of what was there the tape alone has turned. -/
def RowT (B b : Nat) (A : Option Addr) (m c : Nat) (f : Nat → Int) (parts most : Nat) (w : World) (e : Ending) (w' : World) : Prop :=
  ∃ (L : List Rn) (A' : Option Addr) (n' c' at' : Nat), e = .returned (.slice A' n' c') ∧ (∀ r ∈ L, Fair parts r) ∧ OwnV 88 2 w' w.heap.size A' n' c' (rs L) ∧ 1 ≤ n' ∧ n' ≤ most ∧ TapeW w' B b A m c f at' ∧ w.grownBy w' (some b)
theorem OwnV.gb {E s : Nat} {w w' : World} {B n c b : Nat} {A : Option Addr} {l : List Value} (h : OwnV E s w B A n c l) (hg : w.grownBy w' (some b)) (hb : b < B) : OwnV E s w' B A n c l :=
  h.keep fun k hk hlt => hg.block k hlt (fun e => by injection e with e; omega)
/-- A row of runs, new; what was there is as it was. -/
def RowB (parts most : Nat) (w : World) (e : Ending) (w' : World) : Prop :=
  ∃ (L : List Rn) (A' : Option Addr) (n' c' : Nat), e = .returned (.slice A' n' c') ∧ (∀ r ∈ L, Fair parts r) ∧ RdR w' w'.heap.size A' n' L ∧ n' ≤ c' ∧ 1 ≤ n' ∧ n' ≤ most ∧ Below w.heap.size w w'
end Go.Proofs.Ytknlhhbkahollaa
