/- Whether configurations are the same: by the document's own answer, exactly. -/
import Derived.Test.YtgoeikihjffeoaaYd
import Derived.Deep.RegionWith
namespace Go.Proofs.Ytgoeikihjffeoaa
open Go.RowKit Tab
set_option linter.unusedSimpArgs false
set_option linter.unusedVariables false

/-- A channel's content. -/
def chT (x : ChV) : Int × Int × Bool × Int × Int × Int := (x.from_, x.to_, x.queue, x.cap, x.max, x.late)
theorem chT_inj {x y : ChV} (h : chT x = chT y) : x = y := by
  obtain ⟨a, b, c, d, e, f⟩ := x
  obtain ⟨a2, b2, c2, d2, e2, f2⟩ := y
  unfold chT at h
  simp at h
  obtain ⟨rfl, rfl, rfl, rfl, rfl, rfl⟩ := h
  rfl
instance : DecidableEq ChV := fun x y => if h : chT x = chT y then isTrue (chT_inj h) else isFalse fun e => h (by rw [e])
set_option maxHeartbeats 2000000 in
theorem ch_neqs (x y : ChV) (W : World) : (binOp .neq 40 (cv x) (cv y)).run Try.prog W = .ok (.bool (!(decide (x = y)))) W := by
  obtain ⟨a, b, c, d, e, f⟩ := x
  obtain ⟨a2, b2, c2, d2, e2, f2⟩ := y
  by_cases h1 : a = a2
  · by_cases h2 : b = b2
    · by_cases h3 : c = c2
      · by_cases h4 : d = d2
        · by_cases h5 : e = e2
          · by_cases h6 : f = f2
            · subst h1; subst h2; subst h3; subst h4; subst h5; subst h6
              simp [run_neq_struct, go_sem]
            · subst h1; subst h2; subst h3; subst h4; subst h5
              simp [run_neq_struct, go_sem, h6]
          · subst h1; subst h2; subst h3; subst h4
            simp [run_neq_struct, go_sem, h5]
        · subst h1; subst h2; subst h3
          simp [run_neq_struct, go_sem, h4]
      · subst h1; subst h2
        simp [run_neq_struct, go_sem, h3]
    · subst h1
      simp [run_neq_struct, go_sem, h2]
  · simp [run_neq_struct, go_sem, h1]
/-- The same, but for the tables. -/
def SameB (P : List Pq) (C : List ChV) (P' : List Pq) (C' : List ChV) : Prop := P.length = P'.length ∧ (∀ (i : Nat) (x y : Pq), P[i]? = some x → P'[i]? = some y → SameP x y) ∧ C = C'
def SameC (P : List Pq) (C : List ChV) (T : List NdT) (P' : List Pq) (C' : List ChV) (T' : List NdT) : Prop := SameB P C P' C' ∧ T.length = T'.length ∧ (∀ (i : Nat) (x y : NdT), T[i]? = some x → T'[i]? = some y → sameN x.l y.l = true)
open Classical in
noncomputable def butF (P : List Pq) (C : List ChV) (P' : List Pq) (C' : List ChV) : Bool := decide (SameB P C P' C')
open Classical in
noncomputable def sameF (P : List Pq) (C : List ChV) (T : List NdT) (P' : List Pq) (C' : List ChV) (T' : List NdT) : Bool := decide (SameC P C T P' C' T')
theorem butF_yes {P : List Pq} {C : List ChV} {P' : List Pq} {C' : List ChV} (h : SameB P C P' C') : butF P C P' C' = true := by unfold butF; classical exact decide_eq_true h
theorem butF_no {P : List Pq} {C : List ChV} {P' : List Pq} {C' : List ChV} (h : ¬ SameB P C P' C') : butF P C P' C' = false := by unfold butF; classical exact decide_eq_false h
theorem sameF_yes {P : List Pq} {C : List ChV} {T : List NdT} {P' : List Pq} {C' : List ChV} {T' : List NdT} (h : SameC P C T P' C' T') : sameF P C T P' C' T' = true := by unfold sameF; classical exact decide_eq_true h
theorem sameF_no {P : List Pq} {C : List ChV} {T : List NdT} {P' : List Pq} {C' : List ChV} {T' : List NdT} (h : ¬ SameC P C T P' C' T') : sameF P C T P' C' T' = false := by unfold sameF; classical exact decide_eq_false h
end Go.Proofs.Ytgoeikihjffeoaa
