/- What law 8's statements say of whatever rows, in plain mathematics. -/
import Derived.Test.YtcdgofdnafbacaaWtap
import Derived.Test.YtcdgofdnafbacaaWdif
import Derived.Test.YtcdgofdnafbacaaWsam
import Derived.Test.YtcdgofdnafbacaaTrow
namespace Go.Proofs.Ytcdgofdnafbacaa
open Go.RowKit Tab
set_option linter.unusedSimpArgs false
set_option linter.unusedVariables false

/-- Are two rows the same to all, by a number's bits, of so many? -/
def sameD (n : Nat) (m : Nat → Nat → Bool) (x y : List Rn) : Bool := !(diffF (depW n m) x y).2.2
theorem sameD_iff {n : Nat} {m : Nat → Nat → Bool} {x y : List Rn} : sameD n m x y = true ↔ SameW (depW n m) x y := by
  unfold sameD
  rw [← diffF_same]
  cases (diffF (depW n m) x y).2.2 <;> simp
theorem sameD_sym (n : Nat) (m : Nat → Nat → Bool) (x y : List Rn) : sameD n m x y = sameD n m y x := by
  rw [Bool.eq_iff_iff, sameD_iff, sameD_iff]
  exact ⟨SameW.symm, SameW.symm⟩
theorem sameD_tidy (n : Nat) (m : Nat → Nat → Bool) (x : List Rn) : sameD n m x (tidy x) = true := sameD_iff.2 (SameW.tidied _ x)
theorem sameD_self (n : Nat) (m : Nat → Nat → Bool) (x : List Rn) : sameD n m x x = true := sameD_iff.2 (SameW.refl _ x)
/-- On: if two are the same to all, and one of them and a third, so are these. -/
theorem sameD_on {n : Nat} {m : Nat → Nat → Bool} {l x y : List Rn} (h1 : sameD n m l x = true) (h2 : sameD n m x y = true) : sameD n m l y = true := sameD_iff.2 ((sameD_iff.1 h1).trans (sameD_iff.1 h2))
theorem depW_less {n : Nat} {m k : Nat → Nat → Bool} (h : ∀ x y, m x y = true → k x y = true) (a b : Int) (hd : depW n m a b = true) : depW n k a b = true := by
  unfold depW at hd ⊢
  simp only [Bool.or_eq_true, Bool.and_eq_true, decide_eq_true_eq] at hd ⊢
  rcases hd with h1 | ⟨h1, h2 | h2⟩
  · exact .inl h1
  · exact .inr ⟨h1, .inl (h _ _ h2)⟩
  · exact .inr ⟨h1, .inr (h _ _ h2)⟩
/-- With more dependences fewer are. -/
theorem sameD_more {n : Nat} {b c : Int} {x y : List Rn} (h : sameD n (depF (bits BinOp.or IntKind.i64 b c)) x y = true) : sameD n (depF b) x y = true :=
  sameD_iff.2 ((sameD_iff.1 h).less fun a d hd => depW_less (fun u v e => depF_or b c u v e) a d hd)
/-- By a number's bits, who depends: within. -/
theorem depW_in {n : Nat} {b : Int} {x y : Nat} (hx : x < n) (hy : y < n) : depW n (depF b) x y = depF b x y := by
  unfold depW
  have h1 : inP n (x : Int) = true := inP_iff.2 ⟨by omega, by omega⟩
  have h2 : inP n (y : Int) = true := inP_iff.2 ⟨by omega, by omega⟩
  rw [h1, h2, show (y : Int).toNat = y from rfl, show (x : Int).toNat = x from rfl, depF_sym b y x]
  by_cases h : x = y
  · subst h
    simp [depF_self]
  · have : decide ((x : Int) = (y : Int)) = false := decide_eq_false (by omega)
    rw [this]
    simp
theorem freeW_iff {n : Nat} {b p q : Int} (hp : -1 ≤ p) (hp' : p < n) (hq : -1 ≤ q) (hq' : q < n) (hne : p ≠ q) : freeW (depW n (depF b)) p q ↔ (p = -1 ∨ q = -1 ∨ depF b p.toNat q.toNat = false) := by
  unfold freeW
  by_cases h1 : p = -1
  · simp [h1]
  · by_cases h2 : q = -1
    · simp [h2]
    · obtain ⟨u, rfl⟩ : ∃ u : Nat, p = u := ⟨p.toNat, by omega⟩
      obtain ⟨v, rfl⟩ : ∃ v : Nat, q = v := ⟨q.toNat, by omega⟩
      rw [depW_in (by omega) (by omega)]
      simp [h1, h2, hne]
/-- Two side by side are turned about: can it be told? -/
theorem turned_told {n : Nat} {b : Int} (hn : n ≤ 6) {l : List Rn} (hl : Apart l) (hf : ∀ r ∈ l, 1 ≤ r.n ∧ -1 ≤ r.p ∧ r.p < n) {k : Nat} {x y : Rn} (hx : l[k]? = some x) (hy : l[k + 1]? = some y) :
    sameD n (depF b) l (swapAt l k) = (decide (x.p = -1) || decide (y.p = -1) || !depF b x.p.toNat y.p.toNat) := by
  have hne := hl.at_ hx hy
  have fx := hf x (List.mem_of_getElem? hx)
  have fy := hf y (List.mem_of_getElem? hy)
  have hfi := freeW_iff (b := b) fx.2.1 fx.2.2 fy.2.1 fy.2.2 hne
  rw [Bool.eq_iff_iff, sameD_iff]
  simp only [Bool.or_eq_true, decide_eq_true_eq, Bool.not_eq_true']
  rw [or_assoc, ← hfi]
  refine ⟨fun h => ?_, fun h => SameW.swap (depW_sym n _) hx hy h⟩
  by_cases hfr : freeW (depW n (depF b)) x.p y.p
  · exact hfr
  · exfalso
    unfold freeW at hfr
    have h1 : x.p ≠ -1 := fun e => hfr (.inl e)
    have h2 : y.p ≠ -1 := fun e => hfr (.inr (.inl e))
    have h3 : depW n (depF b) x.p y.p = true := by
      cases e : depW n (depF b) x.p y.p with
      | true => rfl
      | false => exact absurd (.inr (.inr ⟨hne, e⟩)) hfr
    exact SameW.told (depW_sym n _) hx hy ⟨by omega, by omega⟩ ⟨by omega, by omega⟩ fx.1 fy.1 hne h3 h
/-- A row that was turned about, by runs that are free, is the same to all. -/
theorem turned_free {n : Nat} {b : Int} {l x : List Rn} (h : sameD n (depF b) l x = true) {k : Nat} {u v : Rn} (hx : x[k]? = some u) (hy : x[k + 1]? = some v) (hu : -1 ≤ u.p ∧ u.p < n) (hv : -1 ≤ v.p ∧ v.p < n)
    (hfr : u.p = -1 ∨ v.p = -1 ∨ (u.p ≠ v.p ∧ depF b u.p.toNat v.p.toNat = false)) : sameD n (depF b) l (swapAt x k) = true := by
  refine sameD_on h (sameD_iff.2 (SameW.swap (depW_sym n _) hx hy ?_))
  rcases hfr with h1 | h1 | ⟨h1, h2⟩
  · exact .inl h1
  · exact .inr (.inl h1)
  · exact (freeW_iff hu.1 hu.2 hv.1 hv.2 h1).2 (.inr (.inr h2))
/-- What each two that depend see of two that are the same to all is the same. -/
theorem sameD_proj {n : Nat} {b : Int} (hn : n ≤ 6) {l x : List Rn} (h : sameD n (depF b) l x = true) {p q : Nat} (hpq : p ≤ q) (hq : q < n) (hd : depF b p q = true) : proj p q l = proj p q x :=
  (sameD_iff.1 h).1 p q hpq (by omega) (by rw [depW_in (by omega) hq]; exact hd)
end Go.Proofs.Ytcdgofdnafbacaa
