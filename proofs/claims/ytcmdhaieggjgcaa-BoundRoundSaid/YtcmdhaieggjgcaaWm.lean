/- Words: what two see of a row; rows that are the same to all; runs turned about. Plain mathematics. -/
import Derived.Test.YtcmdhaieggjgcaaLow2
namespace Go.Proofs.Ytcmdhaieggjgcaa
namespace Tab
set_option linter.unusedSimpArgs false
set_option linter.unusedVariables false

/-- The runs of a, of b. -/
def sees (a b : Int) (r : Rn) : Bool := decide (r.p = a) || decide (r.p = b)
def prj (a b : Int) (l : List Rn) : List Rn := l.filter (sees a b)
def proj (a b : Int) (l : List Rn) : List Rn := tidy (prj a b l)
theorem prj_append (a b : Int) (l m : List Rn) : prj a b (l ++ m) = prj a b l ++ prj a b m := List.filter_append ..
theorem prj_le (a b : Int) (l : List Rn) : (prj a b l).length ≤ l.length := List.length_filter_le ..
theorem ticks_filter (f : Rn → Bool) (l : List Rn) : ticks (l.filter f) ≤ ticks l := by
  induction l with
  | nil => simp
  | cons x l ih =>
    rw [List.filter_cons]
    split
    · simp only [ticks] at ih ⊢; omega
    · simp only [ticks] at ih ⊢; omega
theorem prj_more {a b : Int} {l : List Rn} {i : Nat} {r : Rn} (h : l[i]? = some r) : prj a b (l.take (i + 1)) = if sees a b r = true then prj a b (l.take i) ++ [r] else prj a b (l.take i) := by
  obtain ⟨hi, e⟩ := List.getElem?_eq_some_iff.1 h
  rw [List.take_succ_eq_append_getElem hi, e, prj_append]
  unfold prj
  rw [List.filter_cons]
  split <;> simp
theorem tkOf_sees (p a b : Int) (l : List Rn) (h : p = a ∨ p = b) : tkOf p (prj a b l) = tkOf p l := by
  induction l with
  | nil => rfl
  | cons x l ih =>
    unfold prj at ih ⊢
    rw [List.filter_cons]
    split
    · simp only [tkOf]; rw [ih]
    · rename_i hn
      simp only [tkOf]
      rw [ih, if_neg, Nat.zero_add]
      intro e
      apply hn
      unfold sees
      rcases h with h | h <;> simp [e, h]
theorem tkOf_proj (p a b : Int) (l : List Rn) (h : p = a ∨ p = b) : tkOf p (proj a b l) = tkOf p l := by
  unfold proj
  rw [tkOf_tidy, tkOf_sees p a b l h]
/-- One run more, by whatever asks for its partition alone. -/
theorem tidy_filter_push (f : Rn → Bool) (hf : ∀ x y : Rn, x.p = y.p → f x = f y) (out : List Rn) (x : Rn) : tidy ((tpush out x).filter f) = if f x = true then tpush (tidy (out.filter f)) x else tidy (out.filter f) := by
  rcases tpush_cases out x with ⟨h0, e⟩ | ⟨h0, rfl, e⟩ | ⟨o, y, h0, rfl, hp, e⟩ | ⟨o, y, h0, rfl, hp, e⟩
  · rw [e]
    split
    · rw [tpush_none h0]
    · rfl
  · rw [e]
    by_cases hx : f x = true
    · rw [if_pos hx, List.filter_cons, if_pos hx]
      rfl
    · rw [if_neg hx, List.filter_cons, if_neg hx]
  · rw [e]
    have e1 : f ⟨y.p, y.n + x.n⟩ = f x := hf _ _ hp
    have e2 : f y = f x := hf _ _ hp
    rw [List.filter_append, List.filter_append, List.filter_cons, List.filter_cons, e1, e2]
    by_cases hx : f x = true
    · rw [if_pos hx, if_pos hx, if_pos hx]
      simp only [List.filter_nil]
      have h1 : ∀ (a : List Rn) (r : Rn), tidy (a ++ [r]) = tpush (tidy a) r := fun a r => by unfold tidy; rw [tidyOn_append]; rfl
      rw [h1, h1]
      by_cases hy : y.n = 0
      · rw [tpush_none hy]
        congr 1
        cases x with
        | mk xp xn =>
          simp only at hp ⊢
          rw [hy, Nat.zero_add, hp]
      · exact (tpush_two _ _ _ hy hp).symm
    · rw [if_neg hx, if_neg hx, if_neg hx]
  · rw [e, List.filter_append _ [x]]
    by_cases hx : f x = true
    · rw [if_pos hx, List.filter_cons, if_pos hx]
      simp only [List.filter_nil]
      unfold tidy
      rw [tidyOn_append]
      rfl
    · rw [if_neg hx, List.filter_cons, if_neg hx]
      simp
theorem tidy_filter_tidyOn (f : Rn → Bool) (hf : ∀ x y : Rn, x.p = y.p → f x = f y) (l : List Rn) : ∀ out, tidy ((tidyOn out l).filter f) = tidyOn (tidy (out.filter f)) (l.filter f) := by
  induction l with
  | nil => intro out; rfl
  | cons x l ih =>
    intro out
    have e : tidyOn out (x :: l) = tidyOn (tpush out x) l := rfl
    rw [e, ih, tidy_filter_push f hf, List.filter_cons]
    split <;> rfl
theorem sees_part (a b : Int) (x y : Rn) (h : x.p = y.p) : sees a b x = sees a b y := by unfold sees; rw [h]
/-- What two see of a tidied row is what they see of it. -/
theorem proj_tidy (a b : Int) (l : List Rn) : proj a b (tidy l) = proj a b l := by
  have := tidy_filter_tidyOn (sees a b) (sees_part a b) l []
  exact this
theorem proj_parts (a b : Int) (l m : List Rn) : tidy (proj a b l ++ proj a b m) = proj a b (l ++ m) := by
  unfold proj
  rw [tidy_append, tidy_tidy, tidy_tidy, prj_append, tidy_append]
/-- The same to all, by who depends. -/
def SameW (D : Int → Int → Bool) (x y : List Rn) : Prop := (∀ a b : Nat, a ≤ b → b < 6 → D a b = true → proj a b x = proj a b y) ∧ tkOf (-1) x = tkOf (-1) y
theorem SameW.refl (D : Int → Int → Bool) (x : List Rn) : SameW D x x := ⟨fun _ _ _ _ _ => rfl, rfl⟩
theorem SameW.symm {D : Int → Int → Bool} {x y : List Rn} (h : SameW D x y) : SameW D y x := ⟨fun a b h1 h2 h3 => (h.1 a b h1 h2 h3).symm, h.2.symm⟩
theorem SameW.trans {D : Int → Int → Bool} {x y z : List Rn} (h : SameW D x y) (k : SameW D y z) : SameW D x z := ⟨fun a b h1 h2 h3 => (h.1 a b h1 h2 h3).trans (k.1 a b h1 h2 h3), h.2.trans k.2⟩
theorem SameW.less {D E : Int → Int → Bool} {x y : List Rn} (h : SameW E x y) (hDE : ∀ a b, D a b = true → E a b = true) : SameW D x y := ⟨fun a b h1 h2 h3 => h.1 a b h1 h2 (hDE _ _ h3), h.2⟩
theorem SameW.tidied (D : Int → Int → Bool) (x : List Rn) : SameW D x (tidy x) := ⟨fun a b _ _ _ => (proj_tidy _ _ _).symm, (tkOf_tidy _ _).symm⟩
/-- Two runs side by side turned about. -/
def swapAt (l : List Rn) (k : Nat) : List Rn := match l[k]?, l[k + 1]? with
  | some x, some y => (l.set k y).set (k + 1) x
  | _, _ => l
theorem split_two {l : List Rn} {k : Nat} {x y : Rn} (hx : l[k]? = some x) (hy : l[k + 1]? = some y) : l = l.take k ++ x :: y :: l.drop (k + 2) := by
  obtain ⟨h1, e1⟩ := List.getElem?_eq_some_iff.1 hx
  obtain ⟨h2, e2⟩ := List.getElem?_eq_some_iff.1 hy
  conv => lhs; rw [← List.take_append_drop k l]
  rw [List.drop_eq_getElem_cons h1, List.drop_eq_getElem_cons h2, e1, e2]
theorem swap_two {l : List Rn} {k : Nat} {x y : Rn} (hx : l[k]? = some x) (hy : l[k + 1]? = some y) : swapAt l k = l.take k ++ y :: x :: l.drop (k + 2) := by
  unfold swapAt
  rw [hx, hy]
  obtain ⟨h1, e1⟩ := List.getElem?_eq_some_iff.1 hx
  have hl : (l.take k).length = k := by rw [List.length_take]; omega
  show (l.set k y).set (k + 1) x = _
  conv => lhs; rw [split_two hx hy]
  rw [List.set_append_right _ _ (by omega), List.set_append_right _ _ (by omega), hl, Nat.sub_self, Nat.add_sub_cancel_left]
  rfl
theorem prj_two (a b : Int) (x y : Rn) (h : sees a b x = false ∨ sees a b y = false) : prj a b [x, y] = prj a b [y, x] := by
  unfold prj
  rcases h with h | h
  · cases hy : sees a b y <;> simp [List.filter_cons, h, hy]
  · cases hx : sees a b x <;> simp [List.filter_cons, h, hx]
theorem prj_swap {l : List Rn} {k : Nat} {x y : Rn} (hx : l[k]? = some x) (hy : l[k + 1]? = some y) (a b : Int) (h : sees a b x = false ∨ sees a b y = false) : prj a b (swapAt l k) = prj a b l := by
  rw [swap_two hx hy]
  conv => rhs; rw [split_two hx hy]
  have e1 : ∀ u v : Rn, l.take k ++ u :: v :: l.drop (k + 2) = l.take k ++ ([u, v] ++ l.drop (k + 2)) := fun u v => rfl
  rw [e1, e1, prj_append, prj_append, prj_append, prj_append, prj_two a b x y h]
theorem tkOf_swap {l : List Rn} {k : Nat} {x y : Rn} (hx : l[k]? = some x) (hy : l[k + 1]? = some y) (p : Int) : tkOf p (swapAt l k) = tkOf p l := by
  rw [swap_two hx hy]
  conv => rhs; rw [split_two hx hy]
  rw [tkOf_append, tkOf_append]
  simp only [tkOf]
  omega
theorem ticks_swap {l : List Rn} {k : Nat} {x y : Rn} (hx : l[k]? = some x) (hy : l[k + 1]? = some y) : ticks (swapAt l k) = ticks l := by
  rw [swap_two hx hy]
  conv => rhs; rw [split_two hx hy]
  simp only [ticks_append, ticks]
  omega
/-- May two be turned about: idle, or they do not depend. -/
def freeW (D : Int → Int → Bool) (p q : Int) : Prop := p = -1 ∨ q = -1 ∨ (p ≠ q ∧ D p q = false)
theorem sees_iff {a b : Int} {x : Rn} : sees a b x = true ↔ x.p = a ∨ x.p = b := by simp [sees]
theorem SameW.swap {D : Int → Int → Bool} (hD : ∀ a b, D a b = D b a) {l : List Rn} {k : Nat} {x y : Rn} (hx : l[k]? = some x) (hy : l[k + 1]? = some y) (h : freeW D x.p y.p) : SameW D l (swapAt l k) := by
  refine ⟨fun a b hab hb6 hd => ?_, (tkOf_swap hx hy _).symm⟩
  unfold proj
  rw [prj_swap hx hy a b]
  cases h1 : sees a b x with
  | false => exact .inl rfl
  | true =>
    cases h2 : sees a b y with
    | false => exact .inr rfl
    | true =>
      exfalso
      rw [sees_iff] at h1 h2
      rcases h with h | h | ⟨hne, hf⟩
      · omega
      · omega
      · rcases h1 with h1 | h1 <;> rcases h2 with h2 | h2
        · exact hne (h1.trans h2.symm)
        · rw [h1, h2, hd] at hf; cases hf
        · rw [h1, h2, hD, hd] at hf; cases hf
        · exact hne (h1.trans h2.symm)
/-- Of two that depend, not of one, a turn is told. -/
theorem SameW.told {D : Int → Int → Bool} (hD : ∀ a b, D a b = D b a) {l : List Rn} {k : Nat} {x y : Rn} (hx : l[k]? = some x) (hy : l[k + 1]? = some y) (px : 0 ≤ x.p ∧ x.p < 6) (py : 0 ≤ y.p ∧ y.p < 6) (nx : 1 ≤ x.n) (ny : 1 ≤ y.n) (hne : x.p ≠ y.p) (hd : D x.p y.p = true) : ¬ SameW D l (swapAt l k) := by
  intro h
  obtain ⟨a, b, hab, hb6, hda, s1, s2⟩ : ∃ a b : Nat, a ≤ b ∧ b < 6 ∧ D a b = true ∧ sees a b x = true ∧ sees a b y = true := by
    by_cases hle : x.p ≤ y.p
    · refine ⟨x.p.toNat, y.p.toNat, by omega, by omega, ?_, sees_iff.2 (.inl (by omega)), sees_iff.2 (.inr (by omega))⟩
      rw [show ((x.p.toNat : Nat) : Int) = x.p by omega, show ((y.p.toNat : Nat) : Int) = y.p by omega]
      exact hd
    · refine ⟨y.p.toNat, x.p.toNat, by omega, by omega, ?_, sees_iff.2 (.inr (by omega)), sees_iff.2 (.inl (by omega))⟩
      rw [show ((x.p.toNat : Nat) : Int) = x.p by omega, show ((y.p.toNat : Nat) : Int) = y.p by omega, hD]
      exact hd
  have e := h.1 a b hab hb6 hda
  have e2 := congrArg (fun m => whoAt m (ticks (prj a b (l.take k)) : Int)) e
  unfold proj at e2
  rw [whoAt_tidy, whoAt_tidy, swap_two hx hy] at e2
  have e3 : prj a b l = prj a b (l.take k) ++ (x :: y :: prj a b (l.drop (k + 2))) := by
    conv => lhs; rw [split_two hx hy]
    rw [prj_append]
    unfold prj
    rw [List.filter_cons, if_pos s1, List.filter_cons, if_pos s2]
  have e4 : prj a b (l.take k ++ y :: x :: l.drop (k + 2)) = prj a b (l.take k) ++ (y :: x :: prj a b (l.drop (k + 2))) := by
    rw [prj_append]
    unfold prj
    rw [List.filter_cons, if_pos s2, List.filter_cons, if_pos s1]
  rw [e3, e4, whoAt_high _ _ _ (by omega), whoAt_high _ _ _ (by omega), Int.sub_self] at e2
  have w1 : ∀ (u : Rn) (m : List Rn), 1 ≤ u.n → whoAt (u :: m) 0 = u.p := fun u m hu => by
    have e5 : u :: m = [u] ++ m := rfl
    rw [e5, whoAt_low _ _ _ (by simp only [ticks]; omega), show [u] = [⟨u.p, u.n⟩] from rfl, whoAt_one _ _ _ (by omega), if_pos (by omega)]
  rw [w1 x _ nx, w1 y _ ny] at e2
  exact hne e2
/-- The first two that see unlike rows, by the first, then the second. -/
def pairs6 : List (Nat × Nat) := (List.range 6).flatMap fun a => (List.range 6).filterMap fun b => if a ≤ b then some (a, b) else none
end Tab
end Go.Proofs.Ytcmdhaieggjgcaa
