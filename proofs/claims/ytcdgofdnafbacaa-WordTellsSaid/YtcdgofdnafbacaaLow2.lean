/- Contracts and mathematics that the texts behind it stand on: Tidy, Wm, More, Runs, Rkids, Inv, Times, Len, Right. -/
import Derived.Test.YtcdgofdnafbacaaLow1
import Derived.Deep.AppendLies
import Derived.Deep.RegionLaw
import Derived.Orders
import Derived.RegionTactic
import Derived.Below
import Derived.Great.BuildSlice
import Derived.IntWalk
import Derived.BigQuiet
import Derived.Deep.QuietTactic
/- Runs side by side of one as one; whose ticks they are: plain mathematics. -/
namespace Go.Proofs.Ytcdgofdnafbacaa
namespace Tab

/-- One run more behind a tidy row. -/
def tpush (out : List Rn) (x : Rn) : List Rn := if x.n = 0 then out else match out.getLast? with
  | some y => if y.p = x.p then out.dropLast ++ [⟨y.p, y.n + x.n⟩] else out ++ [x]
  | none => [x]
def tidyOn (out l : List Rn) : List Rn := l.foldl tpush out
def tidy (l : List Rn) : List Rn := tidyOn [] l
/-- How many ticks are of p. -/
def tkOf (p : Int) : List Rn → Nat
  | [] => 0
  | r :: s => (if r.p = p then r.n else 0) + tkOf p s
/-- No run without ticks, no two side by side of one. -/
def Apart : List Rn → Prop
  | [] => True
  | [r] => 1 ≤ r.n
  | r :: q :: s => 1 ≤ r.n ∧ r.p ≠ q.p ∧ Apart (q :: s)

theorem tpush_none {out : List Rn} {x : Rn} (h : x.n = 0) : tpush out x = out := if_pos h
theorem tpush_nil {x : Rn} (h : x.n ≠ 0) : tpush [] x = [x] := by unfold tpush; rw [if_neg h]; rfl
theorem tpush_one {o : List Rn} {y x : Rn} (h : x.n ≠ 0) (hp : y.p = x.p) : tpush (o ++ [y]) x = o ++ [⟨y.p, y.n + x.n⟩] := by
  unfold tpush
  rw [if_neg h]
  simp [hp]
theorem tpush_new {o : List Rn} {y x : Rn} (h : x.n ≠ 0) (hp : y.p ≠ x.p) : tpush (o ++ [y]) x = o ++ [y] ++ [x] := by
  unfold tpush
  rw [if_neg h]
  simp [hp]
/-- The cases of one run more. -/
theorem tpush_cases (out : List Rn) (x : Rn) : (x.n = 0 ∧ tpush out x = out) ∨ (x.n ≠ 0 ∧ out = [] ∧ tpush out x = [x]) ∨ (∃ o y, x.n ≠ 0 ∧ out = o ++ [y] ∧ y.p = x.p ∧ tpush out x = o ++ [⟨y.p, y.n + x.n⟩]) ∨
    ∃ o y, x.n ≠ 0 ∧ out = o ++ [y] ∧ y.p ≠ x.p ∧ tpush out x = out ++ [x] := by
  by_cases h : x.n = 0
  · exact .inl ⟨h, tpush_none h⟩
  · rcases List.eq_nil_or_concat out with rfl | ⟨o, y, rfl⟩
    · exact .inr (.inl ⟨h, rfl, tpush_nil h⟩)
    · simp only [List.concat_eq_append]
      by_cases hp : y.p = x.p
      · exact .inr (.inr (.inl ⟨o, y, h, rfl, hp, tpush_one h hp⟩))
      · exact .inr (.inr (.inr ⟨o, y, h, rfl, hp, tpush_new h hp⟩))

theorem tidyOn_append (out a b : List Rn) : tidyOn out (a ++ b) = tidyOn (tidyOn out a) b := List.foldl_append
theorem tidy_more {l : List Rn} {i : Nat} {r : Rn} (h : l[i]? = some r) : tidy (l.take (i + 1)) = tpush (tidy (l.take i)) r := by
  obtain ⟨hi, e⟩ := List.getElem?_eq_some_iff.1 h
  unfold tidy tidyOn
  rw [List.take_succ_eq_append_getElem hi, List.foldl_append, e]
  rfl

theorem tkOf_append (p : Int) (a b : List Rn) : tkOf p (a ++ b) = tkOf p a + tkOf p b := by
  induction a with
  | nil => simp [tkOf]
  | cons x a ih => simp only [List.cons_append, tkOf, ih]; omega
theorem tkOf_le (p : Int) (l : List Rn) : tkOf p l ≤ ticks l := by
  induction l with
  | nil => simp [tkOf, ticks]
  | cons x a ih => simp only [tkOf, ticks]; split <;> omega
theorem tkOf_push (p : Int) (out : List Rn) (x : Rn) : tkOf p (tpush out x) = tkOf p out + if x.p = p then x.n else 0 := by
  rcases tpush_cases out x with ⟨h, e⟩ | ⟨h, rfl, e⟩ | ⟨o, y, h, rfl, hp, e⟩ | ⟨o, y, h, rfl, hp, e⟩
  · rw [e, h]; split <;> rfl
  · rw [e]; simp [tkOf]
  · rw [e, tkOf_append, tkOf_append]
    simp only [tkOf, hp]
    split <;> omega
  · rw [e, tkOf_append _ (o ++ [y])]
    simp only [tkOf]
    omega
theorem tkOf_tidyOn (p : Int) (l : List Rn) : ∀ out, tkOf p (tidyOn out l) = tkOf p out + tkOf p l := by
  induction l with
  | nil => intro out; simp [tidyOn, tkOf]
  | cons x l ih =>
    intro out
    have := ih (tpush out x)
    unfold tidyOn at this ⊢
    rw [List.foldl_cons, this, tkOf_push]
    simp only [tkOf]
    omega
theorem tkOf_tidy (p : Int) (l : List Rn) : tkOf p (tidy l) = tkOf p l := by
  unfold tidy
  rw [tkOf_tidyOn]
  simp [tkOf]
theorem ticks_push (out : List Rn) (x : Rn) : ticks (tpush out x) = ticks out + x.n := by
  rcases tpush_cases out x with ⟨h, e⟩ | ⟨h, rfl, e⟩ | ⟨o, y, h, rfl, hp, e⟩ | ⟨o, y, h, rfl, hp, e⟩
  · rw [e, h]; rfl
  · rw [e]; simp [ticks]
  · rw [e, ticks_append, ticks_append]
    simp only [ticks]
    omega
  · rw [e, ticks_append (o ++ [y])]
    simp only [ticks]
    omega
theorem ticks_tidyOn (l : List Rn) : ∀ out, ticks (tidyOn out l) = ticks out + ticks l := by
  induction l with
  | nil => intro out; simp [tidyOn, ticks]
  | cons x l ih =>
    intro out
    have := ih (tpush out x)
    unfold tidyOn at this ⊢
    rw [List.foldl_cons, this, ticks_push]
    simp only [ticks]
    omega
theorem ticks_tidy (l : List Rn) : ticks (tidy l) = ticks l := by
  unfold tidy
  rw [ticks_tidyOn]
  simp [ticks]

theorem whoAt_low (a b : List Rn) (t : Int) (h : t < ticks a) : whoAt (a ++ b) t = whoAt a t := by
  induction a generalizing t with
  | nil => simp only [ticks] at h; rw [whoAt_neg _ _ (by omega), whoAt_neg _ _ (by omega)]
  | cons x a ih =>
    simp only [ticks] at h
    simp only [List.cons_append, whoAt]
    split
    · rfl
    · split
      · rfl
      · exact ih _ (by omega)
theorem whoAt_high (a b : List Rn) (t : Int) (h : (ticks a : Int) ≤ t) : whoAt (a ++ b) t = whoAt b (t - ticks a) := by
  induction a generalizing t with
  | nil => simp [ticks]
  | cons x a ih =>
    simp only [ticks] at h
    simp only [List.cons_append, whoAt, ticks]
    rw [if_neg (by omega), if_neg (by omega), ih _ (by omega)]
    congr 1
    omega
theorem whoAt_one (p : Int) (n : Nat) (t : Int) (h : 0 ≤ t) : whoAt [⟨p, n⟩] t = if t < n then p else -1 := by
  simp only [whoAt]
  rw [if_neg (by omega)]
/-- Rows that are the same tick by tick. -/
def Alike (a b : List Rn) : Prop := ticks a = ticks b ∧ ∀ t : Int, 0 ≤ t → whoAt a t = whoAt b t
theorem alike_push (out : List Rn) (x : Rn) : Alike (tpush out x) (out ++ [x]) := by
  refine ⟨by rw [ticks_push, ticks_append]; simp [ticks], fun t ht => ?_⟩
  rcases tpush_cases out x with ⟨h, e⟩ | ⟨h, rfl, e⟩ | ⟨o, y, h, rfl, hp, e⟩ | ⟨o, y, h, rfl, hp, e⟩
  · rw [e]
    by_cases h1 : t < ticks out
    · rw [whoAt_low _ _ _ h1]
    · obtain ⟨xp, xn⟩ := x
      dsimp only at h
      subst h
      rw [whoAt_high _ _ _ (by omega), whoAt_one _ _ _ (by omega), if_neg (by omega), whoAt_out _ _ (by omega)]
  · rw [e]; rfl
  · rw [e, List.append_assoc]
    by_cases h1 : t < ticks o
    · rw [whoAt_low _ _ _ h1, whoAt_low _ _ _ h1]
    · rw [whoAt_high _ _ _ (by omega), whoAt_high _ _ _ (by omega)]
      obtain ⟨xp, xn⟩ := x
      obtain ⟨yp, yn⟩ := y
      dsimp only at hp h ⊢
      subst hp
      have e1 : ticks [⟨yp, yn⟩] = yn := by simp [ticks]
      rw [whoAt_one _ _ _ (by omega)]
      by_cases h2 : t - ticks o < yn
      · rw [whoAt_low _ _ _ (by rw [e1]; exact h2), whoAt_one _ _ _ (by omega), if_pos (by omega), if_pos h2]
      · rw [whoAt_high _ _ _ (by rw [e1]; omega), e1, whoAt_one _ _ _ (by omega)]
        by_cases h3 : t - ticks o < ((yn + xn : Nat) : Int)
        · rw [if_pos h3, if_pos (by omega)]
        · rw [if_neg h3, if_neg (by omega)]
  · rw [e]
theorem Alike.trans {a b c : List Rn} (h : Alike a b) (k : Alike b c) : Alike a c := ⟨h.1.trans k.1, fun t ht => (h.2 t ht).trans (k.2 t ht)⟩
theorem Alike.back {a b : List Rn} (h : Alike a b) (c : List Rn) : Alike (a ++ c) (b ++ c) := by
  refine ⟨by rw [ticks_append, ticks_append, h.1], fun t ht => ?_⟩
  by_cases h1 : t < ticks a
  · rw [whoAt_low _ _ _ h1, whoAt_low _ _ _ (by rw [← h.1]; exact h1), h.2 t ht]
  · rw [whoAt_high _ _ _ (by omega), whoAt_high _ _ _ (by rw [← h.1]; omega), h.1]
theorem alike_tidyOn (l : List Rn) : ∀ out, Alike (tidyOn out l) (out ++ l) := by
  induction l with
  | nil => intro out; simp only [tidyOn, List.foldl_nil, List.append_nil]; exact ⟨rfl, fun _ _ => rfl⟩
  | cons x l ih =>
    intro out
    have h1 := ih (tpush out x)
    have h2 := (alike_push out x).back l
    rw [List.append_assoc] at h2
    exact h1.trans h2
theorem whoAt_tidy (l : List Rn) (t : Int) : whoAt (tidy l) t = whoAt l t := by
  by_cases h : 0 ≤ t
  · have := (alike_tidyOn l []).2 t h
    simpa [tidy] using this
  · rw [whoAt_neg _ _ (by omega), whoAt_neg _ _ (by omega)]

theorem Apart.pos {l : List Rn} (h : Apart l) : ∀ r ∈ l, 1 ≤ r.n := by
  induction l with
  | nil => simp
  | cons r l ih =>
    cases l with
    | nil => intro q hq; simp at hq; subst hq; exact h
    | cons q s =>
      intro y hy
      rcases List.mem_cons.1 hy with rfl | hy
      · exact h.1
      · exact ih h.2.2 y hy
theorem Apart.snoc {o : List Rn} {y x : Rn} (h : Apart (o ++ [y])) (hx : 1 ≤ x.n) (hp : y.p ≠ x.p) : Apart (o ++ [y] ++ [x]) := by
  induction o with
  | nil => exact ⟨h, hp, hx⟩
  | cons r o ih =>
    cases o with
    | nil => exact ⟨h.1, h.2.1, ih h.2.2⟩
    | cons q s => exact ⟨h.1, h.2.1, ih h.2.2⟩
theorem Apart.more {o : List Rn} {y : Rn} (h : Apart (o ++ [y])) (k : Nat) : Apart (o ++ [⟨y.p, y.n + k⟩]) := by
  induction o with
  | nil => have h' : 1 ≤ y.n := h; show 1 ≤ y.n + k; omega
  | cons r o ih =>
    cases o with
    | nil => exact ⟨h.1, h.2.1, ih h.2.2⟩
    | cons q s => exact ⟨h.1, h.2.1, ih h.2.2⟩
theorem Apart.push {out : List Rn} (h : Apart out) (x : Rn) : Apart (tpush out x) := by
  rcases tpush_cases out x with ⟨h0, e⟩ | ⟨h0, rfl, e⟩ | ⟨o, y, h0, rfl, hp, e⟩ | ⟨o, y, h0, rfl, hp, e⟩
  · rw [e]; exact h
  · rw [e]; show 1 ≤ x.n; omega
  · rw [e]; exact h.more _
  · rw [e]; exact h.snoc (by omega) hp
theorem tidyOn_apart (l : List Rn) : ∀ out, Apart out → Apart (tidyOn out l) := by
  induction l with
  | nil => intro out h; exact h
  | cons x l ih => intro out h; exact ih _ (h.push x)
theorem tidy_apart (l : List Rn) : Apart (tidy l) := tidyOn_apart l [] trivial
/-- Two that stand side by side. -/
theorem Apart.at_ {l : List Rn} (h : Apart l) {i : Nat} {r q : Rn} (hr : l[i]? = some r) (hq : l[i + 1]? = some q) : r.p ≠ q.p := by
  induction l generalizing i with
  | nil => simp at hr
  | cons x l ih =>
    cases l with
    | nil => simp at hq
    | cons y s =>
      cases i with
      | zero => simp at hr hq; subst hr; subst hq; exact h.2.1
      | succ i => exact ih h.2.2 (by simpa using hr) (by simpa using hq)
/-- What is tidy stays. -/
theorem tidyOn_stays (l : List Rn) : ∀ out, Apart (out ++ l) → tidyOn out l = out ++ l := by
  induction l with
  | nil => intro out _; simp [tidyOn]
  | cons x l ih =>
    intro out h
    have e : tpush out x = out ++ [x] := by
      have hx : x.n ≠ 0 := by have := h.pos x (by simp); omega
      rcases List.eq_nil_or_concat out with rfl | ⟨o, y, rfl⟩
      · exact tpush_nil hx
      · simp only [List.concat_eq_append] at h ⊢
        refine tpush_new hx (h.at_ (i := o.length) ?_ ?_)
        · rw [List.append_assoc, List.getElem?_append_right (Nat.le_refl _)]; simp
        · rw [List.append_assoc, List.getElem?_append_right (by omega)]; simp
    have := ih (out ++ [x]) (by rw [List.append_assoc]; exact h)
    show tidyOn (tpush out x) l = _
    rw [e, this, List.append_assoc]
    rfl
theorem tidy_tidy (l : List Rn) : tidy (tidy l) = tidy l := by
  have := tidyOn_stays (tidy l) [] (by simpa using tidy_apart l)
  simpa [tidy] using this

theorem tpush_le (out : List Rn) (x : Rn) : (tpush out x).length ≤ out.length + 1 ∧ out.length ≤ (tpush out x).length := by
  rcases tpush_cases out x with ⟨h0, e⟩ | ⟨h0, rfl, e⟩ | ⟨o, y, h0, rfl, hp, e⟩ | ⟨o, y, h0, rfl, hp, e⟩ <;> rw [e] <;> simp
theorem tidyOn_le (l : List Rn) : ∀ out, (tidyOn out l).length ≤ out.length + l.length := by
  induction l with
  | nil => intro out; simp [tidyOn]
  | cons x l ih =>
    intro out
    have h1 := ih (tpush out x)
    have h2 := (tpush_le out x).1
    simp only [List.length_cons]
    show (tidyOn (tpush out x) l).length ≤ _
    omega
theorem tidy_le (l : List Rn) : (tidy l).length ≤ l.length := by
  have := tidyOn_le l []
  simpa [tidy] using this
theorem tidy_take_le (l : List Rn) (i : Nat) : (tidy (l.take i)).length ≤ i := by
  have := tidy_le (l.take i)
  rw [List.length_take] at this
  omega
/-- Two runs of one behind a row, one by one or as one. -/
theorem tpush_two (o : List Rn) (y x : Rn) (hy : y.n ≠ 0) (hp : y.p = x.p) : tpush (tpush o y) x = tpush o ⟨y.p, y.n + x.n⟩ := by
  by_cases hx : x.n = 0
  · rw [tpush_none hx]
    obtain ⟨yp, yn⟩ := y
    dsimp only at hp ⊢
    rw [hx]
    rfl
  · have hz : (⟨y.p, y.n + x.n⟩ : Rn).n ≠ 0 := by dsimp only; omega
    rcases tpush_cases o y with ⟨h0, e⟩ | ⟨h0, rfl, e⟩ | ⟨q, z, h0, rfl, hq, e⟩ | ⟨q, z, h0, rfl, hq, e⟩
    · exact absurd h0 hy
    · rw [e, tpush_nil hz]
      exact tpush_one (o := []) hx hp
    · rw [e, tpush_one hx (by dsimp only; rw [hq, hp]), tpush_one hz hq]
      dsimp only
      rw [Nat.add_assoc]
    · rw [e, tpush_one (o := q ++ [z]) hx hp, tpush_new (o := q) hz hq]
theorem tidyOn_push (o out : List Rn) (x : Rn) (h : Apart out) : tidyOn o (tpush out x) = tpush (tidyOn o out) x := by
  rcases tpush_cases out x with ⟨h0, e⟩ | ⟨h0, rfl, e⟩ | ⟨q, y, h0, rfl, hq, e⟩ | ⟨q, y, h0, rfl, hq, e⟩
  · rw [e, tpush_none h0]
  · rw [e]; rfl
  · rw [e, tidyOn_append, tidyOn_append]
    have hy : y.n ≠ 0 := by have := h.pos y (by simp); omega
    exact (tpush_two _ y x hy hq).symm
  · rw [e, tidyOn_append]
    rfl
theorem tidyOn_tidyOn (o l : List Rn) : ∀ out, Apart out → tidyOn o (tidyOn out l) = tidyOn (tidyOn o out) l := by
  induction l with
  | nil => intro out _; rfl
  | cons x l ih =>
    intro out h
    show tidyOn o (tidyOn (tpush out x) l) = tidyOn (tpush (tidyOn o out) x) l
    rw [ih _ (h.push x), tidyOn_push o out x h]
theorem tidy_append (a b : List Rn) : tidy (a ++ b) = tidyOn (tidy a) (tidy b) := by
  unfold tidy
  rw [tidyOn_tidyOn _ b [] trivial, tidyOn_append]
  rfl
theorem tidy_append_le (a b : List Rn) : (tidy (a ++ b)).length ≤ (tidy a).length + (tidy b).length := by
  rw [tidy_append]
  exact tidyOn_le _ _
theorem tidy_reps_le (m : Nat) (s : List Rn) : (tidy (reps m s)).length ≤ (tidy s).length * m := by
  induction m with
  | zero => simp [reps, tidy, tidyOn]
  | succ m ih =>
    have := tidy_append_le s (reps m s)
    show (tidy (s ++ reps m s)).length ≤ _
    rw [Nat.mul_succ]
    omega
theorem tkOf_reps (p : Int) (m : Nat) (s : List Rn) : tkOf p (reps m s) = m * tkOf p s := by
  induction m with
  | zero => simp [reps, tkOf]
  | succ m ih =>
    show tkOf p (s ++ reps m s) = _
    rw [tkOf_append, ih, Nat.succ_mul]
    omega
/-- How many are of somebody. -/
def swi : List Rn → Nat
  | [] => 0
  | r :: s => (if r.p = -1 then 0 else 1) + swi s
theorem swi_append (a b : List Rn) : swi (a ++ b) = swi a + swi b := by
  induction a with
  | nil => simp [swi]
  | cons x a ih => simp only [List.cons_append, swi, ih]; omega
theorem swi_le (l : List Rn) : swi l ≤ l.length := by
  induction l with
  | nil => simp [swi]
  | cons x l ih => simp only [swi, List.length_cons]; split <;> omega
theorem swi_take (l : List Rn) (i : Nat) : swi (l.take i) ≤ i := by
  have := swi_le (l.take i)
  rw [List.length_take] at this
  omega
theorem swi_more {l : List Rn} {i : Nat} {r : Rn} (h : l[i]? = some r) : swi (l.take (i + 1)) = swi (l.take i) + if r.p = -1 then 0 else 1 := by
  obtain ⟨hi, e⟩ := List.getElem?_eq_some_iff.1 h
  rw [List.take_succ_eq_append_getElem hi, swi_append, e]
  simp [swi]
theorem tkOf_more {p : Int} {l : List Rn} {i : Nat} {r : Rn} (h : l[i]? = some r) : tkOf p (l.take (i + 1)) = tkOf p (l.take i) + if r.p = p then r.n else 0 := by
  obtain ⟨hi, e⟩ := List.getElem?_eq_some_iff.1 h
  rw [List.take_succ_eq_append_getElem hi, tkOf_append, e]
  simp [tkOf]
/-- Parts of a tidied row are parts of the row. -/
theorem tpush_part {out : List Rn} {x r : Rn} (h : r ∈ tpush out x) : r.p = x.p ∨ ∃ q ∈ out, q.p = r.p := by
  rcases tpush_cases out x with ⟨h0, e⟩ | ⟨h0, rfl, e⟩ | ⟨q, y, h0, rfl, hq, e⟩ | ⟨q, y, h0, rfl, hq, e⟩
  · rw [e] at h; exact .inr ⟨r, h, rfl⟩
  · rw [e] at h; simp at h; subst h; exact .inl rfl
  · rw [e] at h
    rcases List.mem_append.1 h with h | h
    · exact .inr ⟨r, by simp [h], rfl⟩
    · simp at h; subst h; exact .inl hq
  · rw [e] at h
    rcases List.mem_append.1 h with h | h
    · exact .inr ⟨r, h, rfl⟩
    · simp at h; subst h; exact .inl rfl
theorem tidyOn_part (l : List Rn) : ∀ out, ∀ r ∈ tidyOn out l, (∃ q ∈ out, q.p = r.p) ∨ ∃ q ∈ l, q.p = r.p := by
  induction l with
  | nil => intro out r h; exact .inl ⟨r, h, rfl⟩
  | cons x l ih =>
    intro out r h
    rcases ih (tpush out x) r h with ⟨q, hq, e⟩ | ⟨q, hq, e⟩
    · rcases tpush_part hq with h | ⟨z, hz, e2⟩
      · exact .inr ⟨x, by simp, by rw [← h, e]⟩
      · exact .inl ⟨z, hz, by rw [e2, e]⟩
    · exact .inr ⟨q, by simp [hq], e⟩
theorem tidy_part {l : List Rn} {r : Rn} (h : r ∈ tidy l) : ∃ q ∈ l, q.p = r.p := by
  rcases tidyOn_part l [] r h with ⟨q, hq, _⟩ | h
  · simp at hq
  · exact h
theorem mem_ticks {l : List Rn} {r : Rn} (h : r ∈ l) : r.n ≤ ticks l := by
  induction l with
  | nil => simp at h
  | cons x l ih =>
    simp only [ticks]
    rcases List.mem_cons.1 h with rfl | h
    · omega
    · have := ih h; omega
/-- Whose the leaves of a table are. -/
theorem one_parts {x : Nd} {s : List Rn} (hf : fine x = true) (h : ∀ r ∈ s, -1 ≤ r.p ∧ r.p ≤ 5) : ∀ r ∈ one x s, -1 ≤ r.p ∧ r.p ≤ 5 := by
  intro r hr
  unfold one at hr
  split at hr
  · exact h r hr
  · split at hr
    · exact h r (reps_mem hr)
    · simp at hr
      subst hr
      unfold fine at hf
      unfold whose
      dsimp only
      simp only [Bool.and_eq_true, decide_eq_true_eq] at hf
      rename_i h3 h4
      split
      · omega
      · have h5 := hf.2
        rename_i h2
        by_cases h1 : x.k = 1
        · rw [if_pos h1] at h5
          simp at h5
          omega
        · rw [if_neg h1] at h5
          simp [h2, h3, h4] at h5
theorem lvs_parts {f : F} (h : f.ok) : ∀ r ∈ f.lvs, -1 ≤ r.p ∧ r.p ≤ 5 := by
  induction f with
  | nil => intro r hr; simp [F.lvs] at hr
  | cons x k r hk hr =>
    intro q hq
    rcases List.mem_append.1 hq with hq | hq
    · exact one_parts h.1 (hk h.2.2.1) q hq
    · exact hr h.2.2.2 q hq
end Tab
end Go.Proofs.Ytcdgofdnafbacaa

/- Words: what two see of a row; rows that are the same to all; runs turned about. Plain mathematics. -/
namespace Go.Proofs.Ytcdgofdnafbacaa
namespace Tab
set_option linter.unusedSimpArgs false
set_option linter.unusedVariables false

/-- The runs of a, of b. -/
def sees (a b : Int) (r : Rn) : Bool := decide (r.p = a) || decide (r.p = b)
def prj (a b : Int) (l : List Rn) : List Rn := l.filter (sees a b)
def proj (a b : Int) (l : List Rn) : List Rn := tidy (prj a b l)
theorem prj_append (a b : Int) (l m : List Rn) : prj a b (l ++ m) = prj a b l ++ prj a b m := List.filter_append ..
theorem prj_le (a b : Int) (l : List Rn) : (prj a b l).length ≤ l.length := List.length_filter_le ..
theorem ticks_filter (f : Rn → Bool) (l : List Rn) : ticks (l.filter f) ≤ ticks l := by
  induction l with
  | nil => simp
  | cons x l ih =>
    rw [List.filter_cons]
    split
    · simp only [ticks] at ih ⊢; omega
    · simp only [ticks] at ih ⊢; omega
theorem prj_more {a b : Int} {l : List Rn} {i : Nat} {r : Rn} (h : l[i]? = some r) : prj a b (l.take (i + 1)) = if sees a b r = true then prj a b (l.take i) ++ [r] else prj a b (l.take i) := by
  obtain ⟨hi, e⟩ := List.getElem?_eq_some_iff.1 h
  rw [List.take_succ_eq_append_getElem hi, e, prj_append]
  unfold prj
  rw [List.filter_cons]
  split <;> simp
theorem tkOf_sees (p a b : Int) (l : List Rn) (h : p = a ∨ p = b) : tkOf p (prj a b l) = tkOf p l := by
  induction l with
  | nil => rfl
  | cons x l ih =>
    unfold prj at ih ⊢
    rw [List.filter_cons]
    split
    · simp only [tkOf]; rw [ih]
    · rename_i hn
      simp only [tkOf]
      rw [ih, if_neg, Nat.zero_add]
      intro e
      apply hn
      unfold sees
      rcases h with h | h <;> simp [e, h]
theorem tkOf_proj (p a b : Int) (l : List Rn) (h : p = a ∨ p = b) : tkOf p (proj a b l) = tkOf p l := by
  unfold proj
  rw [tkOf_tidy, tkOf_sees p a b l h]
/-- One run more, by whatever asks for its partition alone. -/
theorem tidy_filter_push (f : Rn → Bool) (hf : ∀ x y : Rn, x.p = y.p → f x = f y) (out : List Rn) (x : Rn) : tidy ((tpush out x).filter f) = if f x = true then tpush (tidy (out.filter f)) x else tidy (out.filter f) := by
  rcases tpush_cases out x with ⟨h0, e⟩ | ⟨h0, rfl, e⟩ | ⟨o, y, h0, rfl, hp, e⟩ | ⟨o, y, h0, rfl, hp, e⟩
  · rw [e]
    split
    · rw [tpush_none h0]
    · rfl
  · rw [e]
    by_cases hx : f x = true
    · rw [if_pos hx, List.filter_cons, if_pos hx]
      rfl
    · rw [if_neg hx, List.filter_cons, if_neg hx]
  · rw [e]
    have e1 : f ⟨y.p, y.n + x.n⟩ = f x := hf _ _ hp
    have e2 : f y = f x := hf _ _ hp
    rw [List.filter_append, List.filter_append, List.filter_cons, List.filter_cons, e1, e2]
    by_cases hx : f x = true
    · rw [if_pos hx, if_pos hx, if_pos hx]
      simp only [List.filter_nil]
      have h1 : ∀ (a : List Rn) (r : Rn), tidy (a ++ [r]) = tpush (tidy a) r := fun a r => by unfold tidy; rw [tidyOn_append]; rfl
      rw [h1, h1]
      by_cases hy : y.n = 0
      · rw [tpush_none hy]
        congr 1
        cases x with
        | mk xp xn =>
          simp only at hp ⊢
          rw [hy, Nat.zero_add, hp]
      · exact (tpush_two _ _ _ hy hp).symm
    · rw [if_neg hx, if_neg hx, if_neg hx]
  · rw [e, List.filter_append _ [x]]
    by_cases hx : f x = true
    · rw [if_pos hx, List.filter_cons, if_pos hx]
      simp only [List.filter_nil]
      unfold tidy
      rw [tidyOn_append]
      rfl
    · rw [if_neg hx, List.filter_cons, if_neg hx]
      simp
theorem tidy_filter_tidyOn (f : Rn → Bool) (hf : ∀ x y : Rn, x.p = y.p → f x = f y) (l : List Rn) : ∀ out, tidy ((tidyOn out l).filter f) = tidyOn (tidy (out.filter f)) (l.filter f) := by
  induction l with
  | nil => intro out; rfl
  | cons x l ih =>
    intro out
    have e : tidyOn out (x :: l) = tidyOn (tpush out x) l := rfl
    rw [e, ih, tidy_filter_push f hf, List.filter_cons]
    split <;> rfl
theorem sees_part (a b : Int) (x y : Rn) (h : x.p = y.p) : sees a b x = sees a b y := by unfold sees; rw [h]
/-- What two see of a tidied row is what they see of it. -/
theorem proj_tidy (a b : Int) (l : List Rn) : proj a b (tidy l) = proj a b l := by
  have := tidy_filter_tidyOn (sees a b) (sees_part a b) l []
  exact this
theorem proj_parts (a b : Int) (l m : List Rn) : tidy (proj a b l ++ proj a b m) = proj a b (l ++ m) := by
  unfold proj
  rw [tidy_append, tidy_tidy, tidy_tidy, prj_append, tidy_append]
/-- The same to all, by who depends. -/
def SameW (D : Int → Int → Bool) (x y : List Rn) : Prop := (∀ a b : Nat, a ≤ b → b < 6 → D a b = true → proj a b x = proj a b y) ∧ tkOf (-1) x = tkOf (-1) y
theorem SameW.refl (D : Int → Int → Bool) (x : List Rn) : SameW D x x := ⟨fun _ _ _ _ _ => rfl, rfl⟩
theorem SameW.symm {D : Int → Int → Bool} {x y : List Rn} (h : SameW D x y) : SameW D y x := ⟨fun a b h1 h2 h3 => (h.1 a b h1 h2 h3).symm, h.2.symm⟩
theorem SameW.trans {D : Int → Int → Bool} {x y z : List Rn} (h : SameW D x y) (k : SameW D y z) : SameW D x z := ⟨fun a b h1 h2 h3 => (h.1 a b h1 h2 h3).trans (k.1 a b h1 h2 h3), h.2.trans k.2⟩
theorem SameW.less {D E : Int → Int → Bool} {x y : List Rn} (h : SameW E x y) (hDE : ∀ a b, D a b = true → E a b = true) : SameW D x y := ⟨fun a b h1 h2 h3 => h.1 a b h1 h2 (hDE _ _ h3), h.2⟩
theorem SameW.tidied (D : Int → Int → Bool) (x : List Rn) : SameW D x (tidy x) := ⟨fun a b _ _ _ => (proj_tidy _ _ _).symm, (tkOf_tidy _ _).symm⟩
/-- Two runs side by side turned about. -/
def swapAt (l : List Rn) (k : Nat) : List Rn := match l[k]?, l[k + 1]? with
  | some x, some y => (l.set k y).set (k + 1) x
  | _, _ => l
theorem split_two {l : List Rn} {k : Nat} {x y : Rn} (hx : l[k]? = some x) (hy : l[k + 1]? = some y) : l = l.take k ++ x :: y :: l.drop (k + 2) := by
  obtain ⟨h1, e1⟩ := List.getElem?_eq_some_iff.1 hx
  obtain ⟨h2, e2⟩ := List.getElem?_eq_some_iff.1 hy
  conv => lhs; rw [← List.take_append_drop k l]
  rw [List.drop_eq_getElem_cons h1, List.drop_eq_getElem_cons h2, e1, e2]
theorem swap_two {l : List Rn} {k : Nat} {x y : Rn} (hx : l[k]? = some x) (hy : l[k + 1]? = some y) : swapAt l k = l.take k ++ y :: x :: l.drop (k + 2) := by
  unfold swapAt
  rw [hx, hy]
  obtain ⟨h1, e1⟩ := List.getElem?_eq_some_iff.1 hx
  have hl : (l.take k).length = k := by rw [List.length_take]; omega
  show (l.set k y).set (k + 1) x = _
  conv => lhs; rw [split_two hx hy]
  rw [List.set_append_right _ _ (by omega), List.set_append_right _ _ (by omega), hl, Nat.sub_self, Nat.add_sub_cancel_left]
  rfl
theorem prj_two (a b : Int) (x y : Rn) (h : sees a b x = false ∨ sees a b y = false) : prj a b [x, y] = prj a b [y, x] := by
  unfold prj
  rcases h with h | h
  · cases hy : sees a b y <;> simp [List.filter_cons, h, hy]
  · cases hx : sees a b x <;> simp [List.filter_cons, h, hx]
theorem prj_swap {l : List Rn} {k : Nat} {x y : Rn} (hx : l[k]? = some x) (hy : l[k + 1]? = some y) (a b : Int) (h : sees a b x = false ∨ sees a b y = false) : prj a b (swapAt l k) = prj a b l := by
  rw [swap_two hx hy]
  conv => rhs; rw [split_two hx hy]
  have e1 : ∀ u v : Rn, l.take k ++ u :: v :: l.drop (k + 2) = l.take k ++ ([u, v] ++ l.drop (k + 2)) := fun u v => rfl
  rw [e1, e1, prj_append, prj_append, prj_append, prj_append, prj_two a b x y h]
theorem tkOf_swap {l : List Rn} {k : Nat} {x y : Rn} (hx : l[k]? = some x) (hy : l[k + 1]? = some y) (p : Int) : tkOf p (swapAt l k) = tkOf p l := by
  rw [swap_two hx hy]
  conv => rhs; rw [split_two hx hy]
  rw [tkOf_append, tkOf_append]
  simp only [tkOf]
  omega
theorem ticks_swap {l : List Rn} {k : Nat} {x y : Rn} (hx : l[k]? = some x) (hy : l[k + 1]? = some y) : ticks (swapAt l k) = ticks l := by
  rw [swap_two hx hy]
  conv => rhs; rw [split_two hx hy]
  simp only [ticks_append, ticks]
  omega
/-- May two be turned about: idle, or they do not depend. -/
def freeW (D : Int → Int → Bool) (p q : Int) : Prop := p = -1 ∨ q = -1 ∨ (p ≠ q ∧ D p q = false)
theorem sees_iff {a b : Int} {x : Rn} : sees a b x = true ↔ x.p = a ∨ x.p = b := by simp [sees]
theorem SameW.swap {D : Int → Int → Bool} (hD : ∀ a b, D a b = D b a) {l : List Rn} {k : Nat} {x y : Rn} (hx : l[k]? = some x) (hy : l[k + 1]? = some y) (h : freeW D x.p y.p) : SameW D l (swapAt l k) := by
  refine ⟨fun a b hab hb6 hd => ?_, (tkOf_swap hx hy _).symm⟩
  unfold proj
  rw [prj_swap hx hy a b]
  cases h1 : sees a b x with
  | false => exact .inl rfl
  | true =>
    cases h2 : sees a b y with
    | false => exact .inr rfl
    | true =>
      exfalso
      rw [sees_iff] at h1 h2
      rcases h with h | h | ⟨hne, hf⟩
      · omega
      · omega
      · rcases h1 with h1 | h1 <;> rcases h2 with h2 | h2
        · exact hne (h1.trans h2.symm)
        · rw [h1, h2, hd] at hf; cases hf
        · rw [h1, h2, hD, hd] at hf; cases hf
        · exact hne (h1.trans h2.symm)
/-- Of two that depend, not of one, a turn is told. -/
theorem SameW.told {D : Int → Int → Bool} (hD : ∀ a b, D a b = D b a) {l : List Rn} {k : Nat} {x y : Rn} (hx : l[k]? = some x) (hy : l[k + 1]? = some y) (px : 0 ≤ x.p ∧ x.p < 6) (py : 0 ≤ y.p ∧ y.p < 6) (nx : 1 ≤ x.n) (ny : 1 ≤ y.n) (hne : x.p ≠ y.p) (hd : D x.p y.p = true) : ¬ SameW D l (swapAt l k) := by
  intro h
  obtain ⟨a, b, hab, hb6, hda, s1, s2⟩ : ∃ a b : Nat, a ≤ b ∧ b < 6 ∧ D a b = true ∧ sees a b x = true ∧ sees a b y = true := by
    by_cases hle : x.p ≤ y.p
    · refine ⟨x.p.toNat, y.p.toNat, by omega, by omega, ?_, sees_iff.2 (.inl (by omega)), sees_iff.2 (.inr (by omega))⟩
      rw [show ((x.p.toNat : Nat) : Int) = x.p by omega, show ((y.p.toNat : Nat) : Int) = y.p by omega]
      exact hd
    · refine ⟨y.p.toNat, x.p.toNat, by omega, by omega, ?_, sees_iff.2 (.inr (by omega)), sees_iff.2 (.inl (by omega))⟩
      rw [show ((x.p.toNat : Nat) : Int) = x.p by omega, show ((y.p.toNat : Nat) : Int) = y.p by omega, hD]
      exact hd
  have e := h.1 a b hab hb6 hda
  have e2 := congrArg (fun m => whoAt m (ticks (prj a b (l.take k)) : Int)) e
  unfold proj at e2
  rw [whoAt_tidy, whoAt_tidy, swap_two hx hy] at e2
  have e3 : prj a b l = prj a b (l.take k) ++ (x :: y :: prj a b (l.drop (k + 2))) := by
    conv => lhs; rw [split_two hx hy]
    rw [prj_append]
    unfold prj
    rw [List.filter_cons, if_pos s1, List.filter_cons, if_pos s2]
  have e4 : prj a b (l.take k ++ y :: x :: l.drop (k + 2)) = prj a b (l.take k) ++ (y :: x :: prj a b (l.drop (k + 2))) := by
    rw [prj_append]
    unfold prj
    rw [List.filter_cons, if_pos s2, List.filter_cons, if_pos s1]
  rw [e3, e4, whoAt_high _ _ _ (by omega), whoAt_high _ _ _ (by omega), Int.sub_self] at e2
  have w1 : ∀ (u : Rn) (m : List Rn), 1 ≤ u.n → whoAt (u :: m) 0 = u.p := fun u m hu => by
    have e5 : u :: m = [u] ++ m := rfl
    rw [e5, whoAt_low _ _ _ (by simp only [ticks]; omega), show [u] = [⟨u.p, u.n⟩] from rfl, whoAt_one _ _ _ (by omega), if_pos (by omega)]
  rw [w1 x _ nx, w1 y _ ny] at e2
  exact hne e2
/-- The first two that see unlike rows, by the first, then the second. -/
def pairs6 : List (Nat × Nat) := (List.range 6).flatMap fun a => (List.range 6).filterMap fun b => if a ≤ b then some (a, b) else none
end Tab
end Go.Proofs.Ytcdgofdnafbacaa

/- Ticks together. -/
namespace Go.Proofs.Ytcdgofdnafbacaa
open Go.RowKit Tab
set_option linter.unusedSimpArgs false
set_option linter.unusedVariables false

theorem more_any (s n S N : Int) (w : World) (hs : 0 ≤ s) (hn : 0 ≤ n) (h : s + n ≤ 4611686018427387904) (hS : S = s) (hN : N = n) :
    Calls Try.prog 36 #[.int .i64 S, .int .i64 N] w fun e w' => e = .returned (.int .i64 (s + n)) ∧ w' = w := by
  subst hS; subst hN
  by_cases h0 : N < 1
  · have e : N = 0 := by omega
    subst e
    go_enter Try.func36, Try.ntmps36
    go_wp2
    go_ret
    exact ⟨by simp, rfl⟩
  · have h1 : ¬ 9223372036854775807 - N < S := by omega
    go_enter Try.func36, Try.ntmps36
    go_wp2
    go_ret
    exact ⟨rfl, rfl⟩
theorem sum_any (s n S N : Int) (w : World) (hs : 0 ≤ s) (hn : 0 ≤ n) (h : s + n ≤ 4611686018427387904) (hS : S = s) (hN : N = n) :
    Calls Try.prog 28 #[.int .i64 S, .int .i64 N] w fun e w' => e = .returned (.int .i64 (s + n)) ∧ w' = w := by
  subst hS; subst hN
  have h1 : ¬ 9223372036854775807 - N < S := by omega
  have m1 : max S 0 = S := by omega
  have m2 : max N 0 = N := by omega
  go_enter Try.func28, Try.ntmps28
  go_wp2
  go_ret
  exact ⟨rfl, rfl⟩
end Go.Proofs.Ytcdgofdnafbacaa

/- Rows of runs in memory; append in a region that draws. -/
namespace Go.Proofs.Ytcdgofdnafbacaa
open Go.RowKit Tab
set_option linter.unusedSimpArgs false
set_option linter.unusedVariables false

theorem elR : Elt 22 31 2 16 (.agg #[.int .i64 0, .int .i64 0]) := ⟨Try.underlying22, by kernel_rfl, rfl, by omega⟩
/-- A row of runs as cells. -/
def rs : List Rn → List Value
  | [] => []
  | r :: l => .int .i64 r.p :: .int .i64 (r.n : Int) :: rs l
theorem rs_length (l : List Rn) : (rs l).length = l.length * 2 := by
  induction l with
  | nil => rfl
  | cons x l ih => simp only [rs, List.length_cons, ih]; omega
theorem rs_append (l m : List Rn) : rs (l ++ m) = rs l ++ rs m := by
  induction l with
  | nil => rfl
  | cons x l ih => simp [rs, ih]
theorem rs_one (l : List Rn) : ∀ u ∈ rs l, u.oneCell' = true := by
  induction l with
  | nil => simp [rs]
  | cons x l ih =>
    intro u hu
    simp only [rs, List.mem_cons] at hu
    rcases hu with rfl | rfl | hu
    · rfl
    · rfl
    · exact ih u hu
theorem rs_get (l : List Rn) (i : Nat) (h : i < l.length) : (rs l)[i * 2]? = some (.int .i64 l[i].p) ∧ (rs l)[i * 2 + 1]? = some (.int .i64 (l[i].n : Int)) := by
  induction l generalizing i with
  | nil => simp at h
  | cons x l ih =>
    cases i with
    | zero => simp [rs]
    | succ i =>
      have := ih i (by simpa using h)
      have e : (i + 1) * 2 = i * 2 + 1 + 1 := by omega
      rw [e]
      simp only [rs, List.getElem?_cons_succ, List.getElem_cons_succ]
      exact this
/-- A slice at A, n long, holds the runs l. -/
structure RdR (w : World) (B : Nat) (A : Option Addr) (n : Nat) (l : List Rn) : Prop where
  len : l.length = n
  rd : RdV w B A (rs l)
section
variable {w w' : World} {B B' n : Nat} {A : Option Addr} {l : List Rn}
theorem RdR.below (h : RdR w B A n l) (hb : Below B w w') : RdR w' B A n l := ⟨h.len, h.rd.below hb⟩
theorem RdR.more (h : RdR w B A n l) (hB : B ≤ B') : RdR w B' A n l := ⟨h.len, h.rd.more hB⟩
theorem RdR.on (h : RdR w w.heap.size A n l) (hb : Below w.heap.size w w') : RdR w' w'.heap.size A n l := (h.below hb).more hb.size
theorem RdR.gb {b : Nat} (h : RdR w b A n l) (hb : b ≤ w.heap.size) (hg : w.grownBy w' (some b)) : RdR w' b A n l :=
  ⟨h.len, h.rd.keep fun p hp => World.cell?_of_block (hg.block p.block (by omega) (fun e => by injection e with e; omega))⟩
theorem RdR.at_ (h : RdR w B A n l) {i : Nat} (hi : i < n) : ∃ (ad : Addr) (r : Rn), A = some ad ∧ ad.block < B ∧ l[i]? = some r ∧
    w.cell? (ad.add (i * 2)) = some (.int .i64 r.p) ∧ w.cell? ⟨(ad.add (i * 2)).block, (ad.add (i * 2)).off + 1, none⟩ = some (.int .i64 (r.n : Int)) := by
  have hl : i < l.length := by rw [h.len]; exact hi
  obtain ⟨ad, e, hb, hc⟩ := h.rd (by rw [rs_length]; omega)
  obtain ⟨h1, h2⟩ := rs_get l i hl
  have e1 : (⟨(ad.add (i * 2)).block, (ad.add (i * 2)).off + 1, none⟩ : Addr) = ad.add (i * 2 + 1) := by
    rw [← add_add]
    generalize ad.add (i * 2) = p
    unfold Addr.add
    rw [if_neg (by omega)]
  exact ⟨ad, l[i], e, hb, List.getElem?_eq_getElem hl, hc _ _ h1, by rw [e1]; exact hc _ _ h2⟩
end
/-- The block of a slice. -/
def obk (A : Option Addr) : Option Nat := A.map (·.block)
theorem ownBlock_obk (A : Option Addr) (n c : Nat) : (Value.slice A n c).ownBlock = obk A := by cases A <;> rfl
/-- No block has turned but A0's; A is A0's or newer. -/
structure Grew (A0 A : Option Addr) (w w' : World) : Prop where
  gb : w.grownBy w' (obk A0)
  at_ : obk A = obk A0 ∨ ∃ g, obk A = some g ∧ w.heap.size ≤ g
theorem Grew.refl (A : Option Addr) (w : World) : Grew A A w w := ⟨⟨rfl, rfl, rfl, Nat.le_refl _, fun _ _ _ => rfl⟩, .inl rfl⟩
theorem Grew.trans {A0 A1 A2 : Option Addr} {w w1 w2 : World} (h : Grew A0 A1 w w1) (k : Grew A1 A2 w1 w2) : Grew A0 A2 w w2 := by
  refine ⟨⟨k.gb.os.trans h.gb.os, k.gb.tape.trans h.gb.tape, k.gb.output.trans h.gb.output, Nat.le_trans h.gb.size k.gb.size, fun i hi hne => ?_⟩, ?_⟩
  · refine (k.gb.block i (Nat.lt_of_lt_of_le hi h.gb.size) ?_).trans (h.gb.block i hi hne)
    rcases h.at_ with e | ⟨g, e, hg⟩
    · rw [e]; exact hne
    · rw [e]; intro e2; injection e2 with e2; omega
  · rcases k.at_ with e | ⟨g, e, hg⟩
    · rw [e]; exact h.at_
    · exact .inr ⟨g, e, Nat.le_trans h.gb.size hg⟩
theorem Grew.bel {A0 : Option Addr} {w w' : World} (h : Below w.heap.size w w') : Grew A0 A0 w w' := ⟨⟨h.os, h.tape, h.output, h.size, fun i hi _ => h.block i hi⟩, .inl rfl⟩
theorem Grew.drew {A0 A : Option Addr} {w w' : World} (h : Grew A0 A w.drew w') : Grew A0 A w w' := ⟨⟨h.gb.os, h.gb.tape, h.gb.output, h.gb.size, h.gb.block⟩, h.at_⟩
/-- append onto a row of the call's own: where the new one lies, what stays. -/
theorem run_appX {T E s b : Nat} {z : Value} (L : Elt T E s b z) (w : World) (B : Nat) (A : Option Addr) (n c : Nat) (l0 : List Value) (h : OwnV E s w B A n c l0) (ad : Addr) (m d : Nat) (l : List Value) (Bs : Nat) (hr : RdV w Bs (some ad) l)
    (hl : l.length = m * s) (hm0 : 0 < m) (h1 : ∀ u ∈ l, u.oneCell' = true) (hb : (n + m) * b ≤ 140737488355328) (hm : n + m ≤ maxLen) (hB : B ≤ w.heap.size) :
    ∃ A' c' w', (Builtin.append_ #[T, T] T #[.slice A n c, .slice (some ad) m d]).run Try.prog w = .ok (.slice A' (n + m) c') w' ∧ OwnV E s w' B A' (n + m) c' (l0 ++ l) ∧ Below B w w' ∧ Grew A A' w w' := by
  obtain ⟨i, hi, hz, hs, hby⟩ := info_parts L.hi
  have hpos : 0 < l.length := by rw [hl]; exact Nat.mul_pos hm0 L.hs
  obtain ⟨ad', e, _, hc⟩ := hr hpos
  injection e with e
  subst e
  obtain ⟨v', w', hrun, hown, hgr, hnil, hat⟩ := run_append_own_at (P := Try.prog) w B T T E i z s b L.ht hi hz hs hby L.hz L.hs (.slice A n c) n l0 h ad m d l hl hc h1 hm hb hB
  have hbel : Below B w w' := (Below.refl _ _).grown hgr hB (fun k hk => by
    rcases h.2 with ⟨hv, _⟩ | ⟨g, cap, cur, hv, hbg, _⟩
    · rw [hv] at hk; simp [Value.ownBlock] at hk
    · rw [hv] at hk; simp [Value.ownBlock] at hk; omega)
  rcases hown.2 with ⟨hv, h0⟩ | ⟨g, cap, cur, hv, _⟩
  · omega
  · subst hv
    rw [ownBlock_obk] at hgr hat
    rw [ownBlock_obk] at hat
    exact ⟨_, _, w', hrun, hown, hbel, hgr, hat.imp id fun e => ⟨_, e, Nat.le_refl _⟩⟩
section
variable {T E s b : Nat} {z : Value}
theorem step_appX (L : Elt T E s b z) {ops : Array Oper} {o : Oper} {a : Act} {K : Act → World → Prop} {Q : Exit → Act → World → Prop} {w : World} {F : Prop} (hgd : o.guard = none) (x y : Operand)
    (ho : o.op = .call { callee := .builtin .append, args := #[x, y], argTypes := #[T, T] }) (hty : o.type = T)
    (B : Nat) (A : Option Addr) (n c : Nat) (l0 : List Value) (hx : a.eval x = .slice A n c) (h : OwnV E s w B A n c l0) (ad : Addr) (m d : Nat) (l : List Value) (Bs : Nat) (hy : a.eval y = .slice (some ad) m d) (hr : RdV w Bs (some ad) l)
    (hl : l.length = m * s) (hm0 : 0 < m) (h1 : ∀ u ∈ l, u.oneCell' = true) (hb : (n + m) * b ≤ 140737488355328) (hm : n + m ≤ maxLen) (hB : B ≤ w.heap.size)
    (N : Nat) (hN : n + m = N) (M : List Value) (hM : l0 ++ l = M)
    (hK : ∀ A' c' w', OwnV E s w' B A' N c' M → Below B w w' → Grew A A' w w' → K (a.put o.dst (.slice A' N c')) w') : if Region.wanted o (yielded ops a.tmps) = true then Oper.wp Try.prog o a w K Q else F := by
  have hw : Region.wanted o (yielded ops a.tmps) = true := by simp [Region.wanted, hgd]
  rw [if_pos hw]
  subst hN; subst hM
  obtain ⟨A', c', w', hrun, h1, h2, h3⟩ := run_appX L w B A n c l0 h ad m d l Bs hr hl hm0 h1 hb hm hB
  unfold Oper.wp execOp
  simp only [ho, hty, resolve, invoke, builtin, Sem.run_bind, Sem.run_pure, Result.andThen_ok, List.map_toArray, List.map_cons, List.map_nil, hx, hy, hrun]
  exact hK A' c' w' h1 h2 h3
theorem wpList_appX (L : Elt T E s b z) {ops : Array Oper} {rest : List Oper} {o : Oper} {a : Act} {Q : Exit → Act → World → Prop} {w : World} (hgd : o.guard = none) (x y : Operand)
    (ho : o.op = .call { callee := .builtin .append, args := #[x, y], argTypes := #[T, T] }) (hty : o.type = T)
    (B : Nat) (A : Option Addr) (n c : Nat) (l0 : List Value) (hx : a.eval x = .slice A n c) (h : OwnV E s w B A n c l0) (ad : Addr) (m d : Nat) (l : List Value) (Bs : Nat) (hy : a.eval y = .slice (some ad) m d) (hr : RdV w Bs (some ad) l)
    (hl : l.length = m * s) (hm0 : 0 < m) (h1 : ∀ u ∈ l, u.oneCell' = true) (hb : (n + m) * b ≤ 140737488355328) (hm : n + m ≤ maxLen) (hB : B ≤ w.heap.size)
    (N : Nat) (hN : n + m = N) (M : List Value) (hM : l0 ++ l = M)
    (hK : ∀ A' c' w', OwnV E s w' B A' N c' M → Below B w w' → Grew A A' w w' → wpList Try.prog ops Q rest (a.put o.dst (.slice A' N c')) w') : wpList Try.prog ops Q (o :: rest) a w := by
  subst hN; subst hM
  refine wpList_plain hgd fun K hk => ?_
  obtain ⟨A', c', w', hrun, h1, h2, h3⟩ := run_appX L w B A n c l0 h ad m d l Bs hr hl hm0 h1 hb hm hB
  unfold Oper.wp execOp
  simp only [ho, hty, resolve, invoke, builtin, Sem.run_bind, Sem.run_pure, Result.andThen_ok, List.map_toArray, List.map_cons, List.map_nil, hx, hy, hrun]
  exact hk _ _ (hK A' c' w' h1 h2 h3)
end
end Go.Proofs.Ytcdgofdnafbacaa

/- The places of a node's children, by the document's own answer. -/
namespace Go.Proofs.Ytcdgofdnafbacaa
open Go.RowKit Tab
set_option linter.unusedSimpArgs false
set_option linter.unusedVariables false

/-- It answers a row of numbers in a new block. -/
def MadeJ (l : List Int) (w : World) (e : Ending) (w' : World) : Prop := ∃ A n c, e = .returned (.slice A n c) ∧ RdI w' w'.heap.size A n l ∧ n ≤ c ∧ Below w.heap.size w w' ∧ ∀ ad, A = some ad → w.heap.size ≤ ad.block
theorem OwnV.newer {E s : Nat} {w : World} {B n c : Nat} {A : Option Addr} {l : List Value} (h : OwnV E s w B A n c l) : ∀ ad, A = some ad → B ≤ ad.block := fun ad e => by
  rcases h.2 with ⟨hv, _⟩ | ⟨g, cap, cur, hv, hbg, _⟩
  · injection hv with h1; rw [e] at h1; cases h1
  · injection hv with h1; rw [e] at h1; injection h1 with h1; rw [h1]; exact hbg
theorem MadeJ.mk {l : List Int} {w w' : World} {A : Option Addr} {n c : Nat} (h : OwnV 3 1 w' w.heap.size A n c (is l)) (hb : Below w.heap.size w w') : MadeJ l w (.returned (.slice A n c)) w' :=
  ⟨A, n, c, rfl, ⟨by have := h.len; rw [is_length] at this; omega, h.rd⟩, h.cap, hb, h.newer⟩
theorem madeJ_nil (w w' : World) (hb : Below w.heap.size w w') : MadeJ [] w (.returned (.slice none 0 0)) w' := ⟨none, 0, 0, rfl, ⟨rfl, RdV.nil⟩, Nat.le_refl _, hb, fun _ h => by cases h⟩
/-- What a walk over the children meets. -/
theorem kids_tree {l : List Nd} {a : Nat} (h : size l (a : Int) ≠ 0) : ∃ m, kids l (a : Int) = plc l (a + 1) m ∧ m ≤ 128 ∧ ∀ j, j ≤ m → pos l (a + 1) j ≤ a + size l (a : Int) ∧ (j < m → pos l (a + 1) j < a + size l (a : Int)) ∧ (j = m → pos l (a + 1) j = a + size l (a : Int)) := by
  obtain ⟨x, k, t, hok, _, h2, h3, h4⟩ := size_tree h
  rw [Int.toNat_natCast] at h3
  have hd : l.drop (a + 1) = k.flat ++ t := by
    rw [← List.drop_drop, h3]
    rfl
  refine ⟨kn x, ?_, kn_le hok.1, fun j hj => ?_⟩
  · unfold kids
    have : (l.drop a)[0]? = some x := by rw [h3]; rfl
    have hx : l[a]? = some x := by simpa using this
    rw [if_neg h, Int.toNat_natCast, hx]
    rfl
  · obtain ⟨_, h5, _, _⟩ := pos_dr hok.2.2.1 hd (by omega) j (by rw [hok.2.1]; exact hj)
    have h6 := dr_cnt k j
    have h7 := F.cnt_le_sz (F.dr j k)
    rw [hok.2.1] at h6
    refine ⟨by omega, fun hlt => by omega, fun he => ?_⟩
    have h8 : F.dr j k = .nil := F.cnt_zero (by omega)
    rw [h8] at h5
    simp only [F.sz] at h5
    omega
end Go.Proofs.Ytcdgofdnafbacaa

/- A region that draws its order, by what each of its operations yields: whatever order is drawn. Named here: the model's regions alone, no program. -/
namespace Go.Proofs.Ytcdgofdnafbacaa
open Go Go.RowKit
namespace Reg
set_option linter.unusedSimpArgs false

def dstN (ops : Array Oper) (j : Nat) : Tmp := ((ops[j]?).bind (·.dst)).getD 0
def waits (o : Oper) (j : Nat) : Bool := o.after.toList.any fun e => e.on == j && Region.binds .any e
def writes (ops : Array Oper) (t : Tmp) : Bool := ops.toList.any fun o => o.dst == some t
/-- Every operation has a slot of its own, and waits for earlier ones alone. -/
def good (ops : Array Oper) (n : Nat) : Bool :=
  (List.range ops.size).all fun i => match ops[i]? with
    | some o => (match o.dst with
        | some d => decide (d < n) && (List.range ops.size).all fun j => j == i || (match ops[j]? with | some p => !(p.dst == some d) | none => true)
        | none => false) && o.after.toList.all fun e => decide (e.on < i)
    | none => false

theorem good_at {ops : Array Oper} {n : Nat} (h : good ops n = true) {i : Nat} {o : Oper} (hi : ops[i]? = some o) :
    ∃ d, o.dst = some d ∧ d < n ∧ (∀ j p, ops[j]? = some p → j ≠ i → p.dst ≠ some d) ∧ ∀ e ∈ o.after, e.on < i := by
  have hlt : i < ops.size := (Array.getElem?_eq_some_iff.1 hi).1
  have h1 := List.all_eq_true.1 h i (List.mem_range.2 hlt)
  rw [hi] at h1
  simp only [Bool.and_eq_true] at h1
  obtain ⟨h2, h3⟩ := h1
  cases hd : o.dst with
  | none => rw [hd] at h2; cases h2
  | some d =>
    rw [hd] at h2
    simp only [Bool.and_eq_true, decide_eq_true_iff] at h2
    refine ⟨d, rfl, h2.1, fun j p hj hne => ?_, fun e he => ?_⟩
    · have hjl : j < ops.size := (Array.getElem?_eq_some_iff.1 hj).1
      have h4 := List.all_eq_true.1 h2.2 j (List.mem_range.2 hjl)
      rw [hj] at h4
      simp only [Bool.or_eq_true, beq_iff_eq, Bool.not_eq_true', beq_eq_false_iff_ne] at h4
      exact h4.resolve_left hne
    · have := List.all_eq_true.1 h3 e (Array.mem_toList_iff.2 he)
      simpa using this

theorem dst_of {ops : Array Oper} {i : Nat} {o : Oper} {d : Tmp} (hi : ops[i]? = some o) (hd : o.dst = some d) : dstN ops i = d := by
  simp [dstN, hi, hd]

/-- Whoever has come up, those that it waits for have. -/
def Closed (ops : Array Oper) (live : Nat → Bool) : Prop := ∀ j p, ops[j]? = some p → live j = true → ∀ k, waits p k = true → live k = true
structure Inv (ops : Array Oper) (a0 : Act) (V : Nat → Value → World → Prop) (W : World → Prop) (listed : Array Bool) (a : Act) (w : World) : Prop where
  size : a.tmps.size = a0.tmps.size
  defers : a.defers = a0.defers
  env : ∀ t, writes ops t = false → a.eval (.tmp t) = a0.eval (.tmp t)
  val : ∀ j, j < ops.size → listed.getD j false = true → V j (a.eval (.tmp (dstN ops j))) w
  world : W w
  closed : Closed ops fun j => listed.getD j false

theorem eval_same (a : Act) (d : Tmp) (v : Value) (h : d < a.tmps.size) : (a.put (some d) v).eval (.tmp d) = v := by
  simp [Act.eval, Act.put, h]
theorem eval_other (a : Act) (d t : Tmp) (v : Value) (h : d ≠ t) : (a.put (some d) v).eval (.tmp t) = a.eval (.tmp t) := by
  simp [Act.eval, Act.put, Array.getElem?_setIfInBounds_ne h]

/-- What a step owes; live: who has come up. -/
def Owes (live : Nat → Bool) (V : Nat → Value → World → Prop) (W : World → Prop) (i : Nat) (o : Oper) (a : Act) (w : World) (a' : Act) (w' : World) : Prop :=
  ∃ v, a' = a.put o.dst v ∧ V i v w' ∧ W w' ∧ ∀ j v, live j = true → V j v w → V j v w'

theorem Inv.step {ops : Array Oper} {a0 : Act} {V : Nat → Value → World → Prop} {W : World → Prop} {listed : Array Bool} {a a' : Act} {w w' : World} (hg : good ops a0.tmps.size = true)
    {i : Nat} {o : Oper} (hi : ops[i]? = some o) (h : Inv ops a0 V W listed a w) (hr : ∀ k, waits o k = true → listed.getD k false = true) (hs : Owes (fun j => listed.getD j false) V W i o a w a' w') : Inv ops a0 V W (listed.setIfInBounds i true) a' w' := by
  obtain ⟨v, rfl, hv, hw, hm⟩ := hs
  obtain ⟨d, hd, hdn, hdist, _⟩ := good_at hg hi
  have hsz : d < a.tmps.size := by rw [h.size]; exact hdn
  rw [hd]
  refine ⟨by simp [Act.put, h.size], by simp [Act.put, h.defers], fun t ht => ?_, fun j hj hl => ?_, hw, fun j p hj hl k hk => ?_⟩
  · have hne : d ≠ t := by
      rintro rfl
      have : writes ops d = true := List.any_eq_true.2 ⟨o, Array.mem_toList_iff.2 (Array.mem_of_getElem? hi), by simp [hd]⟩
      rw [this] at ht; cases ht
    rw [eval_other _ _ _ _ hne]; exact h.env t ht
  · by_cases hji : j = i
    · subst hji
      rw [dst_of hi hd, eval_same _ _ _ hsz]; exact hv
    · obtain ⟨p, hp⟩ : ∃ p, ops[j]? = some p := ⟨_, Array.getElem?_eq_getElem hj⟩
      obtain ⟨e, he, _⟩ := good_at hg hp
      have hne : d ≠ dstN ops j := by
        rw [dst_of hp he]
        rintro rfl
        exact hdist j p hp hji he
      rw [eval_other _ _ _ _ hne]
      rw [getD_set_ne false (Ne.symm hji)] at hl
      exact hm j _ hl (h.val j hj hl)
  · by_cases hji : j = i
    · subst hji
      rw [hi] at hj
      injection hj with hj
      subst hj
      exact getD_set_true (hr k hk)
    · have hl' : (listed.setIfInBounds i true).getD j false = true := hl
      rw [getD_set_ne false (Ne.symm hji)] at hl'
      exact getD_set_true (h.closed j p hj hl' k hk)

/-- How many have not come up. -/
def left (listed : Array Bool) : Nat := listed.toList.countP (· == false)

theorem left_set {listed : Array Bool} {i : Nat} (h : listed.getD i true = false) : left (listed.setIfInBounds i true) + 1 = left listed := by
  have hlt : i < listed.size := by
    rcases Nat.lt_or_ge i listed.size with h' | h'
    · exact h'
    · simp [Array.getElem?_eq_none h'] at h
  have hi : listed.toList[i]'(by simpa using hlt) = false := by
    simpa [hlt] using h
  unfold left
  rw [Array.toList_setIfInBounds, List.countP_set (by simpa using hlt), hi]
  have : 0 < listed.toList.countP (· == false) := List.countP_pos_iff.2 ⟨false, by rw [← hi]; exact List.getElem_mem _, rfl⟩
  rw [if_pos (by decide), if_neg (by decide)]
  omega

theorem all_listed {ops : Array Oper} {n : Nat} (hg : good ops n = true) {listed : Array Bool} (hs : listed.size = ops.size) (hr : Region.ready .any ops listed = []) :
    ∀ j, j < ops.size → listed.getD j false = true := by
  intro j
  induction j using Nat.strongRecOn with
  | ind j ih =>
    intro hj
    have hjl : j < listed.size := by omega
    cases hb : listed.getD j false with
    | true => rfl
    | false =>
      have hb' : listed.getD j true = false := by
        simpa [hjl] using hb
      obtain ⟨o, ho⟩ : ∃ o, ops[j]? = some o := ⟨_, Array.getElem?_eq_getElem hj⟩
      obtain ⟨_, _, _, _, hacy⟩ := good_at hg ho
      have : j ∈ Region.ready .any ops listed := mem_ready.2 ⟨hb', o, ho, fun e he _ => ih e.on (hacy e he) (by have := hacy e he; omega)⟩
      rw [hr] at this; cases this

/-- What is asked of one operation. -/
def Goal (P : Program) (ops : Array Oper) (Q : Exit → Act → World → Prop) (V : Nat → Value → World → Prop) (W : World → Prop) (i : Nat) (o : Oper) (a : Act) (w : World) : Prop :=
  ∀ live : Nat → Bool, Closed ops live → live i = false → wpOp P ops Q i (Owes live V W i o a w) a w
/-- The whole obligation. -/
def Steps (P : Program) (ops : Array Oper) (Q : Exit → Act → World → Prop) (a0 : Act) (V : Nat → Value → World → Prop) (W : World → Prop) : Prop :=
  ∀ i o, ops[i]? = some o → ∀ (a : Act) (w : World), (∀ t, writes ops t = false → a.eval (.tmp t) = a0.eval (.tmp t)) →
    (∀ j, waits o j = true → V j (a.eval (.tmp (dstN ops j))) w) → W w → Goal P ops Q V W i o a w

theorem any_of {P : Program} {ops : Array Oper} {Q : Exit → Act → World → Prop} {a0 : Act} {V : Nat → Value → World → Prop} {W : World → Prop} (hg : good ops a0.tmps.size = true) (hst : Steps P ops Q a0 V W)
    (hend : ∀ listed a w, Inv ops a0 V W listed a w → (∀ j, j < ops.size → listed.getD j false = true) → Q .normal a w) :
    ∀ (fuel : Nat) (listed : Array Bool) (a : Act) (w : World), listed.size = ops.size → left listed ≤ fuel → Inv ops a0 V W listed a w → wpAny P .any ops Q fuel listed a w := by
  intro fuel
  induction fuel with
  | zero =>
    intro listed a w hs hl h
    have hr : Region.ready .any ops listed = [] := by
      cases hc : Region.ready .any ops listed with
      | nil => rfl
      | cons i r =>
        have hi : i ∈ Region.ready .any ops listed := by rw [hc]; exact List.mem_cons_self
        have := left_set (mem_ready.1 hi).1
        omega
    exact ⟨hr, hend listed a w h (all_listed hg hs hr)⟩
  | succ fuel ih =>
    intro listed a w hs hl h
    refine ⟨fun hr => hend listed a w h (all_listed hg hs hr), fun i hi => ?_⟩
    obtain ⟨h0, o, ho, hall⟩ := mem_ready.1 hi
    have hi' : i < ops.size := (Array.getElem?_eq_some_iff.1 ho).1
    have hwait : ∀ k, waits o k = true → k < i ∧ listed.getD k false = true := fun k hk => by
      obtain ⟨e, he, heq⟩ := List.any_eq_true.1 hk
      have he := Array.mem_toList_iff.1 he
      simp only [Bool.and_eq_true, beq_iff_eq] at heq
      obtain ⟨rfl, hb⟩ := heq
      obtain ⟨_, _, _, _, hacy⟩ := good_at hg ho
      exact ⟨hacy e he, hall e he hb⟩
    have hstep := hst i o ho a w h.env (fun j hj => h.val j (by have := (hwait j hj).1; omega) (hwait j hj).2) h.world (fun j => listed.getD j false) h.closed (by
      have hlt : i < listed.size := by omega
      simpa [hlt] using h0)
    refine wpOp_mono (fun a' w' hw => ?_) hstep
    refine ih _ a' w' (by simpa using hs) ?_ (h.step hg ho (fun k hk => (hwait k hk).2) hw)
    have := left_set h0
    omega

theorem region {P : Program} {id : Nat} {ops : Array Oper} {Q : Exit → Act → World → Prop} {a0 : Act} {w0 : World} (hm : P.follows .mixedOrders = true) (hg : good ops a0.tmps.size = true) (V : Nat → Value → World → Prop) (W : World → Prop)
    (hW : W w0.drew) (hst : Steps P ops Q a0 V W)
    (hend : ∀ a w, a.tmps.size = a0.tmps.size → a.defers = a0.defers → (∀ t, writes ops t = false → a.eval (.tmp t) = a0.eval (.tmp t)) → (∀ j, j < ops.size → V j (a.eval (.tmp (dstN ops j))) w) → W w → Q .normal a w) :
    (Code.region id ops true).wp P Q a0 w0 := by
  refine wp_region_any hm ?_
  refine any_of hg hst (fun listed a w h hall => hend a w h.size h.defers h.env (fun j hj => h.val j hj (hall j hj)) h.world) ops.size (Array.replicate ops.size false) a0 w0.drew (by simp) ?_ ?_
  · unfold left
    have := List.countP_le_length (p := (· == false)) (l := (Array.replicate ops.size false).toList)
    simpa using this
  · refine ⟨rfl, rfl, fun _ _ => rfl, fun j hj hl => ?_, hW, fun j p hj hl k hk => ?_⟩
    · simp [hj] at hl
    · have hjl : j < ops.size := (Array.getElem?_eq_some_iff.1 hj).1
      have hl' : (Array.replicate ops.size false).getD j false = true := hl
      simp [hjl] at hl'

/-- The obligations one by one. -/
def All (F : Nat → Oper → Prop) : Nat → List Oper → Prop
  | _, [] => True
  | i, o :: l => F i o ∧ All F (i + 1) l
theorem All.get {F : Nat → Oper → Prop} (l : List Oper) : ∀ (i : Nat), All F i l → ∀ j o, l[j]? = some o → F (i + j) o := by
  induction l with
  | nil => intro i _ j o hp; simp at hp
  | cons q l ih =>
    intro i h j o hp
    cases j with
    | zero => simp at hp; subst hp; exact h.1
    | succ j =>
      have := ih (i + 1) h.2 j o (by simpa using hp)
      rwa [Nat.add_assoc, Nat.add_comm 1] at this
theorem steps_of {P : Program} {l : List Oper} {Q : Exit → Act → World → Prop} {a0 : Act} {V : Nat → Value → World → Prop} {W : World → Prop}
    (h : All (fun i o => ∀ (a : Act) (w : World), (∀ t, writes l.toArray t = false → a.eval (.tmp t) = a0.eval (.tmp t)) →
      (∀ j, waits o j = true → V j (a.eval (.tmp (dstN l.toArray j))) w) → W w → Goal P l.toArray Q V W i o a w) 0 l) : Steps P l.toArray Q a0 V W := by
  intro i o hi
  have := All.get l 0 h i o (by simpa using hi)
  rwa [Nat.zero_add] at this

section
variable {P : Program} {ops : Array Oper} {Q : Exit → Act → World → Prop} {V : Nat → Value → World → Prop} {W : World → Prop} {i : Nat} {o : Oper} {a : Act} {w : World}
/-- An operation that yields a value, and does nothing else. -/
theorem val (hi : ops[i]? = some o) (hw : Region.wanted o (yielded ops a.tmps) = true) (hW : W w) (v : Value) (hr : (execOp a.eval o).run P w = .ok (.value v) w) (hv : V i v w) : Goal P ops Q V W i o a w := by
  intro live _ _
  unfold wpOp
  rw [hi]
  simp only [hw, if_true]
  refine .inl ?_
  unfold Oper.wp
  rw [hr]
  exact ⟨v, rfl, hv, hW, fun _ _ _ h => h⟩
/-- An operation that yields a value, in another world; what those that have come up yielded is to stand. -/
theorem growL (hi : ops[i]? = some o) (hw : Region.wanted o (yielded ops a.tmps) = true) (v : Value) (w' : World) (hr : (execOp a.eval o).run P w = .ok (.value v) w') (hv : V i v w') (hW : W w')
    (hm : ∀ live : Nat → Bool, Closed ops live → live i = false → ∀ j v, live j = true → V j v w → V j v w') : Goal P ops Q V W i o a w := by
  intro live hc h0
  unfold wpOp
  rw [hi]
  simp only [hw, if_true]
  refine .inl ?_
  unfold Oper.wp
  rw [hr]
  exact ⟨v, rfl, hv, hW, hm live hc h0⟩
theorem grow (hi : ops[i]? = some o) (hw : Region.wanted o (yielded ops a.tmps) = true) (v : Value) (w' : World) (hr : (execOp a.eval o).run P w = .ok (.value v) w') (hv : V i v w') (hW : W w') (hm : ∀ j v, j ≠ i → V j v w → V j v w') : Goal P ops Q V W i o a w :=
  growL hi hw v w' hr hv hW fun live _ h0 j v hj h => hm j v (fun e => by rw [e, h0] at hj; cases hj) h
/-- A call of a Go function. -/
theorem call (hi : ops[i]? = some o) (hw : Region.wanted o (yielded ops a.tmps) = true) (f : FuncId) (args : Array Value) (hr : (execOp a.eval o).run P w = .ok (.enter f args) w)
    (hc : Calls P f args w fun e w' => ∃ v, e = .returned v ∧ V i v w' ∧ W w' ∧ ∀ j v, V j v w → V j v w') : Goal P ops Q V W i o a w := by
  intro live _ _
  unfold wpOp
  rw [hi]
  simp only [hw, if_true]
  refine .inl ?_
  unfold Oper.wp
  rw [hr]
  refine hc.mono fun e w' he => ?_
  obtain ⟨v, rfl, h1, h2, h3⟩ := he
  exact ⟨v, rfl, h1, h2, fun j v _ => h3 j v⟩
/-- An operation whose guard says no. -/
theorem skip (hi : ops[i]? = some o) (hw : Region.wanted o (yielded ops a.tmps) = false) (hW : W w) (hv : V i undef w) : Goal P ops Q V W i o a w := by
  intro live _ _
  unfold wpOp
  rw [hi]
  simp only [hw]
  exact ⟨undef, rfl, hv, hW, fun _ _ _ h => h⟩
/-- Whoever waits for one that has not come up has not either. -/
theorem not_live {live : Nat → Bool} (hc : Closed ops live) {k : Nat} (h : live k = false) {j : Nat} {p : Oper} (hj : ops[j]? = some p) (hw : waits p k = true) : live j = false := by
  cases e : live j with
  | false => rfl
  | true => rw [hc j p hj e k hw] at h; cases h
theorem wanted_free (h : o.guard = none) : Region.wanted o (yielded ops a.tmps) = true := by simp [Region.wanted, h]
theorem wanted_if {g : Nat} {want b : Bool} (h : o.guard = some (g, want)) {t : Tmp} (ht : (ops[g]?).bind (·.dst) = some t) (hv : a.eval (.tmp t) = .bool b) (hb : (b == want) = true) : Region.wanted o (yielded ops a.tmps) = true := by
  have hlt : t < a.tmps.size := by
    rcases Nat.lt_or_ge t a.tmps.size with h' | h'
    · exact h'
    · simp [Act.eval, Array.getElem?_eq_none h', undef] at hv
  have h2 : a.tmps[t]? = some (.bool b) := by
    simpa [Act.eval, hlt] using hv
  simp only [Region.wanted, h, yielded, ht, Option.bind_some, h2]
  have : b = want := by simpa using hb
  simp [this]
end

/-- What a frame says of constants and functions. -/
theorem consts (a : Act) : (∀ v, a.eval (.const v) = v) ∧ (∀ f, a.eval (.func f) = .func (.func f) #[] #[]) := ⟨fun _ => rfl, fun _ => rfl⟩

/-- A frame by its slots. -/
theorem act_lit (a : Act) (n : Nat) (h : a.tmps.size = n) : a = ⟨((List.range n).map fun t => a.eval (.tmp t)).toArray, a.defers⟩ := by
  cases a with
  | mk tmps defers =>
    simp only at h
    congr 1
    apply Array.ext
    · simp [h]
    · intro i h1 h2
      simp [Act.eval, h1]
end Reg
end Go.Proofs.Ytcdgofdnafbacaa

/- The path of open nodes in memory: how often the next node is gone through; the path behind a node. -/
namespace Go.Proofs.Ytcdgofdnafbacaa
open Go.RowKit Tab
set_option linter.unusedSimpArgs false
set_option linter.unusedVariables false

/-- A path as cells: the outermost first. -/
def os : List (Nat × Nat) → List Value
  | [] => []
  | (a, t) :: o => os o ++ [.int .i64 (a : Int), .int .i64 (t : Int)]
theorem os_length (st : List (Nat × Nat)) : (os st).length = st.length * 2 := by
  induction st with
  | nil => rfl
  | cons e o ih => obtain ⟨a, t⟩ := e; simp only [os, List.length_append, ih, List.length_cons, List.length_nil]; omega
theorem os_last (a t : Nat) (o : List (Nat × Nat)) : (os ((a, t) :: o))[o.length * 2]? = some (.int .i64 (a : Int)) ∧ (os ((a, t) :: o))[o.length * 2 + 1]? = some (.int .i64 (t : Int)) := by
  have := os_length o
  constructor
  · simp only [os]; rw [List.getElem?_append_right (by omega), this, Nat.sub_self]; rfl
  · simp only [os]; rw [List.getElem?_append_right (by omega), this, show o.length * 2 + 1 - o.length * 2 = 1 by omega]; rfl
theorem os_set (a t : Nat) (o : List (Nat × Nat)) (b : Nat) : (os ((a, t) :: o)).set (o.length * 2) (.int .i64 (b : Int)) = os ((b, t) :: o) := by
  have := os_length o
  simp only [os]
  rw [List.set_append_right _ _ (by omega), this, Nat.sub_self]
  rfl
theorem os_dec (a t : Nat) (o : List (Nat × Nat)) (h : 1 ≤ a) : (os ((a, t) :: o)).set (o.length * 2) (.int .i64 ((a : Int) - 1)) = os ((a - 1, t) :: o) := by
  rw [show (a : Int) - 1 = ((a - 1 : Nat) : Int) by omega]
  exact os_set a t o (a - 1)
theorem OwnV.front {E s : Nat} {w : World} {B : Nat} {A : Option Addr} {n c : Nat} {l : List Value} (h : OwnV E s w B A n c l) (m : Nat) (hm : m ≤ n) : OwnV E s w B A m c (l.take (m * s)) := by
  have h0 : m * s ≤ n * s := Nat.mul_le_mul_right _ hm
  refine ⟨by rw [List.length_take, h.1]; omega, ?_⟩
  rcases h.2 with ⟨hv, hz⟩ | ⟨g, cap, cur, hv, hbg, hg, hnc, hcm, hcs, ht⟩
  · refine .inl ⟨?_, by omega⟩
    simp only [Value.slice.injEq] at hv ⊢
    exact ⟨hv.1, by omega, hv.2.2⟩
  · simp only [Value.slice.injEq] at hv
    obtain ⟨rfl, _, rfl⟩ := hv
    refine .inr ⟨g, c, cur, rfl, hbg, hg, by omega, hcm, hcs, ?_⟩
    rw [← ht, List.take_take, Nat.min_eq_left h0]
theorem os_take (a t : Nat) (o : List (Nat × Nat)) : (os ((a, t) :: o)).take (o.length * 2) = os o := by
  simp only [os]
  exact List.take_left' (os_length o)
theorem pops_more {a t : Nat} {o : List (Nat × Nat)} (h : 1 < a) : pops ((a, t) :: o) = (a - 1, t) :: o := by simp only [pops]; rw [if_pos h]
theorem pops_less {a t : Nat} {o : List (Nat × Nat)} (h : ¬ 1 < a) : pops ((a, t) :: o) = pops o := by simp only [pops]; rw [if_neg h]
end Go.Proofs.Ytcdgofdnafbacaa

/- How many ticks a table has, how deep it goes, by the program. -/
namespace Go.Proofs.Ytcdgofdnafbacaa
open Go.RowKit Tab
set_option linter.unusedSimpArgs false
set_option linter.unusedVariables false

theorem Outer.low {o : List (Nat × Nat)} {fs : List F} (h : Outer o fs) (M : Nat) (hM : ∀ f ∈ fs, f.cnt < M) : ∀ e ∈ o, 1 ≤ e.1 ∧ e.1 ≤ M := by
  induction o generalizing fs with
  | nil => simp
  | cons x o ih =>
    obtain ⟨a, t⟩ := x
    cases fs with
    | nil => exact h.elim
    | cons f fs =>
      obtain ⟨h1, _, _, _, h5⟩ := h
      intro e he
      rcases List.mem_cons.1 he with rfl | he
      · have := hM f (by simp)
        dsimp only
        omega
      · exact ih h5 (fun g hg => hM g (by simp [hg])) e he
theorem flats_len (fs : List F) (f : F) (h : f ∈ fs) : f.cnt ≤ (flats fs).length := by
  induction fs with
  | nil => cases h
  | cons g fs ih =>
    simp only [flats, List.length_append]
    rcases List.mem_cons.1 h with rfl | h
    · have := F.cnt_le_sz f; rw [F.flat_length]; omega
    · have := ih h; omega
theorem InvP.low {st : List (Nat × Nat)} {cur : F} {fs : List F} (h : InvP st cur fs) {tl : List Nd} (hr : cur.flat ++ flats fs = tl) (M : Nat) (hM : tl.length < M) : ∀ e ∈ st, 1 ≤ e.1 ∧ e.1 ≤ M := by
  have hl := congrArg List.length hr
  rw [List.length_append, F.flat_length] at hl
  cases st with
  | nil => simp
  | cons x o =>
    obtain ⟨a, t⟩ := x
    obtain ⟨_, h1, h2, _, _, h5⟩ := h
    intro e he
    rcases List.mem_cons.1 he with rfl | he
    · have := F.cnt_le_sz cur
      dsimp only
      omega
    · exact Outer.low h5 M (fun f hf => by have := flats_len fs f hf; omega) e he

theorem pops_len (st : List (Nat × Nat)) : (pops st).length ≤ st.length := by
  induction st with
  | nil => simp [pops]
  | cons e o ih =>
    obtain ⟨a, t⟩ := e
    simp only [pops]
    split
    · simp
    · simp only [List.length_cons]; omega
theorem behind_len (st : List (Nat × Nat)) (x : Nd) : (behind st x).length ≤ st.length + 1 := by
  unfold behind
  split
  · simp
  · split
    · simp
    · have := pops_len st; omega
/-- What is told of so many ticks. -/
def lv (T : Nat) : Int := if T ≤ 4096 then (T : Int) else 0
def lb (T : Nat) : Bool := decide (T ≤ 4096)
def Len (T : Nat) (w : World) (e : Ending) (w' : World) : Prop := e = .returned (.tuple #[.int .i64 (lv T), .bool (lb T)]) ∧ Below w.heap.size w w'
theorem Len.mk {T : Nat} {z : Int} {b : Bool} {w w' : World} (h1 : lv T = z) (h2 : lb T = b) (hb : Below w.heap.size w w') : Len T w (.returned (.tuple #[.int .i64 z, .bool b])) w' := ⟨by rw [h1, h2], hb⟩
theorem kn_kz {x : Nd} (h : fine x = true) (h0 : kn x = 0) : kz x = 0 := by rw [kz_kn h, h0]; rfl
theorem kn_kz' {x : Nd} (h : fine x = true) (h0 : kn x ≠ 0) : ∃ K : Nat, kz x = (K : Int) ∧ 0 < K := ⟨kn x, kz_kn h, by omega⟩

end Go.Proofs.Ytcdgofdnafbacaa

/- Refusals of tables, by the program and by the document's own answer; rows that are the same. -/
namespace Go.Proofs.Ytcdgofdnafbacaa
open Go.RowKit Tab
set_option linter.unusedSimpArgs false
set_option linter.unusedVariables false

theorem whole_size {l : List Nd} (h : wholeB l = true) : 0 < l.length ∧ size l 0 = l.length := by
  unfold wholeB at h
  simp only [Bool.and_eq_true, decide_eq_true_eq] at h
  exact h
theorem not_whole {l : List Nd} (h : wholeB l = false) (h0 : 0 < l.length) : ¬ size l 0 = l.length := fun h1 => by
  unfold wholeB at h
  rw [decide_eq_true h0, decide_eq_true h1] at h
  cases h
/-- The refusal of a table of n nodes, so deep, with so many ticks. -/
def rt (n D T : Nat) : Int := if 128 < n then 3 else if 16 < D then 14 else if 4096 < T then 18 else 0
/-- Of what is none. -/
def rn (n : Nat) : Int := if 128 < n then 3 else 12
end Go.Proofs.Ytcdgofdnafbacaa
