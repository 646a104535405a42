/- Contracts and mathematics that the texts behind it stand on: Bm, Bwa, Blg, Bfw, Bsam, Bpkg, Zd, Ze, Fold. -/
import Derived.Test.YtebcfiifaclniaaGreatLow8
import Derived.Test.YtebcfiifaclniaaGreatLow6
import Derived.Deep.CutBlock
import Derived.OpenShut
import Derived.Deep.RegionWith
import Derived.Test.YtebcfiifaclniaaGreatLow2
/- How long each run of a tidy row waits for the next tick of one, round; how few ticks in each period, run by run: plain mathematics. -/
namespace Go.Proofs.YtebcfiifaclniaaGreat
open Go.RowKit Tab
set_option linter.unusedSimpArgs false
set_option linter.unusedVariables false

theorem wordsL_push (out : List Rn) (x : Rn) : wordsL (tpush out x) = wordsL out ++ List.replicate x.n x.p := by
  rcases tpush_cases out x with ⟨h, e⟩ | ⟨h, rfl, e⟩ | ⟨o, y, h, rfl, hp, e⟩ | ⟨o, y, h, rfl, hp, e⟩
  · rw [e, h]; simp
  · rw [e]; simp [wordsL]
  · rw [e, wordsL_append, wordsL_append]
    simp only [wordsL, hp, List.append_nil, List.append_assoc]
    rw [List.replicate_append_replicate]
  · rw [e, wordsL_append]; simp [wordsL]
theorem wordsL_tidyOn (l : List Rn) : ∀ out, wordsL (tidyOn out l) = wordsL out ++ wordsL l := by
  induction l with
  | nil => intro out; simp [tidyOn, wordsL]
  | cons x l ih =>
    intro out
    have := ih (tpush out x)
    unfold tidyOn at this ⊢
    rw [List.foldl_cons, this, wordsL_push]
    simp only [wordsL, List.append_assoc]
theorem wordsL_tidy (l : List Rn) : wordsL (tidy l) = wordsL l := by
  unfold tidy
  rw [wordsL_tidyOn]
  rfl
/-- Where the first tick of q is. -/
def fi (q : Int) : List Int → Nat
  | [] => 0
  | x :: l => if x = q then 0 else fi q l + 1
theorem fi_get {q : Int} {Z : List Int} (h : hasL q Z = true) : Z[fi q Z]? = some q := by
  induction Z with
  | nil => cases h
  | cons x Z ih =>
    simp only [hasL, Bool.or_eq_true, decide_eq_true_eq] at h
    by_cases hx : x = q
    · simp [fi, hx]
    · simp only [fi, if_neg hx, List.getElem?_cons_succ]
      exact ih (h.resolve_left hx)
theorem fi_no {q : Int} {Z : List Int} : ∀ {i : Nat}, i < fi q Z → ¬ Z[i]? = some q := by
  induction Z with
  | nil => intro i h; simp [fi] at h
  | cons x Z ih =>
    intro i h
    by_cases hx : x = q
    · simp [fi, hx] at h
    · simp only [fi, if_neg hx] at h
      cases i with
      | zero => simpa using hx
      | succ i => simpa using ih (by omega)
theorem fi_lt {q : Int} {Z : List Int} (h : hasL q Z = true) : fi q Z < Z.length := (List.getElem?_eq_some_iff.1 (fi_get h)).1
theorem fi_rep_ne {x q : Int} (h : x ≠ q) (k : Nat) (Z : List Int) : fi q (List.replicate k x ++ Z) = k + fi q Z := by
  induction k with
  | zero => simp
  | succ k ih =>
    simp only [List.replicate_succ, List.cons_append, fi, if_neg h, ih]
    omega
theorem fi_rep_eq (q : Int) (k : Nat) (Z : List Int) (h : 1 ≤ k) : fi q (List.replicate k q ++ Z) = 0 := by
  obtain ⟨k, rfl⟩ : ∃ j, k = j + 1 := ⟨k - 1, by omega⟩
  simp [List.replicate_succ, fi]
/-- What is carried on, from the last run to the first one. -/
def wc (q : Int) : List Rn → Nat → Nat
  | [], n => n
  | r :: s, n => if r.p = q then 0 else wc q s n + r.n
theorem wc_fi {q : Int} {S : List Rn} (h : ∀ r ∈ S, 1 ≤ r.n) (Y : List Int) : wc q S (fi q Y) = fi q (wordsL S ++ Y) := by
  induction S with
  | nil => rfl
  | cons r s ih =>
    have ih := ih fun x hx => h x (by simp [hx])
    have h1 := h r (by simp)
    simp only [wc, wordsL, List.append_assoc]
    by_cases hp : r.p = q
    · rw [if_pos hp, hp, fi_rep_eq q _ _ h1]
    · rw [if_neg hp, fi_rep_ne hp, ih]
      omega
theorem wc_le (q : Int) (S : List Rn) (n : Nat) : wc q S n ≤ ticks S + n := by
  induction S with
  | nil => simp [wc, ticks]
  | cons r s ih =>
    simp only [wc, ticks]
    split <;> omega
theorem wc_at {q : Int} {L : List Rn} {i : Nat} {r : Rn} (h : L[i]? = some r) (n : Nat) : wc q (L.drop i) n = if r.p = q then 0 else wc q (L.drop (i + 1)) n + r.n := by
  obtain ⟨hi, e⟩ := List.getElem?_eq_some_iff.1 h
  rw [List.drop_eq_getElem_cons hi, e]
  rfl
/-- How long run i waits for q. -/
def wt (q : Int) (L : List Rn) (i : Nat) : Nat := wc q (L.drop (i + 1)) (wc q L 0)
theorem ticks_drop_le (L : List Rn) (i : Nat) : ticks (L.drop i) ≤ ticks L := by
  have h : ticks (L.take i ++ L.drop i) = ticks L := by rw [List.take_append_drop]
  rw [ticks_append] at h
  omega
theorem wc0_le (q : Int) (L : List Rn) : wc q L 0 ≤ ticks L := by
  have := wc_le q L 0
  omega
theorem wt_le (q : Int) (L : List Rn) (i : Nat) : wt q L i ≤ 2 * ticks L := by
  have h1 := wc_le q (L.drop (i + 1)) (wc q L 0)
  have h2 := wc0_le q L
  have h3 := ticks_drop_le L (i + 1)
  unfold wt
  omega
theorem wt_fi {q : Int} {L : List Rn} (h : ∀ r ∈ L, 1 ≤ r.n) (i : Nat) : wt q L i = fi q (wordsL (L.drop (i + 1)) ++ wordsL L) := by
  unfold wt
  have e : wc q L 0 = fi q (wordsL L) := by
    have := wc_fi (q := q) h []
    rw [List.append_nil] at this
    exact this
  rw [e, wc_fi fun r hr => h r (List.mem_of_mem_drop hr)]
theorem rnd_split {X Y W : List Int} {x : Int} (hW : W = X ++ x :: Y) {m : Nat} (hm : m < (Y ++ W).length) : rnd W (X.length + (1 + m)) = (Y ++ W)[m]? := by
  have hl : W.length = X.length + 1 + Y.length := by rw [hW, List.length_append, List.length_cons]; omega
  rw [List.length_append] at hm
  by_cases h : m < Y.length
  · rw [rnd_lt (by omega), List.getElem?_append_left h, hW, List.getElem?_append_right (by omega)]
    rw [show X.length + (1 + m) - X.length = m + 1 by omega, List.getElem?_cons_succ]
  · rw [List.getElem?_append_right (by omega)]
    have e : X.length + (1 + m) = (m - Y.length) + W.length * 1 := by omega
    rw [e, rnd_add, rnd_lt (by omega)]
theorem dist_split {X Y W : List Int} {x q : Int} (hW : W = X ++ x :: Y) (h : hasL q W = true) : dist W q X.length = 1 + fi q (Y ++ W) := by
  have hZ : hasL q (Y ++ W) = true := by rw [hasL_append, h, Bool.or_true]
  have hlt := fi_lt hZ
  refine (dist_dst h X.length).eq ⟨by omega, ?_, fun e h1 h2 => ?_⟩
  · rw [rnd_split hW hlt]
    exact fi_get hZ
  · obtain ⟨m, rfl⟩ : ∃ m, e = 1 + m := ⟨e - 1, by omega⟩
    rw [rnd_split hW (by omega)]
    exact fi_no (by omega)
theorem run_at {L : List Rn} {i : Nat} {r : Rn} (hr : L[i]? = some r) : wordsL L = wordsL (L.take i) ++ (List.replicate r.n r.p ++ wordsL (L.drop (i + 1))) := by
  have h := congrArg wordsL (List.take_append_drop (i + 1) L)
  rw [wordsL_append, wordsL_more hr, List.append_assoc] at h
  exact h.symm
theorem dist_run {L : List Rn} {i j : Nat} {r : Rn} {q : Int} (hr : L[i]? = some r) (h : hasL q (wordsL L) = true) (hj : j < r.n) :
    dist (wordsL L) q ((wordsL (L.take i)).length + j) = 1 + fi q (List.replicate (r.n - 1 - j) r.p ++ (wordsL (L.drop (i + 1)) ++ wordsL L)) := by
  have e : wordsL L = (wordsL (L.take i) ++ List.replicate j r.p) ++ r.p :: (List.replicate (r.n - 1 - j) r.p ++ wordsL (L.drop (i + 1))) := by
    refine (run_at hr).trans ?_
    have e2 : List.replicate r.n r.p = List.replicate j r.p ++ r.p :: List.replicate (r.n - 1 - j) r.p := by
      rw [← List.replicate_succ, List.replicate_append_replicate]
      congr 1
      omega
    rw [e2]
    simp only [List.append_assoc, List.cons_append]
  have k := dist_split e h
  rw [List.length_append, List.length_replicate, List.append_assoc] at k
  exact k
theorem get_run : ∀ (L : List Rn) (t : Nat), t < (wordsL L).length → ∃ i r j, L[i]? = some r ∧ j < r.n ∧ t = (wordsL (L.take i)).length + j ∧ (wordsL L)[t]? = some r.p := by
  intro L
  induction L with
  | nil => intro t h; simp [wordsL] at h
  | cons x L ih =>
    intro t h
    by_cases hx : t < x.n
    · refine ⟨0, x, t, rfl, hx, by simp [wordsL], ?_⟩
      simp only [wordsL]
      rw [List.getElem?_append_left (by simpa using hx), List.getElem?_replicate, if_pos hx]
    · simp only [wordsL, List.length_append, List.length_replicate] at h
      obtain ⟨i, r, j, h1, h2, h3, h4⟩ := ih (t - x.n) (by omega)
      refine ⟨i + 1, r, j, h1, h2, ?_, ?_⟩
      · simp only [List.take_succ_cons, wordsL, List.length_append, List.length_replicate]
        omega
      · simp only [wordsL]
        rw [List.getElem?_append_right (by simp; omega), List.length_replicate]
        exact h4
theorem run_get {L : List Rn} {i j : Nat} {r : Rn} (hr : L[i]? = some r) (hj : j < r.n) : (wordsL L)[(wordsL (L.take i)).length + j]? = some r.p ∧ (wordsL (L.take i)).length + j < (wordsL L).length := by
  have e := run_at hr
  have h1 : (wordsL L)[(wordsL (L.take i)).length + j]? = some r.p := by
    rw [e, List.getElem?_append_right (by omega), Nat.add_sub_cancel_left, List.getElem?_append_left (by simpa using hj), List.getElem?_replicate, if_pos hj]
  exact ⟨h1, (List.getElem?_eq_some_iff.1 h1).1⟩
/-- The greatest of the first k runs of p. -/
def mo (p : Int) (g : Nat → Nat → Nat) (L : List Rn) : Nat → Nat
  | 0 => 0
  | k + 1 => match L[k]? with
    | some r => if r.p = p then max (mo p g L k) (g k r.n) else mo p g L k
    | none => mo p g L k
theorem mo_yes {p : Int} {g : Nat → Nat → Nat} {L : List Rn} {k : Nat} {r : Rn} (h : L[k]? = some r) (hp : r.p = p) : mo p g L (k + 1) = max (mo p g L k) (g k r.n) := by simp only [mo, h, if_pos hp]
theorem mo_no {p : Int} {g : Nat → Nat → Nat} {L : List Rn} {k : Nat} {r : Rn} (h : L[k]? = some r) (hp : r.p ≠ p) : mo p g L (k + 1) = mo p g L k := by simp only [mo, h, if_neg hp]
theorem mo_le {p : Int} {g : Nat → Nat → Nat} {L : List Rn} {M : Nat} : ∀ k, mo p g L k ≤ M ↔ ∀ i r, i < k → L[i]? = some r → r.p = p → g i r.n ≤ M := by
  intro k
  induction k with
  | zero => exact ⟨fun _ i r h => by omega, fun _ => Nat.zero_le _⟩
  | succ k ih =>
    have low : (∀ i r, i < k + 1 → L[i]? = some r → r.p = p → g i r.n ≤ M) ↔ mo p g L k ≤ M ∧ ∀ r, L[k]? = some r → r.p = p → g k r.n ≤ M := by
      constructor
      · exact fun h => ⟨ih.2 fun i r hi => h i r (by omega), fun r => h k r (by omega)⟩
      · rintro ⟨h1, h2⟩ i r hi hr hp
        by_cases e : i = k
        · subst e; exact h2 r hr hp
        · exact ih.1 h1 i r (by omega) hr hp
    rw [low]
    cases hk : L[k]? with
    | none => simp [mo, hk]
    | some x =>
      by_cases hp : x.p = p
      · rw [mo_yes hk hp]
        constructor
        · intro h
          exact ⟨by omega, fun r hr _ => by injection hr with hr; subst hr; omega⟩
        · rintro ⟨h1, h2⟩
          have := h2 x rfl hp
          omega
      · rw [mo_no hk hp]
        exact ⟨fun h => ⟨h, fun r hr hrp => by injection hr with hr; subst hr; exact absurd hrp hp⟩, fun h => h.1⟩
theorem lateW_run {L : List Rn} {p q : Int} {M : Nat} : lateW (wordsL L) p q (wordsL L).length ≤ M ↔ ∀ i r j, L[i]? = some r → r.p = p → j < r.n → dist (wordsL L) q ((wordsL (L.take i)).length + j) ≤ M := by
  rw [lateW_le]
  constructor
  · intro h i r j hr hp hj
    obtain ⟨h1, h2⟩ := run_get hr hj
    exact h _ h2 (by rw [h1, hp])
  · intro h t ht hp
    obtain ⟨i, r, j, hr, hj, rfl, e⟩ := get_run L t ht
    rw [e] at hp
    injection hp with hp
    exact h i r j hr hp hj
theorem late_mo {L : List Rn} {p q : Int} (h : ∀ r ∈ L, 1 ≤ r.n) (hq : hasL q (wordsL L) = true) (hne : p ≠ q) : lateW (wordsL L) p q (wordsL L).length = mo p (fun i n => wt q L i + n) L L.length := by
  refine nat_eq_of_le fun M => ?_
  rw [lateW_run, mo_le]
  constructor
  · intro H i r _ hr hp
    have h1 := h r (List.mem_of_getElem? hr)
    have k := H i r 0 hr hp (by omega)
    rw [dist_run hr hq (by omega), fi_rep_ne (by rw [hp]; exact hne), ← wt_fi h] at k
    omega
  · intro H i r j hr hp hj
    have k := H i r (List.getElem?_eq_some_iff.1 hr).1 hr hp
    rw [dist_run hr hq hj, fi_rep_ne (by rw [hp]; exact hne), ← wt_fi h]
    omega
theorem gap_mo {L : List Rn} {p : Int} (h : ∀ r ∈ L, 1 ≤ r.n) (hp : hasL p (wordsL L) = true) : lateW (wordsL L) p p (wordsL L).length = mo p (fun i _ => wt p L i) L L.length + 1 := by
  have h1 : 1 ≤ lateW (wordsL L) p p (wordsL L).length := by
    obtain ⟨t, ht, e⟩ := hasL_get hp
    have k := (lateW_le (W := wordsL L) (p := p) (q := p) (wordsL L).length).1 (Nat.le_refl _) t ht e
    have := (dist_dst hp t).1
    omega
  have key : lateW (wordsL L) p p (wordsL L).length - 1 = mo p (fun i _ => wt p L i) L L.length := by
    refine nat_eq_of_le fun M => ?_
    rw [show (lateW (wordsL L) p p (wordsL L).length - 1 ≤ M) ↔ lateW (wordsL L) p p (wordsL L).length ≤ M + 1 by omega, lateW_run, mo_le]
    constructor
    · intro H i r _ hr hrp
      have h1 := h r (List.mem_of_getElem? hr)
      have k := H i r (r.n - 1) hr hrp (by omega)
      rw [dist_run hr hp (by omega), show r.n - 1 - (r.n - 1) = 0 by omega, List.replicate_zero, List.nil_append, ← wt_fi h] at k
      omega
    · intro H i r j hr hrp hj
      have k := H i r (List.getElem?_eq_some_iff.1 hr).1 hr hrp
      rw [dist_run hr hp hj]
      by_cases hl : r.n - 1 - j = 0
      · rw [hl, List.replicate_zero, List.nil_append, ← wt_fi h]
        omega
      · rw [hrp, fi_rep_eq p _ _ (by omega)]
        omega
  omega
theorem has_tk {L : List Rn} {p : Int} : hasL p (wordsL L) = true ↔ 0 < tkOf p L := by rw [← cnt_has, cnt_words]
theorem has_tk0 {L : List Rn} {p : Int} : hasL p (wordsL L) = false ↔ tkOf p L = 0 := by
  have h := has_tk (L := L) (p := p)
  cases hh : hasL p (wordsL L) with
  | true =>
    rw [hh] at h
    have := h.1 rfl
    exact ⟨fun e => (by cases e), fun e => by omega⟩
  | false =>
    have h2 : ¬ 0 < tkOf p L := fun k => by
      have := h.2 k
      rw [hh] at this
      cases this
    exact ⟨fun _ => by omega, fun _ => rfl⟩
/-- Where the reckoning of a budget stands: the least so far, how many ticks the period still has, how many of them were p's. -/
structure BstB where
  a : Nat
  l : Nat
  m : Nat
def stp (p : Int) (P : Nat) (s : BstB) (x : Int) : BstB := if s.l = 1 then ⟨min s.a (s.m + if x = p then 1 else 0), P, 0⟩ else ⟨s.a, s.l - 1, s.m + if x = p then 1 else 0⟩
theorem stp_one {p x : Int} {P a m : Nat} : stp p P ⟨a, 1, m⟩ x = ⟨min a (m + if x = p then 1 else 0), P, 0⟩ := rfl
theorem stp_many {p x : Int} {P a l m : Nat} (h : ¬ l = 1) : stp p P ⟨a, l, m⟩ x = ⟨a, l - 1, m + if x = p then 1 else 0⟩ := if_neg h
def stpL (p : Int) (P : Nat) (s : BstB) (X : List Int) : BstB := X.foldl (stp p P) s
theorem stpL_append (p : Int) (P : Nat) (s : BstB) (X Y : List Int) : stpL p P s (X ++ Y) = stpL p P (stpL p P s X) Y := List.foldl_append
theorem stpL_lt {p : Int} {P : Nat} : ∀ (X : List Int) (a l m : Nat), X.length < l → stpL p P ⟨a, l, m⟩ X = ⟨a, l - X.length, m + cntF p X⟩ := by
  intro X
  induction X with
  | nil => intro a l m _; rfl
  | cons x X ih =>
    intro a l m h
    rw [List.length_cons] at h
    have e : stpL p P ⟨a, l, m⟩ (x :: X) = stpL p P (stp p P ⟨a, l, m⟩ x) X := rfl
    rw [e, stp_many (by omega), ih _ _ _ (by omega)]
    simp only [List.length_cons, cntF]
    congr 1 <;> omega
theorem stpL_eq {p : Int} {P : Nat} : ∀ (X : List Int) (a l m : Nat), X.length = l → 1 ≤ l → stpL p P ⟨a, l, m⟩ X = ⟨min a (m + cntF p X), P, 0⟩ := by
  intro X
  induction X with
  | nil => intro a l m h h1; simp at h; omega
  | cons x X ih =>
    intro a l m h h1
    rw [List.length_cons] at h
    have e : stpL p P ⟨a, l, m⟩ (x :: X) = stpL p P (stp p P ⟨a, l, m⟩ x) X := rfl
    rw [e]
    by_cases hl : l = 1
    · have hX : X = [] := List.length_eq_zero_iff.1 (by omega)
      subst hX
      subst hl
      rw [stp_one]
      rfl
    · rw [stp_many hl, ih _ _ _ (by omega) (by omega)]
      simp only [cntF]
      congr 2
      omega
/-- A run within the period. -/
theorem stp_part {p x : Int} {P a l m n : Nat} (h : n < l) : stpL p P ⟨a, l, m⟩ (List.replicate n x) = ⟨a, l - n, m + if x = p then n else 0⟩ := by
  rw [stpL_lt _ _ _ _ (by simpa using h), List.length_replicate, cnt_rep]
/-- A run that ends the period. -/
theorem stp_full {p x : Int} {P a l m n : Nat} (h : l ≤ n) (h1 : 1 ≤ l) : stpL p P ⟨a, l, m⟩ (List.replicate n x) = stpL p P ⟨min a (m + if x = p then l else 0), P, 0⟩ (List.replicate (n - l) x) := by
  obtain ⟨k, rfl⟩ : ∃ k, n = l + k := ⟨n - l, by omega⟩
  rw [← List.replicate_append_replicate, stpL_append, stpL_eq _ _ _ _ (by simp) h1, cnt_rep, Nat.add_sub_cancel_left]
/-- Whole periods within a run are all alike. -/
theorem stp_jump {p x : Int} {P : Nat} (hP : 1 ≤ P) (r : Nat) : ∀ (k a : Nat), stpL p P ⟨a, P, 0⟩ (List.replicate (P * (k + 1) + r) x) = stpL p P ⟨a, P, 0⟩ (List.replicate (P + r) x) := by
  intro k
  induction k with
  | zero => intro a; rw [Nat.zero_add, Nat.mul_one]
  | succ k ih =>
    intro a
    rw [stp_full (by rw [Nat.mul_add]; omega) hP, show P * (k + 1 + 1) + r - P = P * (k + 1) + r by rw [Nat.mul_add P (k + 1) 1]; omega, ih,
      stp_full (n := P + r) (a := a) (by omega) hP, stp_full (n := P + r) (by omega) hP]
    congr 2
    simp only [Nat.zero_add]
    omega
theorem stp_mod {p x : Int} {P a n : Nat} (hP : 1 ≤ P) (h : 1 < n / P) : stpL p P ⟨a, P, 0⟩ (List.replicate n x) = stpL p P ⟨a, P, 0⟩ (List.replicate (P + n % P) x) := by
  obtain ⟨k, hk⟩ : ∃ k, n / P = k + 1 := ⟨n / P - 1, by omega⟩
  have e := Nat.div_add_mod n P
  rw [hk] at e
  rw [← stp_jump hP (n % P) k a, e]
theorem stp_bud {p : Int} {P : Nat} {W : List Int} (hP : 1 ≤ P) : ∀ k, P * k ≤ W.length → stpL p P ⟨P, P, 0⟩ (W.take (P * k)) = ⟨min P (budW W p P k), P, 0⟩ := by
  intro k
  induction k with
  | zero =>
    intro _
    rw [Nat.mul_zero, List.take_zero]
    show (⟨P, P, 0⟩ : BstB) = _
    congr 1
    simp only [budW]
    omega
  | succ k ih =>
    intro h
    rw [Nat.mul_add, Nat.mul_one] at h ⊢
    rw [List.take_add, stpL_append, ih (by omega), stpL_eq _ _ _ _ (by rw [List.length_take, List.length_drop]; omega) hP]
    simp only [budW, Nat.zero_add, Nat.mul_comm k P]
    congr 1
    omega
theorem stp_all {p : Int} {P : Nat} {W : List Int} (hP : 1 ≤ P) (hW : 1 ≤ W.length) (hm : W.length % P = 0) : (stpL p P ⟨P, P, 0⟩ W).a = budW W p P (W.length / P) := by
  have e := Nat.div_add_mod W.length P
  rw [hm, Nat.add_zero] at e
  have h := stp_bud (p := p) (W := W) hP (W.length / P) (by omega)
  rw [e, List.take_length] at h
  rw [h]
  show min P (budW W p P (W.length / P)) = _
  have hd : W.length / P ≠ 0 := fun h0 => by
    rw [h0, Nat.mul_zero] at e
    omega
  obtain ⟨k, hk⟩ : ∃ k, W.length / P = k + 1 := Nat.exists_eq_succ_of_ne_zero hd
  rw [hk]
  simp only [budW]
  have h1 := cntF_le p ((W.drop (k * P)).take P)
  have h2 : ((W.drop (k * P)).take P).length ≤ P := by rw [List.length_take]; omega
  omega
/-- What holds of a reckoning under way. -/
def BOk (P : Nat) (s : BstB) : Prop := s.a ≤ P ∧ 1 ≤ s.l ∧ s.l ≤ P ∧ s.m + s.l ≤ P
theorem bok_step {p : Int} {P : Nat} {s : BstB} (hP : 1 ≤ P) (h : BOk P s) (x : Int) : BOk P (stp p P s x) := by
  obtain ⟨h1, h2, h3, h4⟩ := h
  unfold stp
  by_cases hl : s.l = 1
  · rw [if_pos hl]
    exact ⟨by show min _ _ ≤ P; omega, hP, Nat.le_refl _, by show 0 + P ≤ P; omega⟩
  · rw [if_neg hl]
    refine ⟨h1, by show 1 ≤ s.l - 1; omega, by show s.l - 1 ≤ P; omega, ?_⟩
    show s.m + _ + (s.l - 1) ≤ P
    split <;> omega
theorem bok_all {p : Int} {P : Nat} (hP : 1 ≤ P) : ∀ (X : List Int) (s : BstB), BOk P s → BOk P (stpL p P s X) := by
  intro X
  induction X with
  | nil => intro s h; exact h
  | cons x X ih => intro s h; exact ih _ (bok_step hP h x)
theorem bok_start {P : Nat} (hP : 1 ≤ P) : BOk P ⟨P, P, 0⟩ := ⟨Nat.le_refl _, hP, Nat.le_refl _, by show 0 + P ≤ P; omega⟩
end Go.Proofs.YtebcfiifaclniaaGreat

/- How long each run waits: bound's own loops. -/
namespace Go.Proofs.YtebcfiifaclniaaGreat
open Go.RowKit Tab
set_option linter.unusedSimpArgs false
set_option linter.unusedVariables false

theorem elJ : Elt 137 2 1 8 (.int .i64 0) := ⟨Tryz.underlying137, by kernel_rfl, rfl, by omega⟩
theorem run_makeJ (m : Nat) (hm : m ≤ 1048576) (W : World) : (Instr.makeSlice 137 (.int .i64 (m : Int)) (.int .i64 (m : Int))).run Tryz.prog W = .ok (.slice (some ⟨W.heap.size, 0, none⟩) m m) (W.alloc (.cells (madeCells #[.int .i64 0] m) 2)) := by
  obtain ⟨i, hi, hz, hs, hby⟩ := info_parts elJ.hi
  have hr := run_make (P := Tryz.prog) W 137 2 i _ elJ.ht hi hz .i64 .i64 m m (by omega) (by omega) (by rw [hby]; omega) (by omega)
  rw [hs] at hr
  simp only [Int.toNat_natCast, Nat.mul_one] at hr
  exact hr
theorem bmore_any (s n S N : Int) (w : World) (hs : 0 ≤ s) (hn : 0 ≤ n) (h : s + n ≤ 4611686018427387904) (hS : S = s) (hN : N = n) :
    Calls Tryz.prog 98 #[.int .i64 S, .int .i64 N] w fun e w' => e = .returned (.int .i64 (s + n)) ∧ w' = w := by
  subst hS; subst hN
  have h1 : ¬ 9223372036854775807 - N < S := by omega
  go_enter Tryz.func98, Tryz.ntmps98
  go_wp2
  go_ret
  exact ⟨rfl, rfl⟩
/-- What is carried into the pass. -/
def ccF (q : Int) (L : List Rn) : Nat → Nat
  | 0 => 0
  | k + 1 => wc q L (ccF q L k)
theorem ccF_le (q : Int) (L : List Rn) : ∀ k, ccF q L k ≤ k * ticks L := by
  intro k
  induction k with
  | zero => simp [ccF]
  | succ k ih =>
    have := wc_le q L (ccF q L k)
    simp only [ccF, Nat.succ_mul]
    omega
/-- It answers a row of numbers, new. -/
def MadJ (n : Nat) (f : Nat → Nat) (w : World) (e : Ending) (w' : World) : Prop :=
  ∃ g, e = .returned (.slice (some ⟨g, 0, none⟩) n n) ∧ Vec w' g n (fun j => .int .i64 (f j : Nat)) ∧ Below w.heap.size w w' ∧ w.heap.size ≤ g
set_option maxRecDepth 100000 in
set_option maxHeartbeats 1600000 in
theorem waits_any (A : Option Addr) (n cap : Nat) (L : List Rn) (q : Int) (w : World) (h : RdR w w.heap.size A n L) (hc : n ≤ cap) (hn : n ≤ 1048576) (ht : ticks L ≤ 1099511627776) :
    Calls Tryz.prog 100 #[.slice A n cap, .int .i64 q] w (MadJ n (wt q L) w) := by
  have hmk := run_makeJ n hn
  obtain ⟨B, hB⟩ : ∃ B, B = w.heap.size := ⟨_, rfl⟩
  have hb0 : Below B w (w.alloc (.cells (madeCells #[.int .i64 0] n) 2)) := by rw [hB]; exact bl1 w _
  have hV0 : Vec (w.alloc (.cells (madeCells #[.int .i64 0] n) 2)) w.heap.size n fun _ => .int .i64 0 := Vec.lit w _ _ n _ fun j hj => made_get _ n j hj
  have hBg : B ≤ w.heap.size := by omega
  rw [← hB] at h
  have hl := h.len
  have HL := Lib.hid hl
  have HB := Lib.hid hB
  have hcc := Lib.hid (ccF_le q L)
  clear hB hl
  go_enter Tryz.func100, Tryz.ntmps100
  go_wp2_with fail
  generalize w.alloc (.cells (madeCells #[.int .i64 0] n) 2) = W0 at hb0 hV0 ⊢
  generalize w.heap.size = g at hV0 hBg ⊢
  clear hmk
  go_loopw [6, 7, 11] (fun a _ s wr => ∃ (k : Nat) (f : Nat → Value), k ≤ 2 ∧ s = .int .i64 k ∧ a = .int .i64 (ccF q L k : Nat) ∧ Vec wr g n f ∧ (∀ m, k = m + 1 → ∀ i, i < n → f i = .int .i64 (wc q (L.drop (i + 1)) (ccF q L m) : Nat)) ∧ Below B w wr) (fun _ _ s _ => 2 - (intOf s).toNat)
  case atStart => exact ⟨0, _, by omega, rfl, rfl, hV0, fun m e => by omega, hb0⟩
  case round =>
    obtain ⟨k, f, hk, rfl, rfl, hV, hf, hb⟩ := hrel
    have HF := Lib.hid hf
    clear hf
    by_cases hlt : k < 2
    · have hck := hcc.out k
      have hck2 : ccF q L k ≤ 2 * ticks L := by
        have : k * ticks L ≤ 2 * ticks L := Nat.mul_le_mul_right _ (by omega)
        omega
      have HS : Hid (ccF q L (k + 1) = wc q L (ccF q L k)) := Lib.hid rfl
      have HE0 : Hid (wc q (L.drop n) (ccF q L k) = ccF q L k) := Lib.hid (by rw [List.drop_eq_nil_of_le (by rw [HL.out]; omega)]; rfl)
      clear hck
      generalize hC : ccF q L k = C at hck2 HS HE0 ⊢
      have HC := Lib.hid hC
      clear hC
      obtain ⟨W1, hW1⟩ : ∃ W1, W1 = wr := ⟨_, rfl⟩
      rw [← hW1] at hV hb ⊢
      clear hW1
      go_wp2_with fail
      generalize hx0 : (n : Int) - 1 = x0
      have HX0 := Lib.hid hx0
      clear hx0
      generalize decide ((k : Int) < 2) = b12
      go_loopw [6, 7] (fun a s wr => ∃ (j v : Nat) (x : Int) (f : Nat → Value), j ≤ n ∧ s = .int .i64 x ∧ x = (j : Int) - 1 ∧ a = .int .i64 (v : Int) ∧ wc q (L.drop j) C = v ∧ Vec wr g n f ∧ (∀ i, j ≤ i → i < n → f i = .int .i64 (wc q (L.drop (i + 1)) C : Nat)) ∧ Below B w wr) (fun _ s _ => (intOf s + 1).toNat)
      case atStart => exact ⟨n, C, x0, f, Nat.le_refl _, rfl, HX0.out.symm, rfl, HE0.out, hV, fun i h1 h2 => by omega, hb⟩
      case round =>
        clear hV hb
        obtain ⟨j, v, x, f2, hj, rfl, hx, rfl, hv, hV, hf, hb⟩ := hrel
        have HF2 := Lib.hid hf
        have HV := Lib.hid hv
        have hvle : v ≤ 3 * ticks L := by
          have h1 := wc_le q (L.drop j) C
          have h2 := ticks_drop_le L j
          omega
        clear hf hv
        by_cases h0 : j = 0
        · have hx2 : x = -1 := by omega
          clear hx
          subst hx2
          subst h0
          have hfin : ccF q L (k + 1) = v := by rw [HS.out]; exact HV.out
          have HFIN := Lib.hid hfin
          clear hfin
          go_wp2_with fail
          go_roundw
          case rel => exact ⟨k + 1, f2, by omega, by go_num, by rw [HFIN.out], hV, fun m e i hi => by
            have : m = k := by omega
            subst this
            have e3 := HF2.out i (Nat.zero_le _) hi
            rw [HC.out]; exact e3, hb⟩
          case measure => simp [intOf]; omega
        · obtain ⟨j, rfl⟩ : ∃ i, j = i + 1 := ⟨j - 1, by omega⟩
          have hx2 : x = (j : Int) := by omega
          clear hx h0
          subst hx2
          have hjn : j < n := by omega
          have hb3 := hb.setCell (p := ⟨g, j, none⟩) hBg (.int .i64 (v : Int))
          obtain ⟨ad, r, rfl, had, hr, c0, c1⟩ := (h.below hb3).at_ hjn
          have d0 := hV.cell j hjn
          have d1 := hV.thaw j
          have hV3 := hV.set j (.int .i64 (v : Int))
          have hat := wc_at (q := q) hr C
          rw [HV.out] at hat
          have hrt : r.n ≤ ticks L := mem_ticks (List.mem_of_getElem? hr)
          have HB3 := Lib.hid hb3
          have HV3 := Lib.hid hV3
          have HF3 : Hid (∀ i, j ≤ i → i < n → put1 f2 j (.int .i64 (v : Int)) i = .int .i64 (wc q (L.drop (i + 1)) C : Nat)) := Lib.hid fun i h1 h2 => by
            by_cases e : i = j
            · subst e; rw [put1_same, HV.out]
            · rw [put1_other e]; exact HF2.out i (by omega) h2
          clear hb3 hV3 hr hb
          by_cases hp : r.p = q
          · rw [if_pos hp] at hat
            have hpb : (r.p == q) = true := beq_iff_eq.2 hp
            have HAT := Lib.hid hat
            clear hp hat
            go_wp2_with fail
            refine (bmore_any (v : Int) (r.n : Int) _ _ _ (by omega) (by omega) (by omega) rfl rfl).mono ?_
            rintro e w1 ⟨rfl, rfl⟩
            go_wp2_with fail
            go_roundw
            case rel => exact ⟨j, 0, _, _, by omega, rfl, by go_num, rfl, HAT.out, HV3.out, HF3.out, HB3.out⟩
            case measure => simp [intOf]
          · rw [if_neg hp] at hat
            have hpb : (r.p == q) = false := beq_eq_false_iff_ne.2 hp
            have HAT := Lib.hid hat
            clear hp hat
            go_wp2_with fail
            refine (bmore_any (v : Int) (r.n : Int) _ _ _ (by omega) (by omega) (by omega) rfl rfl).mono ?_
            rintro e w1 ⟨rfl, rfl⟩
            go_wp2_with fail
            go_roundw
            case rel => exact ⟨j, v + r.n, _, _, by omega, rfl, by go_num, by go_num, HAT.out, HV3.out, HF3.out, HB3.out⟩
            case measure => simp [intOf]
    · obtain rfl : k = 2 := by omega
      have HFF := HF.out 1 rfl
      have e1 : ∀ i, i < n → f i = .int .i64 (wt q L i : Nat) := HFF
      have HV := Lib.hid (hV.congr e1)
      clear HFF e1 hV
      go_wp2_with fail
      go_ret
      exact ⟨g, rfl, HV.out, by rw [← HB.out]; exact hb, by rw [← HB.out]; exact hBg⟩
end Go.Proofs.YtebcfiifaclniaaGreat

/- How late, how long one waits: bound's own answers. -/
namespace Go.Proofs.YtebcfiifaclniaaGreat
open Go.RowKit Tab
set_option linter.unusedSimpArgs false
set_option linter.unusedVariables false

theorem tidy_ge (L : List Rn) : ∀ r ∈ tidy L, 1 ≤ r.n := (tidy_apart L).pos
theorem gapL_none {L : List Rn} {p : Int} (h : tkOf p L = 0) : gapL (wordsL L) p = -1 := by
  unfold gapL lateL
  rw [if_pos (has_tk0.2 h), if_pos (by omega)]
theorem lateL_none {L : List Rn} {p q : Int} (h : tkOf p L = 0) : lateL (wordsL L) p q = 0 := by
  unfold lateL
  rw [if_pos (has_tk0.2 h)]
theorem lateL_never {L : List Rn} {p q : Int} (h : tkOf p L ≠ 0) (h2 : tkOf q L = 0) : lateL (wordsL L) p q = -1 := by
  unfold lateL
  rw [if_neg (by rw [has_tk0]; exact h), if_pos (has_tk0.2 h2)]
theorem lateL_self {L : List Rn} {p : Int} (h : tkOf p L ≠ 0) : lateL (wordsL L) p p = (mo p (fun i _ => wt p (tidy L) i) (tidy L) (tidy L).length : Nat) + 1 := by
  have hp : hasL p (wordsL (tidy L)) = true := has_tk.2 (by rw [tkOf_tidy]; omega)
  unfold lateL
  rw [if_neg (by rw [has_tk0]; exact h), if_neg (by rw [has_tk0]; exact h), ← wordsL_tidy L, gap_mo (tidy_ge L) hp]
  rfl
theorem gapL_mo {L : List Rn} {p : Int} (h : tkOf p L ≠ 0) : gapL (wordsL L) p = (mo p (fun i _ => wt p (tidy L) i) (tidy L) (tidy L).length : Nat) := by
  unfold gapL
  rw [lateL_self h, if_neg (by omega)]
  omega
theorem lateL_mo {L : List Rn} {p q : Int} (h : tkOf p L ≠ 0) (h2 : tkOf q L ≠ 0) (hne : p ≠ q) : lateL (wordsL L) p q = (mo p (fun i n => wt q (tidy L) i + n) (tidy L) (tidy L).length : Nat) := by
  have hq : hasL q (wordsL (tidy L)) = true := has_tk.2 (by rw [tkOf_tidy]; omega)
  unfold lateL
  rw [if_neg (by rw [has_tk0]; exact h), if_neg (by rw [has_tk0]; exact h2), ← wordsL_tidy L, late_mo (tidy_ge L) hq hne]
set_option maxRecDepth 100000 in
set_option maxHeartbeats 1600000 in
theorem bgaps_any (A : Option Addr) (n cap : Nat) (L : List Rn) (p : Int) (w : World) (h : RdR w w.heap.size A n L) (hc : n ≤ cap) (hn : n ≤ 1048576) (ht : ticks L ≤ 1099511627776) :
    Calls Tryz.prog 99 #[.slice A n cap, .int .i64 p] w (Ans (.int .i64 (gapL (wordsL L) p)) w) := by
  have HT := Lib.hid (ticks_any A n cap L p w h hc hn ht)
  have HY := Lib.hid fun W (hb : Below w.heap.size w W) => tidy_any A n cap L W (h.on hb) hc hn ht
  have hle := tidy_le L
  rw [h.len] at hle
  have h1 := gapL_none (L := L) (p := p)
  have h2 := gapL_mo (L := L) (p := p)
  have htt := ticks_tidy L
  generalize gapL (wordsL L) p = R at h1 h2 ⊢
  generalize tkOf p L = tk at HT h1 h2
  generalize tidy L = T at HY hle h2 htt
  rw [← htt] at ht
  clear h htt
  by_cases h0 : tk = 0
  · have e := h1 h0
    subst e
    subst h0
    clear h1 h2 HY
    go_enter Tryz.func99, Tryz.ntmps99
    go_wp2_with fail
    refine HT.out.mono ?_
    rintro e w1 ⟨rfl, hb1⟩
    go_wp2_with fail
    go_ret
    exact Ans.mk rfl hb1
  · have HR := Lib.hid (h2 h0)
    have htk : ((tk : Int) == 0) = false := beq_eq_false_iff_ne.2 (by omega)
    clear h1 h2
    go_enter Tryz.func99, Tryz.ntmps99
    go_wp2_with fail
    refine HT.out.mono ?_
    rintro e w1 ⟨rfl, hb1⟩
    go_wp2_with fail
    refine (HY.out w1 hb1).mono ?_
    rintro e w2 ⟨A1, c1, rfl, hr1, hc1, hb2, _⟩
    generalize hm1 : T.length = m at hr1 hc1 hle HR
    go_wp2_with fail
    refine (waits_any A1 m c1 T p w2 hr1 hc1 (by omega) ht).mono ?_
    rintro e w3 ⟨g, rfl, hV, hb3, hg⟩
    have hr3 := hr1.on hb3
    have HB := Lib.hid (hb1.trans ((hb2.mono hb1.size).trans (hb3.mono (Nat.le_trans hb1.size hb2.size))))
    clear hr1 hb1 hb2 hb3 hg HT HY hm1
    go_wp2_with fail
    go_loopw [5, 6, 7, 18] (fun a _ _ s wr => ∃ i k : Nat, i ≤ m ∧ s = .int .i64 i ∧ a = .int .i64 k ∧ k = mo p (fun i _ => wt p T i) T i ∧ wr = w3) (fun _ _ _ s _ => m - (intOf s).toNat)
    case atStart => exact ⟨0, 0, by omega, rfl, rfl, rfl, rfl⟩
    case round =>
      obtain ⟨i, k, hi, rfl, rfl, hk, hw⟩ := hrel
      have hw' := hw.symm
      clear hw
      subst hw'
      by_cases hlt : i < m
      · obtain ⟨ad, r, rfl, had, hr, c0, c1⟩ := hr3.at_ hlt
        have d0 := hV.cell i hlt
        by_cases hp : r.p = p
        · have hmo := mo_yes (g := fun i _ => wt p T i) hr hp
          rw [← hk] at hmo
          have hpb : (r.p == p) = true := beq_iff_eq.2 hp
          have HMO := Lib.hid hmo
          have HHV := Lib.hid hV
          generalize wt p T i = x at d0 HMO
          clear hp hmo hk hr hV
          go_wp2_with fail
          go_roundw
          case rel => exact ⟨i + 1, max k x, by omega, by go_num, by congr 1; first | omega | (split <;> omega), HMO.out.symm, trivial⟩
          case measure => simp [intOf]; omega
        · have hmo := mo_no (g := fun i _ => wt p T i) hr hp
          rw [← hk] at hmo
          have hpb : (r.p == p) = false := beq_eq_false_iff_ne.2 hp
          have HMO := Lib.hid hmo
          have HHV := Lib.hid hV
          clear hp hmo hk hr hV
          go_wp2_with fail
          go_roundw
          case rel => exact ⟨i + 1, k, by omega, by go_num, rfl, HMO.out.symm, trivial⟩
          case measure => simp [intOf]; omega
      · obtain rfl : i = m := by omega
        have hR : R = (k : Int) := by rw [HR.out, hk]
        have HR2 := Lib.hid hR
        clear hR hk
        go_wp2_with fail
        go_ret
        exact Ans.mk (by rw [HR2.out]; rfl) HB.out
set_option maxRecDepth 100000 in
set_option maxHeartbeats 1600000 in
theorem blate_any (A : Option Addr) (n cap : Nat) (L : List Rn) (p q : Int) (w : World) (h : RdR w w.heap.size A n L) (hc : n ≤ cap) (hn : n ≤ 1048576) (ht : ticks L ≤ 1099511627776) :
    Calls Tryz.prog 84 #[.slice A n cap, .int .i64 p, .int .i64 q] w (Ans (.int .i64 (lateL (wordsL L) p q)) w) := by
  have HT := Lib.hid (ticks_any A n cap L p w h hc hn ht)
  have HT2 := Lib.hid fun W (hb : Below w.heap.size w W) => ticks_any A n cap L q W (h.on hb) hc hn ht
  have HG := Lib.hid fun W (hb : Below w.heap.size w W) => bgaps_any A n cap L q W (h.on hb) hc hn ht
  have HY := Lib.hid fun W (hb : Below w.heap.size w W) => tidy_any A n cap L W (h.on hb) hc hn ht
  have hle := tidy_le L
  rw [h.len] at hle
  have h1 := lateL_none (L := L) (p := p) (q := q)
  have h2 := lateL_never (L := L) (p := p) (q := q)
  have h3 := lateL_mo (L := L) (p := p) (q := q)
  have h4 : tkOf p L ≠ 0 → p = q → lateL (wordsL L) p q = gapL (wordsL L) q + 1 ∧ 0 ≤ gapL (wordsL L) q ∧ gapL (wordsL L) q ≤ 1099511627777 := by
    rintro e rfl
    rw [gapL_mo e, lateL_self e]
    refine ⟨rfl, by omega, ?_⟩
    have e2 := lateL_le (wordsL L) p p
    rw [lateL_self e, wordsL_len] at e2
    omega
  have htt := ticks_tidy L
  generalize gapL (wordsL L) q = G at HG h4
  generalize lateL (wordsL L) p q = R at h1 h2 h3 h4 ⊢
  have hpq : p = q → tkOf p L = tkOf q L := by rintro rfl; rfl
  generalize tkOf p L = tk at HT h1 h2 h3 h4 hpq
  generalize tkOf q L = tk2 at HT2 h2 h3 hpq
  generalize tidy L = T at HY hle h3 htt
  rw [← htt] at ht
  clear h htt
  by_cases h0 : tk = 0
  · have e := h1 h0
    subst e
    subst h0
    clear h1 h2 h3 h4 HY HT2 HG hpq
    go_enter Tryz.func84, Tryz.ntmps84
    go_wp2_with fail
    refine HT.out.mono ?_
    rintro e w1 ⟨rfl, hb1⟩
    go_wp2_with fail
    go_ret
    exact Ans.mk rfl hb1
  · have htk : ((tk : Int) == 0) = false := beq_eq_false_iff_ne.2 (by omega)
    by_cases h00 : tk2 = 0
    · have e := h2 h0 h00
      subst e
      subst h00
      clear h1 h2 h3 h4 HY HG hpq
      go_enter Tryz.func84, Tryz.ntmps84
      go_wp2_with fail
      refine HT.out.mono ?_
      rintro e w1 ⟨rfl, hb1⟩
      go_wp2_with fail
      refine (HT2.out w1 hb1).mono ?_
      rintro e w2 ⟨rfl, hb2⟩
      have HB := Lib.hid (hb1.trans (hb2.mono hb1.size))
      clear hb1 hb2
      go_wp2_with fail
      go_ret
      exact Ans.mk rfl HB.out
    · have htk2 : ((tk2 : Int) == 0) = false := beq_eq_false_iff_ne.2 (by omega)
      by_cases hpe : p = q
      · obtain ⟨e1, e2, e3⟩ := h4 h0 hpe
        subst hpe
        have HE := Lib.hid e1
        clear h1 h2 h3 h4 HY hpq e1
        go_enter Tryz.func84, Tryz.ntmps84
        go_wp2_with fail
        refine HT.out.mono ?_
        rintro e w1 ⟨rfl, hb1⟩
        go_wp2_with fail
        refine (HT2.out w1 hb1).mono ?_
        rintro e w2 ⟨rfl, hb2⟩
        have hb := hb1.trans (hb2.mono hb1.size)
        clear hb1 hb2
        go_wp2_with fail
        refine (HG.out w2 hb).mono ?_
        rintro e w3 ⟨rfl, hb3⟩
        have HB := Lib.hid (hb.trans (hb3.mono hb.size))
        clear hb hb3
        go_wp2_with fail
        refine (bmore_any G 1 _ _ _ (by omega) (by omega) (by omega) rfl rfl).mono ?_
        rintro e w4 ⟨rfl, rfl⟩
        go_wp2_with fail
        go_ret
        exact Ans.mk (by rw [HE.out]; rfl) HB.out
      · have HR := Lib.hid (h3 h0 h00 hpe)
        have hpb : (p == q) = false := beq_eq_false_iff_ne.2 hpe
        clear h1 h2 h3 h4 HG hpq hpe
        go_enter Tryz.func84, Tryz.ntmps84
        go_wp2_with fail
        refine HT.out.mono ?_
        rintro e w1 ⟨rfl, hb1⟩
        go_wp2_with fail
        refine (HT2.out w1 hb1).mono ?_
        rintro e w1' ⟨rfl, hb2⟩
        have hb := hb1.trans (hb2.mono hb1.size)
        clear hb1 hb2
        go_wp2_with fail
        refine (HY.out w1' hb).mono ?_
        rintro e w2 ⟨A1, c1, rfl, hr1, hc1, hb2, _⟩
        generalize hm1 : T.length = m at hr1 hc1 hle HR
        go_wp2_with fail
        refine (waits_any A1 m c1 T q w2 hr1 hc1 (by omega) ht).mono ?_
        rintro e w3 ⟨g, rfl, hV, hb3, hg⟩
        have hr3 := hr1.on hb3
        have HB := Lib.hid (hb.trans ((hb2.mono hb.size).trans (hb3.mono (Nat.le_trans hb.size hb2.size))))
        clear hr1 hb hb2 hb3 hg HT HT2 HY hm1
        go_wp2_with fail
        go_loopw [7, 8, 9, 31] (fun a _ _ s wr => ∃ i k : Nat, i ≤ m ∧ s = .int .i64 i ∧ a = .int .i64 k ∧ k = mo p (fun i n => wt q T i + n) T i ∧ wr = w3) (fun _ _ _ s _ => m - (intOf s).toNat)
        case atStart => exact ⟨0, 0, by omega, rfl, rfl, rfl, rfl⟩
        case round =>
          obtain ⟨i, k, hi, rfl, rfl, hk, hw⟩ := hrel
          have hw' := hw.symm
          clear hw
          subst hw'
          by_cases hlt : i < m
          · obtain ⟨ad, r, rfl, had, hr, c0, c1⟩ := hr3.at_ hlt
            have d0 := hV.cell i hlt
            have hx := wt_le q T i
            have hrt : r.n ≤ ticks T := mem_ticks (List.mem_of_getElem? hr)
            by_cases hp : r.p = p
            · have hmo := mo_yes (g := fun i n => wt q T i + n) hr hp
              rw [← hk] at hmo
              have hpb2 : (r.p == p) = true := beq_iff_eq.2 hp
              have HMO := Lib.hid hmo
              have HHV := Lib.hid hV
              generalize wt q T i = x at d0 HMO hx
              clear hp hmo hk hr hV
              go_wp2_with fail
              refine (bmore_any (x : Int) (r.n : Int) _ _ _ (by omega) (by omega) (by omega) rfl rfl).mono ?_
              rintro e w4 ⟨rfl, rfl⟩
              go_wp2_with fail
              go_roundw
              case rel => exact ⟨i + 1, max k (x + r.n), by omega, by go_num, by congr 1; first | omega | (split <;> omega), HMO.out.symm, trivial⟩
              case measure => simp [intOf]; omega
            · have hmo := mo_no (g := fun i n => wt q T i + n) hr hp
              rw [← hk] at hmo
              have hpb2 : (r.p == p) = false := beq_eq_false_iff_ne.2 hp
              have HMO := Lib.hid hmo
              have HHV := Lib.hid hV
              clear hp hmo hk hr hV
              go_wp2_with fail
              go_roundw
              case rel => exact ⟨i + 1, k, by omega, by go_num, rfl, HMO.out.symm, trivial⟩
              case measure => simp [intOf]; omega
          · obtain rfl : i = m := by omega
            have hR : R = (k : Int) := by rw [HR.out, hk]
            have HR2 := Lib.hid hR
            clear hR hk
            go_wp2_with fail
            go_ret
            exact Ans.mk (by rw [HR2.out]; rfl) HB.out
end Go.Proofs.YtebcfiifaclniaaGreat

/- How few ticks of one in each period: bound's own answers. -/
namespace Go.Proofs.YtebcfiifaclniaaGreat
open Go.RowKit Tab
set_option linter.unusedSimpArgs false
set_option linter.unusedVariables false

set_option maxRecDepth 100000 in
set_option maxHeartbeats 4000000 in
theorem fewest_any (A : Option Addr) (n cap : Nat) (L : List Rn) (p : Int) (P : Nat) (w : World) (h : RdR w w.heap.size A n L) (hc : n ≤ cap) (hn : n ≤ 1048576) (ht : ticks L ≤ 1099511627776) (hP : 1 ≤ P) (hP2 : P ≤ 1099511627776) :
    Calls Tryz.prog 86 #[.slice A n cap, .int .i64 p, .int .i64 (P : Int)] w (Ans (.int .i64 ((stpL p P ⟨P, P, 0⟩ (wordsL L)).a : Nat)) w) := by
  obtain ⟨R, hR⟩ : ∃ R, R = (stpL p P ⟨P, P, 0⟩ (wordsL L)).a := ⟨_, rfl⟩
  rw [← hR]
  have HR := Lib.hid hR
  have HOK := Lib.hid fun X => bok_all (p := p) hP X _ (bok_start hP)
  have HL := Lib.hid h.len
  clear hR
  have hPP : 0 < P := hP
  go_enter Tryz.func86, Tryz.ntmps86
  go_wp2_with fail
  go_loopw [7, 8, 9, 11, 12, 13, 18] (fun a l m _ _ _ s wr => ∃ i sa sl sm : Nat, i ≤ n ∧ s = .int .i64 i ∧ a = .int .i64 sa ∧ l = .int .i64 sl ∧ m = .int .i64 sm ∧ stpL p P ⟨P, P, 0⟩ (wordsL (L.take i)) = ⟨sa, sl, sm⟩ ∧ Below w.heap.size w wr) (fun _ _ _ _ _ _ s _ => n - (intOf s).toNat)
  case atStart => exact ⟨0, P, P, 0, by omega, rfl, rfl, rfl, rfl, rfl, Below.refl _ _⟩
  case round =>
    obtain ⟨i, sa, sl, sm, hi, rfl, rfl, rfl, rfl, hst, hb⟩ := hrel
    by_cases hlt : i < n
    · obtain ⟨ad, r, rfl, had, hr, c0, c1⟩ := (h.on hb).at_ hlt
      have hmore := wordsL_more hr
      obtain ⟨TG, hTG⟩ : ∃ TG, TG = stpL p P ⟨P, P, 0⟩ (wordsL (L.take (i + 1))) := ⟨_, rfl⟩
      have hgo : stpL p P ⟨sa, sl, sm⟩ (List.replicate r.n r.p) = TG := by rw [hTG, hmore, stpL_append, hst]
      obtain ⟨b1, b2, b3, b4⟩ := HOK.out (wordsL (L.take i))
      rw [hst] at b1 b2 b3 b4
      dsimp only at b1 b2 b3 b4
      have hrt : r.n ≤ ticks L := mem_ticks (List.mem_of_getElem? hr)
      obtain ⟨rp, rn⟩ := r
      dsimp only at c0 c1 hgo hrt
      have hbl := bl1 wr (.cells #[.int .i64 rp, .int .i64 (rn : Int)] 95)
      have hb1 := hb.trans (hbl.mono hb.size)
      have m0 : (wr.alloc (.cells #[.int .i64 rp, .int .i64 (rn : Int)] 95)).cell? ⟨wr.heap.size, 0, none⟩ = some (.int .i64 rp) := World.cell?_alloc_mark _ _ _ _ _
      have m1 : (wr.alloc (.cells #[.int .i64 rp, .int .i64 (rn : Int)] 95)).cell? ⟨wr.heap.size, 1, none⟩ = some (.int .i64 (rn : Int)) := World.cell?_alloc_mark _ _ _ _ _
      have HTG := Lib.hid hTG
      have HGO := Lib.hid hgo
      clear hTG hgo hst hmore hr hbl
      go_upto_region 5 with fail
      generalize wr.alloc (.cells #[.int .i64 rp, .int .i64 (rn : Int)] 95) = W1 at m0 m1 hb1 ⊢
      generalize wr.heap.size = gx at m0 m1 ⊢
      have HB1 := Lib.hid hb1
      clear hb1 hb c0 c1
      go_wp2_with fail
      clear m1
      go_loopw [7, 8, 9, 12, 13] (fun a l m nn _ wr => ∃ k sa sl sm : Nat, nn = .int .i64 k ∧ a = .int .i64 sa ∧ l = .int .i64 sl ∧ m = .int .i64 sm ∧ stpL p P ⟨sa, sl, sm⟩ (List.replicate k rp) = TG ∧ sa ≤ P ∧ 1 ≤ sl ∧ sl ≤ P ∧ sm + sl ≤ P ∧ k ≤ rn ∧ wr = W1) (fun _ _ _ nn _ _ => (intOf nn).toNat)
      case atStart => exact ⟨rn, sa, sl, sm, rfl, rfl, rfl, rfl, HGO.out, b1, b2, b3, b4, Nat.le_refl _, rfl⟩
      case round =>
        clear HGO b1 b2 b3 b4
        obtain ⟨k, sa, sl, sm, rfl, rfl, rfl, rfl, hgo, b1, b2, b3, b4, hkr, hw⟩ := hrel
        have hw' := hw.symm
        clear hw
        subst hw'
        by_cases hk0 : k = 0
        · subst hk0
          have hfin : TG = ⟨sa, sl, sm⟩ := hgo.symm
          have HFIN := Lib.hid hfin
          clear hfin hgo
          go_wp2_with fail
          go_roundw
          case rel => exact ⟨i + 1, sa, sl, sm, by omega, by go_num, rfl, rfl, rfl, by rw [← HTG.out, HFIN.out], HB1.out⟩
          case measure => simp [intOf]; omega
        · have hk1 : 0 < k := by omega
          clear hk0
          by_cases hks : k < sl
          · obtain ⟨l2, hl2⟩ : ∃ l2, l2 = sl - k := ⟨_, rfl⟩
            have hl0 : 0 < l2 := by omega
            have hmin : min (k : Int) (sl : Int) = (k : Int) := by omega
            have hmin2 : (if (sl : Int) < (k : Int) then (sl : Int) else (k : Int)) = (k : Int) := by rw [if_neg (by omega)]
            have hls : (sl : Int) - (k : Int) = (l2 : Int) := by omega
            have hgo2 := (stp_part (p := p) (x := rp) (P := P) (a := sa) (m := sm) hks).symm.trans hgo
            rw [← hl2] at hgo2
            have HL2 := Lib.hid hl2
            clear hl2 hgo
            by_cases hp : rp = p
            · rw [if_pos hp] at hgo2
              have hpb : (rp == p) = true := beq_iff_eq.2 hp
              have HGO2 := Lib.hid hgo2
              clear hgo2 hp
              go_wp2_with fail
              go_roundw
              case rel => exact ⟨0, sa, l2, sm + k, by go_num, rfl, by go_num, by go_num, HGO2.out, b1, hl0, by have := HL2.out; omega, by have := HL2.out; omega, by omega, trivial⟩
              case measure => simp [intOf]; omega
            · rw [if_neg hp] at hgo2
              have hpb : (rp == p) = false := beq_eq_false_iff_ne.2 hp
              have HGO2 := Lib.hid hgo2
              clear hgo2 hp
              go_wp2_with fail
              go_roundw
              case rel => exact ⟨0, sa, l2, sm, by go_num, rfl, by go_num, by go_num, HGO2.out, b1, hl0, by have := HL2.out; omega, by have := HL2.out; omega, by omega, trivial⟩
              case measure => simp [intOf]; omega
          · obtain ⟨k2, hk2⟩ : ∃ k2, k2 = k - sl := ⟨_, rfl⟩
            have hmin : min (k : Int) (sl : Int) = (sl : Int) := by omega
            have hmin2 : (if sl < k then (sl : Int) else (k : Int)) = (sl : Int) := by split <;> omega
            have hks2 : (k : Int) - (sl : Int) = (k2 : Int) := by omega
            have hgo2 := (stp_full (p := p) (x := rp) (P := P) (a := sa) (m := sm) (show sl ≤ k by omega) b2).symm.trans hgo
            rw [← hk2] at hgo2
            have HK2 := Lib.hid hk2
            clear hk2 hgo
            by_cases hp : rp = p
            · rw [if_pos hp] at hgo2
              have hpb : (rp == p) = true := beq_iff_eq.2 hp
              have hmine : (sm : Int) + (sl : Int) = ((sm + sl : Nat) : Int) := by omega
              have hmn2 : sm + sl ≤ P := b4
              clear hp
              have hsmb : sm + sl ≤ P := b4
              obtain ⟨mm, hmm⟩ : ∃ mm, mm = sm + sl := ⟨_, rfl⟩
              rw [← hmm] at hgo2 hmine
              have hmmP : mm ≤ P := by omega
              have HMM := Lib.hid hmm
              clear hmm
              have hmina : min (sa : Int) (mm : Int) = ((min sa mm : Nat) : Int) := by omega
              have hmina2 : (if mm < sa then (mm : Int) else (sa : Int)) = ((min sa mm : Nat) : Int) := by split <;> omega
              obtain ⟨a2, ha2⟩ : ∃ a2, a2 = min sa mm := ⟨_, rfl⟩
              rw [← ha2] at hgo2 hmina hmina2
              have ha2P : a2 ≤ P := by omega
              have HA2 := Lib.hid ha2
              clear ha2
              obtain ⟨qq, hqq⟩ : ∃ qq, qq = k2 / P := ⟨_, rfl⟩
              have hquo : (k2 : Int) / (P : Int) = (qq : Int) := by rw [hqq, Int.natCast_ediv]
              have htq : (k2 : Int).tdiv (P : Int) = (qq : Int) := by rw [Int.tdiv_eq_ediv_of_nonneg (Int.natCast_nonneg _)]; exact hquo
              have hqb : qq ≤ 1099511627776 := by
                have h1 : k2 / P ≤ k2 := Nat.div_le_self _ _
                have h2 := HK2.out
                omega
              have hwq : IntKind.i64.wrap (qq : Int) = (qq : Int) := IntWalk.i64_in _ (by omega)
              by_cases hq : 1 < k2 / P
              · have hgo3 := (stp_mod (p := p) (x := rp) (P := P) (a := a2) (n := k2) hP hq).symm.trans hgo2
                obtain ⟨rr, hrr⟩ : ∃ rr, rr = k2 % P := ⟨_, rfl⟩
                rw [← hrr] at hgo3
                have hq1 : 1 < qq := by omega
                have hmod : (k2 : Int) % (P : Int) = (rr : Int) := by rw [hrr, Int.natCast_emod]
                have htmod : (k2 : Int).tmod (P : Int) = (rr : Int) := by rw [Int.tmod_eq_emod_of_nonneg (Int.natCast_nonneg _)]; exact hmod
                have hrl : rr < P := by rw [hrr]; exact Nat.mod_lt _ hP
                have hdm := Nat.div_add_mod k2 P
                have hPk : P + rr ≤ k2 := by
                  have : P * 2 ≤ P * (k2 / P) := Nat.mul_le_mul_left _ hq
                  omega
                have HGO3 := Lib.hid hgo3
                have HPK := Lib.hid hPk
                clear hgo2 hgo3 hrr hdm hq hPk hqq
                go_wp2_with fail
                go_roundw
                case rel => exact ⟨P + rr, a2, P, 0, by go_num, by go_num, rfl, rfl, HGO3.out, ha2P, hP, Nat.le_refl _, by omega, by have := HPK.out; have := HK2.out; omega, trivial⟩
                case measure => simp [intOf]; have := HPK.out; have := HK2.out; omega
              · have hq1 : ¬ 1 < qq := by omega
                clear hqq
                have HGO2 := Lib.hid hgo2
                clear hgo2 hq
                go_wp2_with fail
                go_roundw
                case rel => exact ⟨k2, a2, P, 0, by go_num, by go_num, rfl, rfl, HGO2.out, ha2P, hP, Nat.le_refl _, by omega, by have := HK2.out; omega, trivial⟩
                case measure => simp [intOf]; have := HK2.out; omega
            · rw [if_neg hp] at hgo2
              have hpb : (rp == p) = false := beq_eq_false_iff_ne.2 hp
              obtain ⟨mm, hmm⟩ : ∃ mm, mm = sm := ⟨_, rfl⟩
              rw [Nat.add_zero, ← hmm] at hgo2
              subst hmm
              have hmmP : mm ≤ P := by omega
              clear hp
              have hmina : min (sa : Int) (mm : Int) = ((min sa mm : Nat) : Int) := by omega
              have hmina2 : (if mm < sa then (mm : Int) else (sa : Int)) = ((min sa mm : Nat) : Int) := by split <;> omega
              obtain ⟨a2, ha2⟩ : ∃ a2, a2 = min sa mm := ⟨_, rfl⟩
              rw [← ha2] at hgo2 hmina hmina2
              have ha2P : a2 ≤ P := by omega
              have HA2 := Lib.hid ha2
              clear ha2
              obtain ⟨qq, hqq⟩ : ∃ qq, qq = k2 / P := ⟨_, rfl⟩
              have hquo : (k2 : Int) / (P : Int) = (qq : Int) := by rw [hqq, Int.natCast_ediv]
              have htq : (k2 : Int).tdiv (P : Int) = (qq : Int) := by rw [Int.tdiv_eq_ediv_of_nonneg (Int.natCast_nonneg _)]; exact hquo
              have hqb : qq ≤ 1099511627776 := by
                have h1 : k2 / P ≤ k2 := Nat.div_le_self _ _
                have h2 := HK2.out
                omega
              have hwq : IntKind.i64.wrap (qq : Int) = (qq : Int) := IntWalk.i64_in _ (by omega)
              by_cases hq : 1 < k2 / P
              · have hgo3 := (stp_mod (p := p) (x := rp) (P := P) (a := a2) (n := k2) hP hq).symm.trans hgo2
                obtain ⟨rr, hrr⟩ : ∃ rr, rr = k2 % P := ⟨_, rfl⟩
                rw [← hrr] at hgo3
                have hq1 : 1 < qq := by omega
                have hmod : (k2 : Int) % (P : Int) = (rr : Int) := by rw [hrr, Int.natCast_emod]
                have htmod : (k2 : Int).tmod (P : Int) = (rr : Int) := by rw [Int.tmod_eq_emod_of_nonneg (Int.natCast_nonneg _)]; exact hmod
                have hrl : rr < P := by rw [hrr]; exact Nat.mod_lt _ hP
                have hdm := Nat.div_add_mod k2 P
                have hPk : P + rr ≤ k2 := by
                  have : P * 2 ≤ P * (k2 / P) := Nat.mul_le_mul_left _ hq
                  omega
                have HGO3 := Lib.hid hgo3
                have HPK := Lib.hid hPk
                clear hgo2 hgo3 hrr hdm hq hPk hqq
                go_wp2_with fail
                go_roundw
                case rel => exact ⟨P + rr, a2, P, 0, by go_num, by go_num, rfl, rfl, HGO3.out, ha2P, hP, Nat.le_refl _, by omega, by have := HPK.out; have := HK2.out; omega, trivial⟩
                case measure => simp [intOf]; have := HPK.out; have := HK2.out; omega
              · have hq1 : ¬ 1 < qq := by omega
                clear hqq
                have HGO2 := Lib.hid hgo2
                clear hgo2 hq
                go_wp2_with fail
                go_roundw
                case rel => exact ⟨k2, a2, P, 0, by go_num, by go_num, rfl, rfl, HGO2.out, ha2P, hP, Nat.le_refl _, by omega, by have := HK2.out; omega, trivial⟩
                case measure => simp [intOf]; have := HK2.out; omega
    · have hge : n ≤ i := by omega
      have e : L.take i = L := List.take_of_length_le (by rw [HL.out]; exact hge)
      rw [e] at hst
      have hRs : R = sa := by rw [HR.out, hst]
      subst hRs
      clear hst e HR
      go_wp2_with fail
      go_ret
      exact Ans.mk rfl hb
set_option maxRecDepth 100000 in
set_option maxHeartbeats 1600000 in
theorem bbudget_any (A : Option Addr) (n cap : Nat) (L : List Rn) (p z : Int) (w : World) (h : RdR w w.heap.size A n L) (hc : n ≤ cap) (hn : n ≤ 1048576) (ht : ticks L ≤ 1099511627776) (hz : In64 z) :
    Calls Tryz.prog 73 #[.slice A n cap, .int .i64 p, .int .i64 z] w (Ans (.int .i64 (budL (wordsL L) p z)) w) := by
  have HT := Lib.hid (length_any A n cap L w h hc hn ht)
  obtain ⟨R, hR⟩ : ∃ R, R = budL (wordsL L) p z := ⟨_, rfl⟩
  rw [← hR]
  have hlen := wordsL_len L
  by_cases h0 : ticks L = 0
  · have e : R = -1 := by
      rw [hR]
      unfold budL
      rw [hlen]
      by_cases hz1 : z < 1
      · rw [if_pos hz1]
      · rw [if_neg hz1, if_pos h0]
    subst e
    rw [h0] at HT
    clear hR hlen h0
    go_enter Tryz.func73, Tryz.ntmps73
    go_wp2_with fail
    refine HT.out.mono ?_
    rintro e w1 ⟨rfl, hb1⟩
    go_wp2_with fail
    go_ret
    exact Ans.mk rfl hb1
  · by_cases hz1 : z < 1
    · have e : R = -1 := by rw [hR]; unfold budL; rw [if_pos hz1]
      subst e
      have hzd : decide (z < 1) = true := decide_eq_true hz1
      generalize ticks L = T at HT ht h0
      have htd : decide ((T : Int) < 1) = false := decide_eq_false (by omega)
      have hT0 : 0 < T := by omega
      clear hR hlen h0
      go_enter Tryz.func73, Tryz.ntmps73
      go_wp2_with fail
      refine HT.out.mono ?_
      rintro e w1 ⟨rfl, hb1⟩
      go_wp2_with fail
      go_ret
      exact Ans.mk rfl hb1
    · obtain ⟨P, rfl⟩ : ∃ P : Nat, z = (P : Int) := ⟨z.toNat, by omega⟩
      have hP : 1 ≤ P := by omega
      have hzd : decide ((P : Int) < 1) = false := decide_eq_false hz1
      have hzn : ¬ P = 0 := by omega
      by_cases hm : ticks L % P = 0
      · have hPT : P ≤ ticks L := Nat.le_of_dvd (by omega) (Nat.dvd_of_mod_eq_zero hm)
        have e : R = ((stpL p P ⟨P, P, 0⟩ (wordsL L)).a : Int) := by
          rw [hR]
          unfold budL
          rw [hlen, if_neg (by omega), if_neg h0, Int.toNat_natCast, if_neg (by omega), stp_all hP (by rw [hlen]; omega) (by rw [hlen]; exact hm), hlen]
        rw [e]
        have HF := Lib.hid fun W (hb : Below w.heap.size w W) => fewest_any A n cap L p P W (h.on hb) hc hn ht hP (by omega)
        generalize (stpL p P ⟨P, P, 0⟩ (wordsL L)).a = v at HF ⊢
        have hmi : ((ticks L : Nat) : Int).tmod (P : Int) = 0 := by rw [Int.tmod_eq_emod_of_nonneg (Int.natCast_nonneg _), ← Int.natCast_emod, hm]; rfl
        have hmb : (((ticks L : Nat) : Int).tmod (P : Int) != 0) = false := by rw [hmi]; rfl
        generalize ticks L = T at HT ht h0 hmi hmb
        have htd : decide ((T : Int) < 1) = false := decide_eq_false (by omega)
        have hT0 : 0 < T := by omega
        clear hR hlen h0 e hm hPT
        go_enter Tryz.func73, Tryz.ntmps73
        go_wp2_with fail
        refine HT.out.mono ?_
        rintro e w1 ⟨rfl, hb1⟩
        go_wp2_with fail
        refine (HF.out w1 hb1).mono ?_
        rintro e w2 ⟨rfl, hb2⟩
        have HB := Lib.hid (hb1.trans (hb2.mono hb1.size))
        clear hb1 hb2
        go_wp2_with fail
        go_ret
        exact Ans.mk rfl HB.out
      · have e : R = -1 := by
          rw [hR]
          unfold budL
          rw [hlen, if_neg (by omega), if_neg h0, Int.toNat_natCast, if_pos hm]
        subst e
        have hmi : ¬ ((ticks L : Nat) : Int).tmod (P : Int) = 0 := by rw [Int.tmod_eq_emod_of_nonneg (Int.natCast_nonneg _), ← Int.natCast_emod]; omega
        have hmb : (((ticks L : Nat) : Int).tmod (P : Int) != 0) = true := bne_iff_ne.2 hmi
        have hme : ¬ ((ticks L : Nat) : Int) % (P : Int) = 0 := by rw [← Int.natCast_emod]; omega
        have hmc : (((ticks L : Nat) : Int) % (P : Int) != 0) = true := bne_iff_ne.2 hme
        generalize ticks L = T at HT ht h0 hmi hmb hme hmc
        have htd : decide ((T : Int) < 1) = false := decide_eq_false (by omega)
        have hT0 : 0 < T := by omega
        clear hR hlen h0 hm
        go_enter Tryz.func73, Tryz.ntmps73
        go_wp2_with fail
        refine HT.out.mono ?_
        rintro e w1 ⟨rfl, hb1⟩
        go_wp2_with fail
        go_ret
        exact Ans.mk rfl hb1
end Go.Proofs.YtebcfiifaclniaaGreat

/- Law 9's same, over what package bound is to answer. -/
namespace Go.Proofs.YtebcfiifaclniaaGreat
open Go.RowKit Tab
set_option linter.unusedSimpArgs false
set_option linter.unusedVariables false

/-- What package bound is to answer. -/
structure BoundW : Prop where
  late : ∀ (A : Option Addr) (n c : Nat) (L : List Rn) (p q : Int) (w : World), RdR w w.heap.size A n L → n ≤ c → n ≤ 1048576 → ticks L ≤ 8192 → Calls Tryz.prog 84 #[.slice A n c, .int .i64 p, .int .i64 q] w (Ans (.int .i64 (lateL (wordsL L) p q)) w)
  budget : ∀ (A : Option Addr) (n c : Nat) (L : List Rn) (p z : Int) (w : World), RdR w w.heap.size A n L → n ≤ c → n ≤ 1048576 → ticks L ≤ 8192 → In64 z → Calls Tryz.prog 73 #[.slice A n c, .int .i64 p, .int .i64 z] w (Ans (.int .i64 (budL (wordsL L) p z)) w)
  gaps : ∀ (A : Option Addr) (n c : Nat) (L : List Rn) (p : Int) (w : World), RdR w w.heap.size A n L → n ≤ c → n ≤ 1048576 → ticks L ≤ 8192 → Calls Tryz.prog 99 #[.slice A n c, .int .i64 p] w (Ans (.int .i64 (gapL (wordsL L) p)) w)
  holds : ∀ (A1 A2 A3 A4 : Option Addr) (n1 n2 n3 n4 c1 c2 c3 c4 : Nat) (P : List PtV) (C : List ChV) (L : List Rn) (w : World), RdB pcl w w.heap.size A1 n1 P → RdB cc w w.heap.size A2 n2 C → RdR w w.heap.size A4 n4 L →
    n1 ≤ 1048576 → n2 ≤ 1048576 → n4 ≤ c4 → n4 ≤ 1048576 → ticks L ≤ 8192 → (∀ x ∈ P, In64 x.per) → Calls Tryz.prog 61 #[.agg #[.slice A1 n1 c1, .slice A2 n2 c2, .slice A3 n3 c3], .slice A4 n4 c4] w (Ans (.int .i64 (holdsF (wordsL L) P C)) w)
end Go.Proofs.YtebcfiifaclniaaGreat

/- What package bound answers. -/
namespace Go.Proofs.YtebcfiifaclniaaGreat
open Go.RowKit Tab
set_option linter.unusedSimpArgs false
set_option linter.unusedVariables false

theorem lateL_ge (W : List Int) (p q : Int) : -1 ≤ lateL W p q := by
  unfold lateL
  split
  · omega
  · split <;> omega
set_option maxRecDepth 100000 in
set_option maxHeartbeats 1600000 in
theorem blt_any (A : Option Addr) (n c : Nat) (L : List Rn) (xf xt : Int) (xq : Bool) (xc xm xl : Int) (w : World) (h : RdR w w.heap.size A n L) (hc : n ≤ c) (hn : n ≤ 1048576) (ht : ticks L ≤ 1099511627776) :
    Calls Tryz.prog 72 #[.slice A n c, .agg #[.int .i64 xf, .int .i64 xt, .bool xq, .int .i64 xc, .int .u32 xm, .int .i64 xl]] w (Ans (.bool (decide (lateL (wordsL L) xf xt < 0) || decide (xl < lateL (wordsL L) xf xt))) w) := by
  have hbx := bl1 w (.cells #[.int .i64 xf, .int .i64 xt, .bool xq, .int .i64 xc, .int .u32 xm, .int .i64 xl] 47)
  have HLT := Lib.hid (blate_any A n c L xf xt _ (h.on hbx) hc hn ht)
  have hge := lateL_ge (wordsL L) xf xt
  have HB1 := Lib.hid hbx
  generalize lateL (wordsL L) xf xt = z at HLT hge ⊢
  clear hbx h
  go_enter Tryz.func72, Tryz.ntmps72
  go_wp2_with fail
  refine HLT.out.mono ?_
  rintro e w5 ⟨rfl, hb5⟩
  have e5 : w5.cell? ⟨w.heap.size, 5, none⟩ = some (.int .i64 xl) := (hb5.cell (p := ⟨w.heap.size, 5, none⟩) (by simp)).trans (World.cell?_alloc_mark _ _ _ _ _)
  have HB5 := Lib.hid (HB1.out.trans (hb5.mono HB1.out.size))
  generalize w.heap.size = gx at e5 ⊢
  clear hb5 HLT HB1
  by_cases t2 : z = -1
  · subst t2
    go_wp2_with fail
    go_ret
    exact Ans.mk rfl HB5.out
  · have u2 : (z == -1) = false := beq_eq_false_iff_ne.2 t2
    have u4 : decide (z < 0) = false := decide_eq_false (by omega)
    have HU4 := Lib.hid u4
    obtain ⟨bb, hbb⟩ : ∃ bb, bb = decide (xl < z) := ⟨_, rfl⟩
    have HBB := Lib.hid hbb
    clear hbb
    cases bb with
    | true =>
      have u3 : decide (xl < z) = true := HBB.out.symm
      go_wp2_with fail
      go_ret
      exact Ans.mk (by rw [HU4.out, Bool.false_or, ← HBB.out]; rfl) HB5.out
    | false =>
      have u3 : decide (xl < z) = false := HBB.out.symm
      go_wp2_with fail
      go_ret
      exact Ans.mk (by rw [HU4.out, Bool.false_or, ← HBB.out]; rfl) HB5.out
set_option maxRecDepth 100000 in
set_option maxHeartbeats 4000000 in
theorem bholds_any (A1 A2 A3 A4 : Option Addr) (n1 n2 n3 n4 c1 c2 c3 c4 : Nat) (P : List PtV) (C : List ChV) (L : List Rn) (w : World) (hP : RdB pcl w w.heap.size A1 n1 P) (hC : RdB cc w w.heap.size A2 n2 C) (hL : RdR w w.heap.size A4 n4 L)
    (q1 : n1 ≤ 1048576) (q2 : n2 ≤ 1048576) (q4 : n4 ≤ c4) (q5 : n4 ≤ 1048576) (ht : ticks L ≤ 1099511627776) (hz : ∀ x ∈ P, In64 x.per) :
    Calls Tryz.prog 61 #[.agg #[.slice A1 n1 c1, .slice A2 n2 c2, .slice A3 n3 c3], .slice A4 n4 c4] w (Ans (.int .i64 (holdsF (wordsL L) P C)) w) := by
  have hb0 := bl1 w (.cells #[.slice A1 n1 c1, .slice A2 n2 c2, .slice A3 n3 c3] 27)
  have hP0 := hP.on hb0
  have hC0 := hC.on hb0
  have hL0 := hL.on hb0
  have m0 : (w.alloc (.cells #[.slice A1 n1 c1, .slice A2 n2 c2, .slice A3 n3 c3] 27)).cell? ⟨w.heap.size, 0, none⟩ = some (.slice A1 n1 c1) := World.cell?_alloc_mark _ _ _ _ _
  have hgs : w.heap.size < (w.alloc (.cells #[.slice A1 n1 c1, .slice A2 n2 c2, .slice A3 n3 c3] 27)).heap.size := by simp
  have HZ := Lib.hid hz
  obtain ⟨R, hR⟩ : ∃ R, R = holdsF (wordsL L) P C := ⟨_, rfl⟩
  rw [← hR]
  obtain ⟨X, hX⟩ : ∃ X, X = wordsL L := ⟨_, rfl⟩
  rw [← hX] at hR
  have HR := Lib.hid hR
  have HX := Lib.hid hX
  have hPl := hP.len
  have hCl := hC.len
  have HPL := Lib.hid hPl
  have HCL := Lib.hid hCl
  clear hP hC hL hz hR hX hPl hCl
  go_enter Tryz.func61, Tryz.ntmps61
  go_wp2_with fail
  generalize w.alloc (.cells #[.slice A1 n1 c1, .slice A2 n2 c2, .slice A3 n3 c3] 27) = W at hb0 hP0 hC0 hL0 m0 hgs ⊢
  obtain ⟨g, hg⟩ : ∃ g, g = w.heap.size := ⟨_, rfl⟩
  rw [← hg] at m0 hgs ⊢
  have HG := Lib.hid hg
  have HM0 := Lib.hid m0
  clear hg m0
  go_loopw [6, 12] (fun _ s wr => ∃ i : Nat, i ≤ n2 ∧ s = .int .i64 i ∧ (C.take i).any (chLate X) = false ∧ Below W.heap.size W wr) (fun _ s _ => n2 - (intOf s).toNat)
  case atStart => exact ⟨0, by omega, rfl, rfl, Below.refl _ _⟩
  case round =>
    obtain ⟨i, hi, rfl, hany, hb⟩ := hrel
    have HANY := Lib.hid hany
    clear hany
    by_cases hlt : i < n2
    · obtain ⟨ad, x, rfl, had, hx, c0, ck⟩ := (hC0.on hb).at_ cc_len (by omega) hlt
      have d0 := c0 _ rfl
      have d1 := ck 1 _ (by omega) rfl
      have d2 := ck 2 _ (by omega) rfl
      have d3 := ck 3 _ (by omega) rfl
      have d4 := ck 4 _ (by omega) rfl
      have d5 := ck 5 _ (by omega) rfl
      have HMORE := Lib.hid (any_more (chLate X) hx)
      have HMEM := Lib.hid (any_mem (chLate X) hx)
      obtain ⟨xf, xt, xq, xc, xm, xl⟩ := x
      dsimp only at d0 d1 d2 d3 d4 d5
      have hbx := bl1 wr (.cells #[.int .i64 xf, .int .i64 xt, .bool xq, .int .i64 xc, .int .u32 xm, .int .i64 xl] 47)
      have hb1 := hb.trans (hbx.mono hb.size)
      have HLT := Lib.hid (blt_any A4 n4 c4 L xf xt xq xc xm xl _ (hL0.on hb1) q4 q5 ht)
      have HB1 := Lib.hid hb1
      clear c0 ck hx hbx hb1
      rw [← HX.out] at HLT
      have hcl : chLate X ⟨xf, xt, xq, xc, xm, xl⟩ = (decide (0 < xl) && (decide (lateL X xf xt < 0) || decide (xl < lateL X xf xt))) := rfl
      generalize (decide (lateL X xf xt < 0) || decide (xl < lateL X xf xt)) = z at hcl HLT
      have HCL2 := Lib.hid hcl
      clear hcl
      by_cases t1 : 0 < xl
      · have u1 : decide (0 < xl) = true := decide_eq_true t1
        go_wp2_with fail
        refine HLT.out.mono ?_
        rintro e w5 ⟨rfl, hb5⟩
        have HB5 := Lib.hid (HB1.out.trans (hb5.mono HB1.out.size))
        clear hb5 HLT HB1 d0 d1 d2 d3 d4 d5
        cases z with
        | true =>
          have hres : R = 19 := by
            rw [HR.out]
            exact holdsF_late (HMEM.out (by rw [HCL2.out, u1]; rfl))
          subst hres
          go_wp2_with fail
          go_ret
          exact Ans.mk rfl (hb0.trans (HB5.out.mono hb0.size))
        | false =>
          have HN : Hid ((C.take (i + 1)).any (chLate X) = false) := Lib.hid (by rw [HMORE.out, HANY.out, HCL2.out, u1]; rfl)
          go_wp2_with fail
          go_roundw
          case rel => exact ⟨i + 1, by omega, by go_num, HN.out, HB5.out⟩
          case measure => simp [intOf]; omega
      · have u1 : decide (0 < xl) = false := decide_eq_false t1
        have HN : Hid ((C.take (i + 1)).any (chLate X) = false) := Lib.hid (by rw [HMORE.out, HANY.out, HCL2.out, u1]; rfl)
        clear HLT
        go_wp2_with fail
        go_roundw
        case rel => exact ⟨i + 1, by omega, by go_num, HN.out, HB1.out⟩
        case measure => simp [intOf]; omega
    · have hge : n2 ≤ i := by omega
      have HALL : Hid (C.any (chLate X) = false) := Lib.hid (by
        have h := HANY.out
        rw [List.take_of_length_le (by rw [HCL.out]; exact hge)] at h
        exact h)
      clear HANY
      have m0 := (hb.cell (p := ⟨g, 0, none⟩) hgs).trans HM0.out
      go_wp2_with fail
      go_loopw [7, 8, 28] (fun _ _ s wx => ∃ j : Nat, j ≤ n1 ∧ s = .int .i64 j ∧ shortF X 0 (P.take j) = false ∧ Below W.heap.size W wx) (fun _ _ s _ => n1 - (intOf s).toNat)
      case atStart => exact ⟨0, by omega, rfl, rfl, hb⟩
      case round =>
        obtain ⟨j, hj, rfl, hsh, hb⟩ := hrel
        have HSH := Lib.hid hsh
        clear hsh
        by_cases hlt : j < n1
        · obtain ⟨ad, x, rfl, had, hx, c0, ck⟩ := (hP0.on hb).at_ pcl_len (by omega) hlt
          have d0 := c0 _ rfl
          have d1 := ck 1 _ (by omega) rfl
          have d2 := ck 2 _ (by omega) rfl
          have d3 := ck 3 _ (by omega) rfl
          have d4 := ck 4 _ (by omega) rfl
          have d5 := ck 5 _ (by omega) rfl
          have d6 := ck 6 _ (by omega) rfl
          have d7 := ck 7 _ (by omega) rfl
          have d8 := ck 8 _ (by omega) rfl
          have d9 := ck 9 _ (by omega) rfl
          have d10 := ck 10 _ (by omega) rfl
          have hzx := HZ.out x (List.mem_of_getElem? hx)
          have HSM := Lib.hid (short_more (W := X) hx)
          have HSE := Lib.hid (short_mem (W := X) hx)
          obtain ⟨nm, bu, pe, sc, st, pa, pn, pc, h0, h1, h2, h3, h4⟩ := x
          dsimp only at d0 d1 d2 d3 d4 d5 d6 d7 d8 d9 d10 hzx
          have hbx := bl1 wr (.cells #[.string nm, .int .i64 bu, .int .i64 pe, .bool sc, .bool st, .slice pa pn pc, .int .i64 h0, .int .i64 h1, .int .i64 h2, .int .i64 h3, .int .i64 h4] 39)
          have hb1 := hb.trans (hbx.mono hb.size)
          have f1 : (wr.alloc (.cells #[.string nm, .int .i64 bu, .int .i64 pe, .bool sc, .bool st, .slice pa pn pc, .int .i64 h0, .int .i64 h1, .int .i64 h2, .int .i64 h3, .int .i64 h4] 39)).cell? ⟨wr.heap.size, 1, none⟩ = some (.int .i64 bu) := World.cell?_alloc_mark _ _ _ _ _
          have f2 : (wr.alloc (.cells #[.string nm, .int .i64 bu, .int .i64 pe, .bool sc, .bool st, .slice pa pn pc, .int .i64 h0, .int .i64 h1, .int .i64 h2, .int .i64 h3, .int .i64 h4] 39)).cell? ⟨wr.heap.size, 2, none⟩ = some (.int .i64 pe) := World.cell?_alloc_mark _ _ _ _ _
          have hgx : wr.heap.size < (wr.alloc (.cells #[.string nm, .int .i64 bu, .int .i64 pe, .bool sc, .bool st, .slice pa pn pc, .int .i64 h0, .int .i64 h1, .int .i64 h2, .int .i64 h3, .int .i64 h4] 39)).heap.size := by simp
          clear c0 ck hx hbx
          go_wp2_with fail
          generalize wr.alloc (.cells #[.string nm, .int .i64 bu, .int .i64 pe, .bool sc, .bool st, .slice pa pn pc, .int .i64 h0, .int .i64 h1, .int .i64 h2, .int .i64 h3, .int .i64 h4] 39) = W2 at hb1 f1 f2 hgx ⊢
          generalize wr.heap.size = gx at f1 f2 hgx ⊢
          have HB1 := Lib.hid hb1
          clear d0 d1 d2 d3 d4 d5 d6 d7 d8 d9 d10 hb1 had
          by_cases hbu : 0 < bu
          · have hbd : decide (0 < bu) = true := decide_eq_true hbu
            have HBG : Hid (Calls Tryz.prog 73 #[.slice A4 n4 c4, .int .i64 (j : Int), .int .i64 pe] W2.drew fun e w5 => e = .returned (.int .i64 (budL (wordsL L) (j : Int) pe)) ∧ Below W2.heap.size W2 w5 ∧ w5.cell? ⟨gx, 1, none⟩ = some (.int .i64 bu) ∧ w5.cell? ⟨gx, 2, none⟩ = some (.int .i64 pe)) := Lib.hid (by
              refine (bbudget_any A4 n4 c4 L (j : Int) pe W2.drew ((hL0.on HB1.out).below (Below.refl _ _).drew) q4 q5 ht hzx).mono ?_
              rintro e w5 ⟨rfl, hb5⟩
              have hb6 : Below W2.heap.size W2 w5 := ⟨hb5.os, hb5.tape, hb5.output, hb5.size, hb5.block⟩
              exact ⟨rfl, hb6, (hb6.cell (p := ⟨gx, 1, none⟩) hgx).trans f1, (hb6.cell (p := ⟨gx, 2, none⟩) hgx).trans f2⟩)
            rw [← HX.out] at HBG
            have hps : ptShort X j ⟨nm, bu, pe, sc, st, pa, pn, pc, h0, h1, h2, h3, h4⟩ = (decide (0 < bu) && decide (budL X (j : Int) pe < bu)) := rfl
            generalize budL X (j : Int) pe = z at HBG hps
            rw [hbd, Bool.true_and] at hps
            have HPS := Lib.hid hps
            clear hps
            go_region_with (go_at_call 73; refine HBG.out.mono ?_; rintro e w5 ⟨rfl, hb5, g1, g2⟩)
            all_goals
              by_cases t2 : z < bu
              · have u2 : decide (z < bu) = true := decide_eq_true t2
                have hres : R = 20 := by
                  rw [HR.out]
                  exact holdsF_short HALL.out (HSE.out (by rw [HPS.out]; exact u2))
                subst hres
                go_wp2_with fail
                go_ret
                exact Ans.mk rfl (hb0.trans ((HB1.out.trans (hb5.mono HB1.out.size)).mono hb0.size))
              · have u2 : decide (z < bu) = false := decide_eq_false t2
                have HN : Hid (shortF X 0 (P.take (j + 1)) = false) := Lib.hid (by rw [HSM.out, HSH.out, HPS.out, u2]; rfl)
                go_wp2_with fail
                go_roundw
                case rel => exact ⟨j + 1, by omega, by go_num, HN.out, HB1.out.trans (hb5.mono HB1.out.size)⟩
                case measure => simp [intOf]; omega
          · have hbd : decide (0 < bu) = false := decide_eq_false hbu
            have hps : ptShort X j ⟨nm, bu, pe, sc, st, pa, pn, pc, h0, h1, h2, h3, h4⟩ = (decide (0 < bu) && decide (budL X (j : Int) pe < bu)) := rfl
            rw [hbd, Bool.false_and] at hps
            have HN : Hid (shortF X 0 (P.take (j + 1)) = false) := Lib.hid (by rw [HSM.out, HSH.out, hps]; rfl)
            clear hps
            go_quiet (fail)
            go_wp2_with fail
            go_roundw
            case rel => exact ⟨j + 1, by omega, by go_num, HN.out, Below.drewN HB1.out nq⟩
            case measure => simp [intOf]; omega
        · have hge : n1 ≤ j := by omega
          have hres : R = 0 := by
            rw [HR.out]
            refine holdsF_ok HALL.out ?_
            have h := HSH.out
            rw [List.take_of_length_le (by rw [HPL.out]; exact hge)] at h
            exact h
          subst hres
          go_wp2_with fail
          go_ret
          exact Ans.mk rfl (hb0.trans (hb.mono hb0.size))
theorem boundW : BoundW := ⟨fun A n c L p q w h hc hn ht => blate_any A n c L p q w h hc hn (by omega), fun A n c L p z w h hc hn ht hz => bbudget_any A n c L p z w h hc hn (by omega) hz, fun A n c L p w h hc hn ht => bgaps_any A n c L p w h hc hn (by omega),
  fun A1 A2 A3 A4 n1 n2 n3 n4 c1 c2 c3 c4 P C L w hP hC hL q1 q2 q4 q5 ht hz => bholds_any A1 A2 A3 A4 n1 n2 n3 n4 c1 c2 c3 c4 P C L w hP hC hL q1 q2 q4 q5 (by omega) hz⟩
theorem i64_inB {a : Int} (h : (Lit.int .i64 a).wf = true) : -9223372036854775808 ≤ a ∧ a ≤ 9223372036854775807 := by simpa using Go.bounds_i64 h
end Go.Proofs.YtebcfiifaclniaaGreat

/- Package config: partitions, tables, where a configuration is wrong. -/
namespace Go.Proofs.YtebcfiifaclniaaGreat
open Go.RowKit Tab
set_option linter.unusedSimpArgs false
set_option linter.unusedVariables false

def paF (P : List Pq) (x : Pq) : Int := if (!nameF x.1.name || P.any (fun y => decide (y.1.name = x.1.name))) = true then 15 else if partF x.1 x.2 = true then 0 else 16
theorem paF_ptW (P : List Pq) (i : Nat) (x : Pq) : paF (P.take i) x = ptW P i x := rfl
set_option maxRecDepth 100000 in
set_option maxHeartbeats 4000000 in
theorem prt_any (x : Pq) (A : Option Addr) (n c : Nat) (P : List Pq) (w : World) (hx : RdB prc w w.heap.size x.1.pa x.1.pn x.2) (hs : x.1.name.size ≤ 140737488351232) (hP : RdB pcq w w.heap.size A n P) (hn : n ≤ 1048576) :
    Calls Tryz.prog 42 #[pv x.1, .slice A n c] w (Ans (.int .i64 (paF P x)) w) := by
  have HV : Hid (paF P x = if (!nameF x.1.name || P.any (fun y => decide (y.1.name = x.1.name))) = true then 15 else if (psF x.1.pn x.2 && ((List.range 5).all (fun j => hlF (hv5 x.1 j)) && pbF x.1.bud x.1.per)) = true then 0 else 16) := Lib.hid (by unfold paF; rw [partF_parts])
  generalize paF P x = v at HV ⊢
  have HNM := Lib.hid fun V => nm_any x.1.name V hs
  have HAH := Lib.hid fun V (hv : Below w.heap.size w V) => named_any A n c P x.1.name V (hP.on hv) hn
  have HPR := Lib.hid fun V (hv : Below w.heap.size w V) => procs_any x.1.pa x.1.pn x.1.pc x.2 V (hx.on hv)
  have HHE := Lib.hid fun V => health_any (hv5 x.1) V
  have HOW := Lib.hid fun V => owed_any x.1.bud x.1.per V
  generalize nameF x.1.name = q1 at HNM HV
  generalize (P.any fun y => decide (y.1.name = x.1.name)) = q2 at HAH HV
  generalize psF x.1.pn x.2 = q3 at HPR HV
  generalize (List.range 5).all (fun j => hlF (hv5 x.1 j)) = q4 at HHE HV
  generalize pbF x.1.bud x.1.per = q5 at HOW HV
  obtain ⟨⟨nm, bu, pe, sc, st, pa, pn, pc, h0, h1, h2, h3, h4⟩, L⟩ := x
  dsimp only at HNM HAH HPR HOW
  have HHE : Hid (∀ V, Calls Tryz.prog 57 #[.agg #[.int .i64 h0, .int .i64 h1, .int .i64 h2, .int .i64 h3, .int .i64 h4]] V (Ans (.bool q4) V)) := HHE
  have hb0 := bl1 w (.cells #[.string nm, .int .i64 bu, .int .i64 pe, .bool sc, .bool st, .slice pa pn pc, .int .i64 h0, .int .i64 h1, .int .i64 h2, .int .i64 h3, .int .i64 h4] 39)
  have HC : Hid (∀ o v, (#[Value.string nm, .int .i64 bu, .int .i64 pe, .bool sc, .bool st, .slice pa pn pc, .int .i64 h0, .int .i64 h1, .int .i64 h2, .int .i64 h3, .int .i64 h4] : Array Value)[o]? = some v → (w.alloc (.cells #[.string nm, .int .i64 bu, .int .i64 pe, .bool sc, .bool st, .slice pa pn pc, .int .i64 h0, .int .i64 h1, .int .i64 h2, .int .i64 h3, .int .i64 h4] 39)).cell? ⟨w.heap.size, o, none⟩ = some v) := Lib.hid fun o v hv => (World.cell?_alloc_mark _ _ _ _ _).trans hv
  have hgs : w.heap.size < (w.alloc (.cells #[.string nm, .int .i64 bu, .int .i64 pe, .bool sc, .bool st, .slice pa pn pc, .int .i64 h0, .int .i64 h1, .int .i64 h2, .int .i64 h3, .int .i64 h4] 39)).heap.size := by simp
  clear hx hs hP hn
  go_enter Tryz.func42, Tryz.ntmps42
  go_upto_region 1 with fail
  generalize w.alloc (.cells #[.string nm, .int .i64 bu, .int .i64 pe, .bool sc, .bool st, .slice pa pn pc, .int .i64 h0, .int .i64 h1, .int .i64 h2, .int .i64 h3, .int .i64 h4] 39) = W at hb0 HC hgs ⊢
  obtain ⟨g, hg⟩ : ∃ g, g = w.heap.size := ⟨_, rfl⟩
  rw [← hg] at HC hgs ⊢
  have HG := Lib.hid hg
  have HM := Lib.hid fun (W' : World) (hb : Below W.heap.size W W') (o : Nat) (v : Value) (hv : (#[Value.string nm, .int .i64 bu, .int .i64 pe, .bool sc, .bool st, .slice pa pn pc, .int .i64 h0, .int .i64 h1, .int .i64 h2, .int .i64 h3, .int .i64 h4] : Array Value)[o]? = some v) => (hb.cell (p := ⟨g, o, none⟩) hgs).trans (HC.out o v hv)
  have HW := Lib.hid fun (W' : World) (hb : Below W.heap.size W W') => hb0.trans (hb.mono hb0.size)
  have m0 := HM.out W (Below.refl _ _) 0 _ rfl
  clear hg hb0 hgs HC
  go_wp2_with fail
  refine (HNM.out _).mono ?_
  rintro e w1 ⟨rfl, hb1⟩
  have HB1 := Lib.hid hb1
  clear m0 hb1
  have m0 := HM.out w1 HB1.out 0 _ rfl
  cases q1 with
  | false =>
    have E : Hid (v = 15) := Lib.hid (by rw [HV.out]; rfl)
    clear HV
    go_wp2_with fail
    go_ret
    exact Ans.mk (by rw [E.out]; rfl) (HW.out _ HB1.out)
  | true =>
  have HV2 : Hid (v = if q2 = true then 15 else if (q3 && (q4 && q5)) = true then 0 else 16) := Lib.hid HV.out
  have HA := HAH.out w1 (HW.out _ HB1.out)
  clear HV
  go_wp2_with fail
  refine HA.mono ?_
  rintro e w2 ⟨rfl, hb2⟩
  have HB2 := Lib.hid (HB1.out.trans (hb2.mono HB1.out.size))
  clear m0 hb2 HA
  cases q2 with
  | true =>
    have E : Hid (v = 15) := Lib.hid (by rw [HV2.out]; rfl)
    clear HV2
    go_wp2_with fail
    go_ret
    exact Ans.mk (by rw [E.out]; rfl) (HW.out _ HB2.out)
  | false =>
  have HV3 : Hid (v = if (q3 && (q4 && q5)) = true then 0 else 16) := Lib.hid HV2.out
  have m5 := HM.out w2 HB2.out 5 _ rfl
  have HP := HPR.out w2 (HW.out _ HB2.out)
  clear HV2
  go_wp2_with fail
  refine HP.mono ?_
  rintro e w3 ⟨rfl, hb3⟩
  have HB3 := Lib.hid (HB2.out.trans (hb3.mono HB2.out.size))
  clear m5 hb3 HP
  cases q3 with
  | false =>
    have E : Hid (v = 16) := Lib.hid (by rw [HV3.out]; rfl)
    clear HV3
    go_wp2_with fail
    go_ret
    exact Ans.mk (by rw [E.out]; rfl) (HW.out _ HB3.out)
  | true =>
  have HV4 : Hid (v = if (q4 && q5) = true then 0 else 16) := Lib.hid HV3.out
  have m6 := HM.out w3 HB3.out 6 _ rfl
  have m7 := HM.out w3 HB3.out 7 _ rfl
  have m8 := HM.out w3 HB3.out 8 _ rfl
  have m9 := HM.out w3 HB3.out 9 _ rfl
  have m10 := HM.out w3 HB3.out 10 _ rfl
  clear HV3
  go_wp2_with fail
  refine (HHE.out w3).mono ?_
  rintro e w4 ⟨rfl, hb4⟩
  have HB4 := Lib.hid (HB3.out.trans (hb4.mono HB3.out.size))
  clear m6 m7 m8 m9 m10 hb4
  cases q4 with
  | false =>
    have E : Hid (v = 16) := Lib.hid (by rw [HV4.out]; rfl)
    clear HV4
    go_wp2_with fail
    go_ret
    exact Ans.mk (by rw [E.out]; rfl) (HW.out _ HB4.out)
  | true =>
  have HV5 : Hid (v = if q5 = true then 0 else 16) := Lib.hid HV4.out
  have m1 := HM.out w4 HB4.out 1 _ rfl
  have m2 := HM.out w4 HB4.out 2 _ rfl
  clear HV4
  go_wp2_with fail
  refine (HOW.out w4).mono ?_
  rintro e w5 ⟨rfl, rfl⟩
  clear m1 m2
  cases q5 with
  | false =>
    have E : Hid (v = 16) := Lib.hid (by rw [HV5.out]; rfl)
    clear HV5
    go_wp2_with fail
    go_ret
    exact Ans.mk (by rw [E.out]; rfl) (HW.out _ HB4.out)
  | true =>
    have E : Hid (v = 0) := Lib.hid (by rw [HV5.out]; rfl)
    clear HV5
    go_wp2_with fail
    go_ret
    exact Ans.mk (by rw [E.out]; rfl) (HW.out _ HB4.out)
set_option maxRecDepth 100000 in
theorem pofx_any (t : NdT) (w : World) (h : NdAt w w.heap.size t) : Calls Tryz.prog 60 #[.slice t.A t.n t.c] w (OfG (ofF t.l).1 (ofF t.l).2 w) := by
  have hl := h.rd.len
  by_cases hb : 128 < t.n
  · have hn : ¬ (3 : Int) = 0 := by decide
    rw [ofF_big (by rw [hl]; exact hb)]
    refine (of_wrong t.A t.n t.c w _ ?_ hn).mono fun _ _ k => ofg_some hn k
    have h1' : (128 : Int) < (t.n : Int) := by omega
    clear h hl hb
    go_enter Tryz.func69, Tryz.ntmps69
    go_wp2_with fail
    go_ret
    exact Ans.mk rfl (Below.refl _ _)
  by_cases hw : wholeB t.l = true
  · obtain ⟨x, k, hok, he, e⟩ := ofF_whole hw
    rw [e]
    have hr := h.rd
    rw [he] at hr hl ⊢
    rw [hl]
    exact of_any t.A t.n t.c x k w hr h.cap hok (by omega)
  · have hw' : wholeB t.l = false := by simpa using hw
    rw [ofF_none hw, hl]
    have hn : ¬ rn t.n = 0 := by unfold rn; split <;> omega
    exact (of_wrong t.A t.n t.c w _ (right_none t.A t.n t.c t.l w h.rd h.cap (by omega) hw') hn).mono fun _ _ k => ofg_none hn k
set_option maxRecDepth 100000 in
set_option maxHeartbeats 4000000 in
theorem tbl_any (A1 A2 A3 : Option Addr) (n1 n2 n3 c1 c2 c3 : Nat) (P : List Pq) (C : List ChV) (t : NdT) (w : World) (hP : RdB pcq w w.heap.size A1 n1 P) (hC : RdB cc w w.heap.size A2 n2 C)
    (hp : ∀ x ∈ P, In64 x.1.per) (ht : NdAt w w.heap.size t) (r1 : n1 ≤ 1048576) (r2 : n2 ≤ 1048576) :
    Calls Tryz.prog 44 #[.agg #[.slice A1 n1 c1, .slice A2 n2 c2, .slice A3 n3 c3], .slice t.A t.n t.c] w (Ans (.int .i64 (tbW P C t.l)) w) := by
  have HTE : Hid (tbW P C t.l = if (ofF t.l).1 = 0 then (if (ofF t.l).2.any (fun r => decide ((n1 : Int) ≤ r.p)) = true then 16 else holdsF (wordsL (ofF t.l).2) (P.map Prod.fst) C) else (ofF t.l).1) := Lib.hid (by unfold tbW; rw [hP.len])
  have HPM : Hid (∀ x ∈ P.map Prod.fst, In64 x.per) := Lib.hid fun x hx => by
    obtain ⟨y, hy, rfl⟩ := List.mem_map.1 hx
    exact hp y hy
  generalize tbW P C t.l = v at HTE ⊢
  have hb0 := bl1 w (.cells #[.slice A1 n1 c1, .slice A2 n2 c2, .slice A3 n3 c3] 27)
  have hOF := pofx_any t _ (ht.on hb0)
  have hz4 := fun e => (ofF_ok (l := t.l) e).1
  have hz5 := fun e => (ofF_ok (l := t.l) e).2
  obtain ⟨A, n, c, ll⟩ := t
  dsimp only at hOF hz4 hz5 HTE ⊢
  generalize (ofF ll).1 = z at hOF hz4 hz5 HTE
  generalize (ofF ll).2 = L at hOF hz4 hz5 HTE
  have HZ4 := Lib.hid hz4
  have HZ5 := Lib.hid hz5
  have HP := Lib.hid (hP.on hb0)
  have HC := Lib.hid (hC.on hb0)
  have m0 : (w.alloc (.cells #[.slice A1 n1 c1, .slice A2 n2 c2, .slice A3 n3 c3] 27)).cell? ⟨w.heap.size, 0, none⟩ = some (.slice A1 n1 c1) := World.cell?_alloc_mark _ _ _ _ _
  have m1 : (w.alloc (.cells #[.slice A1 n1 c1, .slice A2 n2 c2, .slice A3 n3 c3] 27)).cell? ⟨w.heap.size, 1, none⟩ = some (.slice A2 n2 c2) := World.cell?_alloc_mark _ _ _ _ _
  have m2 : (w.alloc (.cells #[.slice A1 n1 c1, .slice A2 n2 c2, .slice A3 n3 c3] 27)).cell? ⟨w.heap.size, 2, none⟩ = some (.slice A3 n3 c3) := World.cell?_alloc_mark _ _ _ _ _
  have hgs : w.heap.size < (w.alloc (.cells #[.slice A1 n1 c1, .slice A2 n2 c2, .slice A3 n3 c3] 27)).heap.size := by simp
  clear hP hC hp ht hz4 hz5
  go_enter Tryz.func44, Tryz.ntmps44
  go_upto_region 1 with fail
  generalize w.alloc (.cells #[.slice A1 n1 c1, .slice A2 n2 c2, .slice A3 n3 c3] 27) = W at hb0 hOF HP HC m0 m1 m2 hgs ⊢
  obtain ⟨g, hg⟩ : ∃ g, g = w.heap.size := ⟨_, rfl⟩
  rw [← hg] at m0 m1 m2 hgs ⊢
  have HG := Lib.hid hg
  have HM := Lib.hid fun (W' : World) (hb : Below W.heap.size W W') (o : Nat) (v : Value) (hv : W.cell? ⟨g, o, none⟩ = some v) => (hb.cell (p := ⟨g, o, none⟩) hgs).trans hv
  have HW := Lib.hid fun (W' : World) (hb : Below W.heap.size W W') => hb0.trans (hb.mono hb0.size)
  have HOF := Lib.hid hOF
  have M0 := Lib.hid m0
  have M1 := Lib.hid m1
  have M2 := Lib.hid m2
  clear hg m0 m1 m2 hb0 hgs hOF
  go_wp2_with fail
  refine HOF.out.mono ?_
  rintro e w5 ⟨A4, n4, c4, rfl, hc4, hr4, hb5⟩
  have HB5 := Lib.hid hb5
  clear hb5
  by_cases hz : z = 0
  · have hzd : (z != 0) = false := by rw [hz]; rfl
    have hr := hr4 hz
    have h4 := HZ4.out hz
    have h5 := HZ5.out hz
    have HR := Lib.hid hr
    have hn4 : n4 ≤ 96 := by rw [← hr.len]; exact h5
    have HTE2 : Hid (v = if L.any (fun r => decide ((n1 : Int) ≤ r.p)) = true then 16 else holdsF (wordsL L) (P.map Prod.fst) C) := Lib.hid (HTE.out.trans (if_pos hz))
    clear hr4 hr
    subst hz
    clear HTE
    go_wp2_with fail
    go_loopw [8, 19] (fun _ s wx => ∃ i : Nat, i ≤ n4 ∧ s = .int .i64 i ∧ (∀ (k : Nat) (r : Rn), k < i → L[k]? = some r → ¬ (n1 : Int) ≤ r.p) ∧ Below w5.heap.size w5 wx) (fun _ s _ => n4 - (intOf s).toNat)
    case atStart => exact ⟨0, by omega, rfl, fun k r hk => by omega, Below.refl _ _⟩
    case round =>
      obtain ⟨i, hi4, rfl, hok, hb⟩ := hrel
      have HOK := Lib.hid hok
      clear hok
      have HBX := Lib.hid (HB5.out.trans (hb.mono HB5.out.size))
      by_cases hlt4 : i < n4
      · obtain ⟨ad4, r, rfl, had4, hx4, e0, e1⟩ := (HR.out.on hb).at_ hlt4
        have hbx := bl1 wr (.cells #[.int .i64 r.p, .int .i64 r.n] 95)
        have HB1 := Lib.hid (hb.trans (hbx.mono hb.size))
        have HB2 := Lib.hid (HBX.out.trans (hbx.mono HBX.out.size))
        have m0 := HM.out _ HB2.out 0 _ M0.out
        have HNI : Hid (¬ (n1 : Int) ≤ r.p → ∀ (k : Nat) (r : Rn), k < i + 1 → L[k]? = some r → ¬ (n1 : Int) ≤ r.p) := Lib.hid fun h k r' hk hy' => by
          rcases Nat.lt_or_ge k i with h5 | h5
          · exact HOK.out k r' h5 hy'
          · obtain rfl : k = i := by omega
            rw [hx4] at hy'
            injection hy' with hy'
            rw [← hy']
            exact h
        have HAN : Hid ((n1 : Int) ≤ r.p → L.any (fun r => decide ((n1 : Int) ≤ r.p)) = true) := Lib.hid fun h => List.any_eq_true.2 ⟨r, List.mem_of_getElem? hx4, decide_eq_true h⟩
        clear hbx hx4 had4 hb HOK
        by_cases hrp : (n1 : Int) ≤ r.p
        · have k16 : v = 16 := by
            have e := HTE2.out
            rw [HAN.out hrp] at e
            exact e
          have K := Lib.hid k16
          clear HTE2 k16 HNI HAN
          go_wp2_with fail
          go_ret
          exact Ans.mk (by rw [K.out]; rfl) (HW.out _ HB2.out)
        · have HNI2 := Lib.hid (HNI.out hrp)
          clear HNI HAN
          go_wp2_with fail
          go_roundw
          case rel => exact ⟨i + 1, by omega, by go_num, HNI2.out, HB1.out⟩
          case measure => simp [intOf]; omega
      · have hge4 : n4 ≤ i := by omega
        have HTE3 : Hid (v = holdsF (wordsL L) (P.map Prod.fst) C) := Lib.hid (by
          have e := HTE2.out
          have ha : L.any (fun r => decide ((n1 : Int) ≤ r.p)) = false := by
            rw [List.any_eq_false]
            intro r hr
            obtain ⟨k, hk⟩ := List.getElem?_of_mem hr
            have := HOK.out k r (by have := (List.getElem?_eq_some_iff.1 hk).1; have := HR.out.len; omega) hk
            simpa using this
          rw [ha] at e
          exact e)
        have m0 := HM.out _ HBX.out 0 _ M0.out
        have m1 := HM.out _ HBX.out 1 _ M1.out
        have m2 := HM.out _ HBX.out 2 _ M2.out
        have HHO := Lib.hid (bholds_any A1 A2 A3 A4 n1 n2 n3 n4 c1 c2 c3 c4 (P.map Prod.fst) C L wr (HP.out.on HBX.out).fsts (HC.out.on HBX.out) (HR.out.on hb) (by omega) (by omega) hc4 (by omega) (by omega) HPM.out)
        generalize holdsF (wordsL L) (P.map Prod.fst) C = y at HHO HTE3
        clear hb HTE2 HOK
        go_wp2_with fail
        refine HHO.out.mono ?_
        rintro e w7 ⟨rfl, hb7⟩
        have HB7 := Lib.hid (HBX.out.trans (hb7.mono HBX.out.size))
        clear hb7 m0 m1 m2 HHO
        go_wp2_with fail
        go_ret
        exact Ans.mk (by rw [HTE3.out]; rfl) (HW.out _ HB7.out)
  · have hzd : (z != 0) = true := bne_iff_ne.2 hz
    have K : Hid (v = z) := Lib.hid (HTE.out.trans (if_neg hz))
    clear HTE hz
    go_wp2_with fail
    go_ret
    exact Ans.mk (by rw [K.out]; rfl) (HW.out _ HB5.out)
end Go.Proofs.YtebcfiifaclniaaGreat

/- Package config: where a configuration is wrong, whether it is right. -/
namespace Go.Proofs.YtebcfiifaclniaaGreat
open Go.RowKit Tab
set_option linter.unusedSimpArgs false
set_option linter.unusedVariables false

set_option maxRecDepth 100000 in
set_option maxHeartbeats 4000000 in
theorem cwhere_any (A1 A2 A3 : Option Addr) (n1 n2 n3 c1 c2 c3 : Nat) (P : List Pq) (C : List ChV) (T : List NdT) (w : World) (hP : RdB pcq w w.heap.size A1 n1 P) (hC : RdB cc w w.heap.size A2 n2 C) (hT : RdB tcn w w.heap.size A3 n3 T)
    (hp : ∀ x ∈ P, PtAx w w.heap.size x) (ht : ∀ t ∈ T, NdAt w w.heap.size t) (hk : n1 ≤ c1) :
    Calls Tryz.prog 27 #[.agg #[.slice A1 n1 c1, .slice A2 n2 c2, .slice A3 n3 c3]] w (Ans (.tuple #[.int .i64 (whereF P C T).1, .int .i64 (whereF P C T).2]) w) := by
  have hb0 := bl1 w (.cells #[.slice A1 n1 c1, .slice A2 n2 c2, .slice A3 n3 c3] 27)
  have e1 := hP.len
  have e2 := hC.len
  have e3 := hT.len
  have WBIG : Hid (¬ (1 ≤ n1 ∧ n1 ≤ 6 ∧ n2 ≤ 8 ∧ 1 ≤ n3 ∧ n3 ≤ 3) → whereF P C T = (3, 0)) := Lib.hid fun h => whereF_big (by unfold sizesB; rw [e1, e2, e3]; exact h)
  have WP : Hid ((1 ≤ n1 ∧ n1 ≤ 6 ∧ n2 ≤ 8 ∧ 1 ≤ n3 ∧ n3 ≤ 3) → ∀ i, i < n1 → (∀ j, j < i → ptE P j = 0) → ptE P i ≠ 0 → whereF P C T = (ptE P i, (i : Int))) := Lib.hid fun h i hi => whereF_part (by unfold sizesB; rw [e1, e2, e3]; exact h) (by omega)
  have WC : Hid ((1 ≤ n1 ∧ n1 ≤ 6 ∧ n2 ≤ 8 ∧ 1 ≤ n3 ∧ n3 ≤ 3) → (∀ j, j < n1 → ptE P j = 0) → ∀ i, i < n2 → (∀ j, j < i → chE C n1 j = 0) → chE C n1 i ≠ 0 → whereF P C T = (chE C n1 i, (i : Int))) := Lib.hid fun h hp i hi => by
    have := whereF_chan (T := T) (by unfold sizesB; rw [e1, e2, e3]; exact h) (by rw [e1]; exact hp) (i := i) (by omega)
    rw [e1] at this
    exact this
  have WT : Hid ((1 ≤ n1 ∧ n1 ≤ 6 ∧ n2 ≤ 8 ∧ 1 ≤ n3 ∧ n3 ≤ 3) → (∀ j, j < n1 → ptE P j = 0) → (∀ j, j < n2 → chE C n1 j = 0) → ∀ i, i < n3 → (∀ j, j < i → tbE P C T j = 0) → tbE P C T i ≠ 0 → whereF P C T = (tbE P C T i, (i : Int))) := Lib.hid fun h hp hc i hi =>
    whereF_tab (by unfold sizesB; rw [e1, e2, e3]; exact h) (by rw [e1]; exact hp) (by rw [e1, e2]; exact hc) (i := i) (by omega)
  have WOK : Hid ((1 ≤ n1 ∧ n1 ≤ 6 ∧ n2 ≤ 8 ∧ 1 ≤ n3 ∧ n3 ≤ 3) → (∀ j, j < n1 → ptE P j = 0) → (∀ j, j < n2 → chE C n1 j = 0) → (∀ j, j < n3 → tbE P C T j = 0) → whereF P C T = (0, -1)) := Lib.hid fun h hp hc ht =>
    whereF_ok (by unfold sizesB; rw [e1, e2, e3]; exact h) (by rw [e1]; exact hp) (by rw [e1, e2]; exact hc) (by rw [e3]; exact ht)
  have HPM : Hid (∀ x ∈ P, In64 x.1.per) := Lib.hid fun x hx => (hp x hx).per
  generalize whereF P C T = V at WBIG WP WC WT WOK ⊢
  obtain ⟨V1, V2⟩ := V
  dsimp only at WBIG WP WC WT WOK ⊢
  have HFQ : Hid ((wiF (n1 : Int) 1 6 && (decide (n2 ≤ 8) && wiF (n3 : Int) 1 3)) = decide (1 ≤ n1 ∧ n1 ≤ 6 ∧ n2 ≤ 8 ∧ 1 ≤ n3 ∧ n3 ≤ 3)) := Lib.hid (by
    rw [show wiF (n1 : Int) 1 6 = (decide (1 ≤ n1) && decide (n1 ≤ 6)) from wiF_nat n1 1 6, show wiF (n3 : Int) 1 3 = (decide (1 ≤ n3) && decide (n3 ≤ 3)) from wiF_nat n3 1 3]
    simp only [Bool.decide_and, Bool.and_assoc])
  have HFW := Lib.hid fun V => fw_any A1 A2 A3 n1 n2 n3 c1 c2 c3 V
  rw [HFQ.out] at HFW
  have HP := Lib.hid hP
  have HC := Lib.hid hC
  have HT := Lib.hid hT
  have HPT := Lib.hid hp
  have HTT := Lib.hid ht
  have m0 : (w.alloc (.cells #[.slice A1 n1 c1, .slice A2 n2 c2, .slice A3 n3 c3] 27)).cell? ⟨w.heap.size, 0, none⟩ = some (.slice A1 n1 c1) := World.cell?_alloc_mark _ _ _ _ _
  have m1 : (w.alloc (.cells #[.slice A1 n1 c1, .slice A2 n2 c2, .slice A3 n3 c3] 27)).cell? ⟨w.heap.size, 1, none⟩ = some (.slice A2 n2 c2) := World.cell?_alloc_mark _ _ _ _ _
  have m2 : (w.alloc (.cells #[.slice A1 n1 c1, .slice A2 n2 c2, .slice A3 n3 c3] 27)).cell? ⟨w.heap.size, 2, none⟩ = some (.slice A3 n3 c3) := World.cell?_alloc_mark _ _ _ _ _
  have hgs : w.heap.size < (w.alloc (.cells #[.slice A1 n1 c1, .slice A2 n2 c2, .slice A3 n3 c3] 27)).heap.size := by simp
  clear hP hC hT hp ht e1 e2 e3 HFQ
  go_enter Tryz.func27, Tryz.ntmps27
  go_upto_region 1 with fail
  generalize w.alloc (.cells #[.slice A1 n1 c1, .slice A2 n2 c2, .slice A3 n3 c3] 27) = W at hb0 m0 m1 m2 hgs ⊢
  obtain ⟨g, hg⟩ : ∃ g, g = w.heap.size := ⟨_, rfl⟩
  rw [← hg] at m0 m1 m2 hgs ⊢
  have HG := Lib.hid hg
  have HM := Lib.hid fun (W' : World) (hb : Below W.heap.size W W') (o : Nat) (v : Value) (hv : W.cell? ⟨g, o, none⟩ = some v) => (hb.cell (p := ⟨g, o, none⟩) hgs).trans hv
  have HW := Lib.hid fun (W' : World) (hb : Below W.heap.size W W') => hb0.trans (hb.mono hb0.size)
  have M0 := Lib.hid m0
  have M1 := Lib.hid m1
  have M2 := Lib.hid m2
  clear hg hb0
  go_wp2_with fail
  refine (HFW.out W).mono ?_
  rintro e w1 ⟨rfl, hb1⟩
  have HB1 := Lib.hid hb1
  clear m0 m1 m2 HFW hb1
  by_cases qz : 1 ≤ n1 ∧ n1 ≤ 6 ∧ n2 ≤ 8 ∧ 1 ≤ n3 ∧ n3 ≤ 3
  case neg =>
    have hd : decide (1 ≤ n1 ∧ n1 ≤ 6 ∧ n2 ≤ 8 ∧ 1 ≤ n3 ∧ n3 ≤ 3) = false := decide_eq_false qz
    have hv := WBIG.out qz
    injection hv with hv1 hv2
    subst hv1 hv2
    rw [hd]
    clear WBIG WP WC WT WOK hd qz
    go_wp2_with fail
    go_ret2
    exact Ans.mk rfl (HW.out _ HB1.out)
  have hd : decide (1 ≤ n1 ∧ n1 ≤ 6 ∧ n2 ≤ 8 ∧ 1 ≤ n3 ∧ n3 ≤ 3) = true := decide_eq_true qz
  rw [hd]
  clear hd
  have WP := Lib.hid (WP.out qz)
  have WC := Lib.hid (WC.out qz)
  have WT := Lib.hid (WT.out qz)
  have WOK := Lib.hid (WOK.out qz)
  have r0 : 1 ≤ n1 := qz.1
  have r1 : n1 ≤ 6 := qz.2.1
  have r2 : n2 ≤ 8 := qz.2.2.1
  have r3 : n3 ≤ 3 := qz.2.2.2.2
  have m0 := HM.out w1 HB1.out 0 _ M0.out
  clear WBIG qz
  go_wp2_with fail
  clear m0
  go_loopw [4, 5, 6, 18] (fun _ _ _ s wr => ∃ i : Nat, i ≤ n1 ∧ s = .int .i64 i ∧ (∀ j, j < i → ptE P j = 0) ∧ Below W.heap.size W wr) (fun _ _ _ s _ => n1 - (intOf s).toNat)
  case atStart => exact ⟨0, by omega, rfl, fun j hj => by omega, HB1.out⟩
  case round =>
    obtain ⟨i, hi, rfl, hok, hb⟩ := hrel
    have HOK := Lib.hid hok
    clear hok
    by_cases hlt : i < n1
    · obtain ⟨ad, x, rfl, had, hx, c0, ck⟩ := (HP.out.on (HW.out _ hb)).at_ pcq_len (by omega) hlt
      have hPA := (HPT.out x (List.mem_of_getElem? hx)).on (HW.out _ hb)
      have d0 := c0 _ rfl
      have d1 := ck 1 _ (by omega) rfl
      have d2 := ck 2 _ (by omega) rfl
      have d3 := ck 3 _ (by omega) rfl
      have d4 := ck 4 _ (by omega) rfl
      have d5 := ck 5 _ (by omega) rfl
      have d6 := ck 6 _ (by omega) rfl
      have d7 := ck 7 _ (by omega) rfl
      have d8 := ck 8 _ (by omega) rfl
      have d9 := ck 9 _ (by omega) rfl
      have d10 := ck 10 _ (by omega) rfl
      have hpe : ptE P i = paF (P.take i) x := by
        rw [paF_ptW]
        unfold ptE
        rw [hx]
      have HWP := Lib.hid (WP.out i hlt HOK.out)
      have HNX := Lib.hid fun (h : ptE P i = 0) => lt_more (p := fun j => ptE P j = 0) HOK.out h
      have HPC := Lib.hid fun V (hv : Below wr.heap.size wr V) => prt_any x (some ad) i c1 (P.take i) V (hPA.on hv).procs hPA.name (((HP.out.on (HW.out _ hb)).on hv).tak (by omega)) (by omega)
      rw [← hpe] at HPC
      generalize ptE P i = z at HWP HNX HPC
      obtain ⟨⟨nm, bu, pe, sc, st, pa, pn, pc, h0, h1, h2, h3, h4⟩, L⟩ := x
      dsimp only at d0 d1 d2 d3 d4 d5 d6 d7 d8 d9 d10
      dsimp only [pv] at HPC
      have hbx := bl1 wr (.cells #[.string nm, .int .i64 bu, .int .i64 pe, .bool sc, .bool st, .slice pa pn pc, .int .i64 h0, .int .i64 h1, .int .i64 h2, .int .i64 h3, .int .i64 h4] 39)
      have HPC := Lib.hid fun V (hv : Below (wr.alloc (.cells #[.string nm, .int .i64 bu, .int .i64 pe, .bool sc, .bool st, .slice pa pn pc, .int .i64 h0, .int .i64 h1, .int .i64 h2, .int .i64 h3, .int .i64 h4] 39)).heap.size (wr.alloc (.cells #[.string nm, .int .i64 bu, .int .i64 pe, .bool sc, .bool st, .slice pa pn pc, .int .i64 h0, .int .i64 h1, .int .i64 h2, .int .i64 h3, .int .i64 h4] 39)) V) => HPC.out V (hbx.trans (hv.mono hbx.size))
      have HB2 := Lib.hid (hb.trans (hbx.mono hb.size))
      have hki : i ≤ c1 := by omega
      clear c0 ck hx hPA hpe HOK
      go_upto_region 6 with fail
      have m0 := HM.out _ HB2.out 0 _ M0.out
      have HF : Hid (∀ o v, (#[Value.string nm, .int .i64 bu, .int .i64 pe, .bool sc, .bool st, .slice pa pn pc, .int .i64 h0, .int .i64 h1, .int .i64 h2, .int .i64 h3, .int .i64 h4] : Array Value)[o]? = some v → (wr.alloc (.cells #[.string nm, .int .i64 bu, .int .i64 pe, .bool sc, .bool st, .slice pa pn pc, .int .i64 h0, .int .i64 h1, .int .i64 h2, .int .i64 h3, .int .i64 h4] 39)).cell? ⟨wr.heap.size, o, none⟩ = some v) := Lib.hid fun o v hv => (World.cell?_alloc_mark _ _ _ _ _).trans hv
      generalize wr.alloc (.cells #[.string nm, .int .i64 bu, .int .i64 pe, .bool sc, .bool st, .slice pa pn pc, .int .i64 h0, .int .i64 h1, .int .i64 h2, .int .i64 h3, .int .i64 h4] 39) = W5 at HPC HB2 HF m0 ⊢
      generalize wr.heap.size = gx at HF ⊢
      have f0 := HF.out 0 _ rfl
      have f1 := HF.out 1 _ rfl
      have f2 := HF.out 2 _ rfl
      have f3 := HF.out 3 _ rfl
      have f4 := HF.out 4 _ rfl
      have f5 := HF.out 5 _ rfl
      have f6 := HF.out 6 _ rfl
      have f7 := HF.out 7 _ rfl
      have f8 := HF.out 8 _ rfl
      have f9 := HF.out 9 _ rfl
      have f10 := HF.out 10 _ rfl
      clear HF d0 d1 d2 d3 d4 d5 d6 d7 d8 d9 d10 hbx hb
      go_region_with (go_at_call 42; refine (HPC.out _ (by first | exact Below.refl _ _ | exact (Below.refl _ _).drew | exact Below.drewN (Below.refl _ _) _)).mono ?_; rintro e w6 ⟨rfl, hb6⟩)
      all_goals
        have HB6 : Hid (Below W.heap.size W w6) := Lib.hid (by first | exact HB2.out.trans (hb6.mono HB2.out.size) | exact HB2.out.trans (Below.mono (Below.trans (Below.refl _ _).drew hb6) HB2.out.size))
        clear hb6 f0 f1 f2 f3 f4 f5 f6 f7 f8 f9 f10 m0
        by_cases hz : z = 0
        · have hzd : (z != 0) = false := by rw [hz]; rfl
          have HN := Lib.hid (HNX.out hz)
          clear HNX HWP
          subst hz
          go_wp2_with fail
          go_roundw
          case rel => exact ⟨i + 1, by omega, by go_num, HN.out, HB6.out⟩
          case measure => simp [intOf]; omega
        · have hzd : (z != 0) = true := bne_iff_ne.2 hz
          have hv := HWP.out hz
          injection hv with hv1 hv2
          subst hv1 hv2
          clear HNX HWP WP WC WT WOK
          go_wp2_with fail
          go_ret2
          exact Ans.mk rfl (HW.out _ HB6.out)
    · have hge : n1 ≤ i := by omega
      have HPK : Hid (∀ j, j < n1 → ptE P j = 0) := Lib.hid fun j hj => HOK.out j (by omega)
      have WC2 := Lib.hid (WC.out HPK.out)
      have WT2 := Lib.hid (WT.out HPK.out)
      have WOK2 := Lib.hid (WOK.out HPK.out)
      have m1 := HM.out wr hb 1 _ M1.out
      clear WP WC WT WOK HOK
      go_wp2_with fail
      clear m1
      go_loopw [7, 8, 37] (fun _ _ s wx => ∃ j : Nat, j ≤ n2 ∧ s = .int .i64 j ∧ (∀ k, k < j → chE C n1 k = 0) ∧ Below W.heap.size W wx) (fun _ _ s _ => n2 - (intOf s).toNat)
      case atStart => exact ⟨0, by omega, rfl, fun k hk => by omega, hb⟩
      case round =>
        obtain ⟨j, hj, rfl, hok, hb⟩ := hrel
        have HOK := Lib.hid hok
        clear hok
        by_cases hlt : j < n2
        · obtain ⟨ad, x, rfl, had, hx, c0, ck⟩ := (HC.out.on (HW.out _ hb)).at_ cc_len (by omega) hlt
          have d0 := c0 _ rfl
          have d1 := ck 1 _ (by omega) rfl
          have d2 := ck 2 _ (by omega) rfl
          have d3 := ck 3 _ (by omega) rfl
          have d4 := ck 4 _ (by omega) rfl
          have d5 := ck 5 _ (by omega) rfl
          have HE := Lib.hid (chE_at (n := n1) hx)
          have HWC := Lib.hid (WC2.out j hlt HOK.out)
          have HNX := Lib.hid fun (h : chE C n1 j = 0) => lt_more (p := fun j => chE C n1 j = 0) HOK.out h
          obtain ⟨xf, xt, xq, xc, xm, xl⟩ := x
          dsimp only at d0 d1 d2 d3 d4 d5
          have hbx := bl1 wr (.cells #[.int .i64 xf, .int .i64 xt, .bool xq, .int .i64 xc, .int .u32 xm, .int .i64 xl] 47)
          have HB1 := Lib.hid (hb.trans (hbx.mono hb.size))
          have m0 := HM.out _ HB1.out 0 _ M0.out
          have HCR := Lib.hid fun V => chn_any ⟨xf, xt, xq, xc, xm, xl⟩ n1 (by omega) V
          generalize chanF ⟨xf, xt, xq, xc, xm, xl⟩ (n1 : Int) = b at HCR HE
          clear c0 ck hx hbx HOK
          go_wp2_with fail
          refine (HCR.out _).mono ?_
          rintro e w5 ⟨rfl, hb5⟩
          have HB5 := Lib.hid (HB1.out.trans (hb5.mono HB1.out.size))
          clear hb5 d0 d1 d2 d3 d4 d5 m0
          cases b
          · have k17 : chE C n1 j = 17 := HE.out
            have hv := HWC.out (by rw [k17]; decide)
            rw [k17] at hv
            injection hv with hv1 hv2
            subst hv1 hv2
            clear HE HWC HNX k17 WC2 WT2 WOK2
            go_wp2_with fail
            go_ret2
            exact Ans.mk rfl (HW.out _ HB5.out)
          · have k0 : chE C n1 j = 0 := HE.out
            have HNX2 := Lib.hid (HNX.out k0)
            clear k0 HE HWC HNX
            go_wp2_with fail
            go_roundw
            case rel => exact ⟨j + 1, by omega, by go_num, HNX2.out, HB5.out⟩
            case measure => simp [intOf]; omega
        · have hge : n2 ≤ j := by omega
          have HCK : Hid (∀ k, k < n2 → chE C n1 k = 0) := Lib.hid fun k hk => HOK.out k (by omega)
          have WT3 := Lib.hid (WT2.out HCK.out)
          have WOK3 := Lib.hid (WOK2.out HCK.out)
          have m2 := HM.out wr hb 2 _ M2.out
          clear WC2 WT2 WOK2 HOK
          go_wp2_with fail
          clear m2
          go_loopw [9, 10, 11, 53] (fun _ _ _ s wx => ∃ j : Nat, j ≤ n3 ∧ s = .int .i64 j ∧ (∀ k, k < j → tbE P C T k = 0) ∧ Below W.heap.size W wx) (fun _ _ _ s _ => n3 - (intOf s).toNat)
          case atStart => exact ⟨0, by omega, rfl, fun k hk => by omega, hb⟩
          case round =>
            obtain ⟨j, hj, rfl, hok, hb⟩ := hrel
            have HOK := Lib.hid hok
            clear hok
            by_cases hlt : j < n3
            · obtain ⟨ad, t, rfl, had, hx, c0, ck⟩ := (HT.out.on (HW.out _ hb)).at_ tcn_len (by omega) hlt
              have d0 := c0 _ rfl
              rw [Nat.mul_one] at d0
              have hTA := (HTT.out t (List.mem_of_getElem? hx)).on (HW.out _ hb)
              have HTE := Lib.hid (tbE_at (P := P) (C := C) hx)
              have HWT := Lib.hid (WT3.out j hlt HOK.out)
              have HNX := Lib.hid fun (h : tbE P C T j = 0) => lt_more (p := fun j => tbE P C T j = 0) HOK.out h
              have HTB := Lib.hid (tbl_any A1 A2 (some ad) n1 n2 n3 c1 c2 c3 P C t wr (HP.out.on (HW.out _ hb)) (HC.out.on (HW.out _ hb)) HPM.out hTA (by omega) (by omega))
              have m0 := HM.out wr hb 0 _ M0.out
              have m1 := HM.out wr hb 1 _ M1.out
              have m2 := HM.out wr hb 2 _ M2.out
              rw [← HTE.out] at HTB
              generalize tbE P C T j = z at HWT HNX HTB
              obtain ⟨A, n, c, ll⟩ := t
              dsimp only at d0 HTB
              clear c0 ck hx hTA HTE HOK
              go_wp2_with fail
              refine HTB.out.mono ?_
              rintro e w5 ⟨rfl, hb5⟩
              have HB6 := Lib.hid (hb.trans (hb5.mono hb.size))
              clear hb5 d0 m0 m1 m2 HTB
              by_cases hz : z = 0
              · have hzd : (z != 0) = false := by rw [hz]; rfl
                have HN := Lib.hid (HNX.out hz)
                clear HNX HWT
                subst hz
                go_wp2_with fail
                go_roundw
                case rel => exact ⟨j + 1, by omega, by go_num, HN.out, HB6.out⟩
                case measure => simp [intOf]; omega
              · have hzd : (z != 0) = true := bne_iff_ne.2 hz
                have hv := HWT.out hz
                injection hv with hv1 hv2
                subst hv1 hv2
                clear HNX HWT WT3 WOK3
                go_wp2_with fail
                go_ret2
                exact Ans.mk rfl (HW.out _ HB6.out)
            · have hge : n3 ≤ j := by omega
              have hv := WOK3.out fun k hk => HOK.out k (by omega)
              injection hv with hv1 hv2
              subst hv1 hv2
              clear WT3 WOK3 HOK
              go_wp2_with fail
              go_ret2
              exact Ans.mk rfl (HW.out _ hb)
set_option maxRecDepth 100000 in
theorem cfright_any (A1 A2 A3 : Option Addr) (n1 n2 n3 c1 c2 c3 : Nat) (P : List Pq) (C : List ChV) (T : List NdT) (w : World) (hP : RdB pcq w w.heap.size A1 n1 P) (hC : RdB cc w w.heap.size A2 n2 C) (hT : RdB tcn w w.heap.size A3 n3 T)
    (hp : ∀ x ∈ P, PtAx w w.heap.size x) (ht : ∀ t ∈ T, NdAt w w.heap.size t) (hk : n1 ≤ c1) :
    Calls Tryz.prog 28 #[.agg #[.slice A1 n1 c1, .slice A2 n2 c2, .slice A3 n3 c3]] w (Ans (.int .i64 (whereF P C T).1) w) := by
  have hb0 := bl1 w (.cells #[.slice A1 n1 c1, .slice A2 n2 c2, .slice A3 n3 c3] 27)
  have HW := Lib.hid (cwhere_any A1 A2 A3 n1 n2 n3 c1 c2 c3 P C T _ (hP.on hb0) (hC.on hb0) (hT.on hb0) (fun x hx => (hp x hx).on hb0) (fun t ht' => (ht t ht').on hb0) hk)
  clear hP hC hT hp ht
  go_enter Tryz.func28, Tryz.ntmps28
  go_wp2_with fail
  refine HW.out.mono ?_
  rintro e w5 ⟨rfl, hb5⟩
  go_wp2_with fail
  go_ret
  exact Ans.mk rfl (hb0.trans (hb5.mono hb0.size))
end Go.Proofs.YtebcfiifaclniaaGreat

/- Rows of items, folded step by step: what stays, what gets less, how deep they grow; periods of a row: plain mathematics. -/
namespace Go.Proofs.YtebcfiifaclniaaGreat
namespace Tab

/-- The leaf of a run. -/
def leafN (r : Rn) : Nd := if r.p = -1 then ⟨2, 0, (r.n : Int)⟩ else ⟨1, r.p, (r.n : Int)⟩
/-- A row of runs as items. -/
def itemsF : List Rn → F
  | [] => .nil
  | r :: s => .cons (leafN r) .nil (itemsF s)
theorem leafN_one (r : Rn) (s : List Rn) : one (leafN r) s = [r] := by
  unfold leafN one whose
  split
  · rename_i h
    simp
    rw [← h]
  · simp
theorem itemsF_lvs (L : List Rn) : (itemsF L).lvs = L := by
  induction L with
  | nil => rfl
  | cons r s ih => simp only [itemsF, F.lvs, leafN_one, ih]; rfl
theorem itemsF_cnt (L : List Rn) : (itemsF L).cnt = L.length := by
  induction L with
  | nil => rfl
  | cons r s ih => simp only [itemsF, F.cnt, ih, List.length_cons]
theorem itemsF_sz (L : List Rn) : (itemsF L).sz = L.length := by
  induction L with
  | nil => rfl
  | cons r s ih => simp only [itemsF, F.sz, ih, List.length_cons]; omega
theorem leafN_kn (r : Rn) : kn (leafN r) = 0 := by
  unfold leafN kn
  split <;> simp
theorem leafN_fine {r : Rn} (h : 1 ≤ r.n ∧ -1 ≤ r.p ∧ r.p ≤ 5) : fine (leafN r) = true := by
  unfold leafN fine
  split <;> simp <;> omega
theorem itemsF_ok {L : List Rn} (h : ∀ r ∈ L, 1 ≤ r.n ∧ -1 ≤ r.p ∧ r.p ≤ 5) : (itemsF L).ok := by
  induction L with
  | nil => trivial
  | cons r s ih => exact ⟨leafN_fine (h r (by simp)), by rw [leafN_kn]; rfl, trivial, ih fun q hq => h q (by simp [hq])⟩
theorem itemsF_append (a b : List Rn) : itemsF (a ++ b) = (itemsF a).app (itemsF b) := by
  induction a with
  | nil => rfl
  | cons x a ih => simp only [List.cons_append, itemsF, F.app, ih]

theorem app_lvs (f g : F) : (f.app g).lvs = f.lvs ++ g.lvs := by
  induction f with
  | nil => rfl
  | cons x k r _ hr => simp only [F.app, F.lvs, hr, List.append_assoc]
theorem app_assoc (f g h : F) : (f.app g).app h = f.app (g.app h) := by
  induction f with
  | nil => rfl
  | cons x k r _ hr => simp only [F.app, hr]
theorem app_nil (f : F) : f.app .nil = f := by
  induction f with
  | nil => rfl
  | cons x k r _ hr => simp only [F.app, hr]
theorem app_ok_iff (f g : F) : (f.app g).ok ↔ f.ok ∧ g.ok := by
  induction f with
  | nil => simp [F.app, F.ok]
  | cons x k r _ hr => simp only [F.app, F.ok, hr]; exact ⟨fun ⟨a, b, c, d, e⟩ => ⟨⟨a, b, c, d⟩, e⟩, fun ⟨⟨a, b, c, d⟩, e⟩ => ⟨a, b, c, d, e⟩⟩
/-- Items as one table. -/
def wrapF (g : F) : F := if g.cnt = 1 then g else .cons ⟨3, 0, (g.cnt : Int)⟩ g .nil
theorem wrapF_cnt (g : F) : (wrapF g).cnt = 1 := by
  unfold wrapF
  split
  · assumption
  · rfl
theorem wrapF_lvs (g : F) : (wrapF g).lvs = g.lvs := by
  unfold wrapF
  split
  · rfl
  · simp only [F.lvs, List.append_nil]
    exact lvs_seq rfl _
theorem wrapF_ok {g : F} (h : g.ok) (h1 : 1 ≤ g.cnt) (h2 : g.cnt ≤ 128) : (wrapF g).ok := by
  unfold wrapF
  split
  · exact h
  · refine ⟨?_, by simp [kn], h, trivial⟩
    unfold fine
    simp
    omega
theorem wrapF_sz (g : F) : (wrapF g).sz = g.sz + if g.cnt = 1 then 0 else 1 := by
  unfold wrapF
  split
  · rfl
  · simp only [F.sz]; omega
theorem wrapF_dep (g : F) : (wrapF g).dep ≤ g.dep + 1 ∧ (g.cnt = 1 → (wrapF g).dep = g.dep) := by
  unfold wrapF
  split
  · exact ⟨by omega, fun _ => rfl⟩
  · rename_i h
    exact ⟨by simp only [F.dep]; omega, fun h' => absurd h' h⟩
/-- A table of items is one tree. -/
theorem wrapF_tree (g : F) : ∃ x k, wrapF g = .cons x k .nil := by
  have h := wrapF_cnt g
  cases hw : wrapF g with
  | nil => rw [hw] at h; simp [F.cnt] at h
  | cons x k r =>
    rw [hw] at h
    simp only [F.cnt] at h
    have : r = .nil := F.cnt_zero (by omega)
    exact ⟨x, k, by rw [this]⟩
/-- So many times the same items. -/
def timesF : Nat → F → F
  | 0, _ => .nil
  | n + 1, g => g.app (timesF n g)
theorem timesF_lvs (n : Nat) (g : F) : (timesF n g).lvs = reps n g.lvs := by
  induction n with
  | zero => rfl
  | succ n ih => simp only [timesF, app_lvs, ih]; rfl
theorem timesF_cnt (n : Nat) (g : F) : (timesF n g).cnt = n * g.cnt := by
  induction n with
  | zero => simp [timesF, F.cnt]
  | succ n ih => simp only [timesF, F.app_cnt, ih, Nat.succ_mul]; omega
theorem timesF_sz (n : Nat) (g : F) : (timesF n g).sz = n * g.sz := by
  induction n with
  | zero => simp [timesF, F.sz]
  | succ n ih => simp only [timesF, F.app_sz, ih, Nat.succ_mul]; omega
/-- One item for so many times the same ones. -/
def foldF (n : Nat) (g : F) : F := .cons ⟨4, 0, (n : Int)⟩ (wrapF g) .nil
theorem foldF_lvs (n : Nat) (g : F) : (foldF n g).lvs = reps n g.lvs := by
  unfold foldF
  simp only [F.lvs, List.append_nil, wrapF_lvs]
  rw [lvs_rep rfl]
  rfl
theorem foldF_ok {n : Nat} {g : F} (h : g.ok) (h1 : 1 ≤ g.cnt) (h2 : g.cnt ≤ 128) (hn : 1 ≤ n) : (foldF n g).ok := by
  refine ⟨?_, by rw [wrapF_cnt]; rfl, wrapF_ok h h1 h2, trivial⟩
  unfold fine
  simp
  omega
theorem foldF_sz (n : Nat) (g : F) : (foldF n g).sz = 1 + g.sz + if g.cnt = 1 then 0 else 1 := by
  simp only [foldF, F.sz, wrapF_sz]
  omega
/-- How many leaves a tree has, and how deep it may be then. -/
def wide : F → Prop
  | .nil => True
  | .cons x k r => 2 ^ k.dep ≤ (one x k.lvs).length * (one x k.lvs).length ∧ wide r
theorem wide_app (f g : F) : wide (f.app g) ↔ wide f ∧ wide g := by
  induction f with
  | nil => simp [F.app, wide]
  | cons x k r _ hr => simp only [F.app, wide, hr, and_assoc]
theorem wide_items (L : List Rn) : wide (itemsF L) := by
  induction L with
  | nil => trivial
  | cons r s ih => exact ⟨by rw [leafN_one]; simp [F.dep], ih⟩
theorem sq_le {a b : Nat} (h : a ≤ b) : a * a ≤ b * b := Nat.mul_le_mul h h
theorem wide_dep {f : F} (h : wide f) (hc : 1 ≤ f.cnt) : 2 ^ f.dep ≤ 2 * (f.lvs.length * f.lvs.length) ∧ 1 ≤ f.lvs.length := by
  induction f with
  | nil => simp [F.cnt] at hc
  | cons x k r _ hr =>
    obtain ⟨h1, h2⟩ := h
    have h3 : 1 ≤ 2 ^ k.dep := Nat.one_le_two_pow
    have h4 : 1 ≤ (one x k.lvs).length := by
      rcases Nat.eq_zero_or_pos (one x k.lvs).length with e | e
      · rw [e] at h1; omega
      · exact e
    have e : (F.cons x k r).lvs.length = (one x k.lvs).length + r.lvs.length := by simp [F.lvs]
    rw [e]
    refine ⟨?_, by omega⟩
    have h5 := sq_le (show (one x k.lvs).length ≤ (one x k.lvs).length + r.lvs.length by omega)
    have h6 : 2 ^ (k.dep + 1) ≤ 2 * (((one x k.lvs).length + r.lvs.length) * ((one x k.lvs).length + r.lvs.length)) := by
      rw [Nat.pow_succ, Nat.mul_comm]
      omega
    simp only [F.dep]
    by_cases hm : r.dep ≤ k.dep + 1
    · rw [Nat.max_eq_left hm]
      exact h6
    · rw [Nat.max_eq_right (by omega)]
      have hc2 : 1 ≤ r.cnt := by
        rcases Nat.eq_zero_or_pos r.cnt with e | e
        · rw [F.cnt_zero e] at hm; simp [F.dep] at hm
        · exact e
      have h7 := (hr h2 hc2).1
      have h8 := sq_le (show r.lvs.length ≤ (one x k.lvs).length + r.lvs.length by omega)
      omega
theorem reps_length (n : Nat) (s : List Rn) : (reps n s).length = n * s.length := by
  induction n with
  | zero => simp [reps]
  | succ n ih => simp only [reps, List.length_append, ih, Nat.succ_mul]; omega
theorem wide_fold {n : Nat} {g : F} (h : wide g) (hn : 2 ≤ n) (hc : 1 ≤ g.cnt) : wide (foldF n g) := by
  refine ⟨?_, trivial⟩
  have e : (one ⟨4, 0, (n : Int)⟩ (wrapF g).lvs).length = n * g.lvs.length := by
    rw [wrapF_lvs, lvs_rep rfl, reps_length]
    rfl
  rw [e]
  obtain ⟨h1, h2⟩ := wide_dep h hc
  have h3 := (wrapF_dep g).1
  have h4 : 2 ^ (wrapF g).dep ≤ 2 ^ (g.dep + 1) := Nat.pow_le_pow_right (by omega) h3
  have h5 := sq_le (Nat.mul_le_mul_right g.lvs.length hn)
  have h6 : 2 * g.lvs.length * (2 * g.lvs.length) = 4 * (g.lvs.length * g.lvs.length) := by
    rw [Nat.mul_assoc, Nat.mul_left_comm g.lvs.length 2, ← Nat.mul_assoc]
  rw [Nat.pow_succ] at h4
  omega
/-- Items, of which so many times the same are one. -/
structure Folds (f f' : F) : Prop where
  ex : ∃ (a g b : F) (n : Nat), f = a.app ((timesF n g).app b) ∧ f' = a.app ((foldF n g).app b) ∧ 2 ≤ n ∧ 1 ≤ g.cnt ∧ (if g.cnt = 1 then 1 else 2) < g.sz * (n - 1)
theorem Folds.lvs {f f' : F} (h : Folds f f') : f'.lvs = f.lvs := by
  obtain ⟨a, g, b, n, rfl, rfl, _⟩ := h.ex
  simp only [app_lvs, foldF_lvs, timesF_lvs]
theorem Folds.cnt {f f' : F} (h : Folds f f') : f'.cnt < f.cnt ∧ 1 ≤ f'.cnt := by
  obtain ⟨a, g, b, n, rfl, rfl, hn, hc, _⟩ := h.ex
  simp only [F.app_cnt, timesF_cnt]
  have e : (foldF n g).cnt = 1 := rfl
  have : 2 * 1 ≤ n * g.cnt := Nat.mul_le_mul hn hc
  omega
theorem Folds.sz {f f' : F} (h : Folds f f') : f'.sz + 1 ≤ f.sz := by
  obtain ⟨a, g, b, n, rfl, rfl, hn, hc, hs⟩ := h.ex
  simp only [F.app_sz, timesF_sz, foldF_sz]
  obtain ⟨j, rfl⟩ : ∃ j, n = j + 1 := ⟨n - 1, by omega⟩
  rw [Nat.succ_mul]
  rw [Nat.add_sub_cancel, Nat.mul_comm] at hs
  split at hs
  · rename_i h1
    rw [if_pos h1]
    omega
  · rename_i h1
    rw [if_neg h1]
    omega
theorem Folds.ok {f f' : F} (h : Folds f f') (hok : f.ok) (hc : f.cnt ≤ 128) : f'.ok := by
  obtain ⟨a, g, b, n, rfl, rfl, hn, hg, hs⟩ := h.ex
  rw [app_ok_iff, app_ok_iff] at hok ⊢
  obtain ⟨j, rfl⟩ : ∃ j, n = j + 1 := ⟨n - 1, by omega⟩
  simp only [timesF, app_ok_iff] at hok
  simp only [F.app_cnt, timesF] at hc
  exact ⟨hok.1, foldF_ok hok.2.1.1 hg (by omega) (by omega), hok.2.2⟩
theorem Folds.wide {f f' : F} (h : Folds f f') (hw : Tab.wide f) : Tab.wide f' := by
  obtain ⟨a, g, b, n, rfl, rfl, hn, hg, hs⟩ := h.ex
  rw [wide_app, wide_app] at hw ⊢
  obtain ⟨j, rfl⟩ : ∃ j, n = j + 1 := ⟨n - 1, by omega⟩
  simp only [timesF, wide_app] at hw
  exact ⟨hw.1, wide_fold hw.2.1.1 hn hg, hw.2.2⟩
/-- Items out of a row, folded as often as it may be. -/
structure Items (L : List Rn) (f : F) : Prop where
  lvs : f.lvs = L
  ok : f.ok
  cnt : 1 ≤ f.cnt ∧ f.cnt ≤ L.length
  wide : Tab.wide f
  sz : f = itemsF L ∨ f.sz + 1 ≤ L.length
theorem Items.start {L : List Rn} (h : ∀ r ∈ L, 1 ≤ r.n ∧ -1 ≤ r.p ∧ r.p ≤ 5) (h1 : 1 ≤ L.length) : Items L (itemsF L) :=
  ⟨itemsF_lvs L, itemsF_ok h, by rw [itemsF_cnt]; exact ⟨h1, Nat.le_refl _⟩, wide_items L, .inl rfl⟩
theorem Items.step {L : List Rn} {f f' : F} (h : Items L f) (hL : L.length ≤ 128) (hf : Folds f f') : Items L f' := by
  have h1 := hf.cnt
  have h2 := h.cnt
  refine ⟨hf.lvs.trans h.lvs, hf.ok h.ok (by omega), ⟨h1.2, by omega⟩, hf.wide h.wide, .inr ?_⟩
  have h3 := hf.sz
  rcases h.sz with e | e
  · rw [e, itemsF_sz] at h3
    omega
  · omega
/-- How many nodes a row takes, laid out plainly. -/
theorem plain_sz (L : List Rn) : (wrapF (itemsF L)).sz = L.length + if L.length = 1 then 0 else 1 := by rw [wrapF_sz, itemsF_sz, itemsF_cnt]
/-- What a row folds into: a table that may be. -/
theorem Items.table {L : List Rn} {f : F} (h : Items L f) (hL : L.length ≤ 96) : ∃ x k, wrapF f = .cons x k .nil ∧ (F.cons x k .nil).ok ∧ one x k.lvs = L ∧ k.dep + 1 ≤ 16 ∧ F.tick x k.len = ticks L ∧ k.sz + 1 ≤ (wrapF (itemsF L)).sz ∧ k.sz + 1 ≤ L.length + 1 := by
  obtain ⟨x, k, e⟩ := wrapF_tree f
  have hc := h.cnt
  have hok : (F.cons x k .nil).ok := by rw [← e]; exact wrapF_ok h.ok hc.1 (by omega)
  have hl : one x k.lvs = L := by
    have := wrapF_lvs f
    rw [e, h.lvs] at this
    simpa [F.lvs] using this
  have hd : k.dep + 1 ≤ 16 := by
    have h1 := (wide_dep h.wide hc.1).1
    rw [h.lvs] at h1
    have h2 := sq_le hL
    have h3 : f.dep < 15 := by
      rcases Nat.lt_or_ge f.dep 15 with h | h
      · exact h
      · have := Nat.pow_le_pow_right (show 0 < 2 by omega) h
        have h4 : 2 ^ 15 = 32768 := by decide
        omega
    have h4 := (wrapF_dep f).1
    rw [e] at h4
    simp only [F.dep] at h4
    omega
  have hs : (wrapF f).sz ≤ (wrapF (itemsF L)).sz := by
    rcases h.sz with e | h1
    · rw [e]; exact Nat.le_refl _
    · rw [wrapF_sz, plain_sz]
      split <;> split <;> omega
  have hp := plain_sz L
  rw [e] at hs
  simp only [F.sz] at hs
  refine ⟨x, k, e, hok, hl, hd, by rw [← hl, one_ticks, lvs_ticks], by omega, ?_⟩
  split at hp <;> omega

theorem tidy_of_apart {L : List Rn} (h : Apart L) : tidy L = L := by
  have := tidyOn_stays L [] (by simpa using h)
  simpa [tidy] using this
/-- A row is its first p, again and again. -/
def Per (L : List Rn) (p : Nat) : Prop := 1 ≤ p ∧ L.length % p = 0 ∧ ∀ i, p ≤ i → i < L.length → L[i]? = L[i - p]?
theorem Per.mod {L : List Rn} {p : Nat} (h : Per L p) (i : Nat) (hi : i < L.length) : L[i]? = L[i % p]? := by
  induction i using Nat.strongRecOn with
  | ind i ih =>
    by_cases hp : p ≤ i
    · rw [h.2.2 i hp hi, ih (i - p) (by have := h.1; omega) (by omega), Nat.mod_eq_sub_mod hp]
    · rw [Nat.mod_eq_of_lt (by omega)]
theorem reps_get (n : Nat) (s : List Rn) (i : Nat) (hi : i < n * s.length) : (reps n s)[i]? = s[i % s.length]? := by
  induction n generalizing i with
  | zero => simp at hi
  | succ n ih =>
    simp only [reps]
    rw [Nat.succ_mul] at hi
    by_cases h : i < s.length
    · rw [List.getElem?_append_left h, Nat.mod_eq_of_lt h]
    · rw [List.getElem?_append_right (by omega), ih _ (by omega), ← Nat.mod_eq_sub_mod (by omega)]
theorem per_reps {L : List Rn} {p : Nat} (n : Nat) (h : Per L p) : Per (reps n L) p := by
  refine ⟨h.1, by rw [reps_length, Nat.mul_mod, h.2.1]; simp, fun i hp hi => ?_⟩
  rw [reps_length] at hi
  have hd : p ∣ L.length := Nat.dvd_of_mod_eq_zero h.2.1
  have hpos : 0 < L.length := by
    rcases Nat.eq_zero_or_pos L.length with e | e
    · rw [e] at hi; simp at hi
    · exact e
  rw [reps_get _ _ _ hi, reps_get _ _ _ (by omega), h.mod _ (Nat.mod_lt _ hpos), h.mod _ (Nat.mod_lt _ hpos), Nat.mod_mod_of_dvd _ hd, Nat.mod_mod_of_dvd _ hd, Nat.mod_eq_sub_mod hp]
theorem per_self {L : List Rn} (h : 1 ≤ L.length) : Per L L.length := ⟨h, Nat.mod_self _, fun i h1 h2 => by omega⟩
/-- Rows without two side by side of one, one behind the other. -/
theorem Apart.tail {r : Rn} {l : List Rn} (h : Apart (r :: l)) : Apart l := by
  cases l with
  | nil => trivial
  | cons q s => exact h.2.2
theorem Apart.append {a b : List Rn} (ha : Apart a) (hb : Apart b) (h : ∀ y x, a.getLast? = some y → b.head? = some x → y.p ≠ x.p) : Apart (a ++ b) := by
  induction a with
  | nil => exact hb
  | cons r a ih =>
    cases a with
    | nil =>
      cases b with
      | nil => simpa using ha
      | cons x s => exact ⟨ha, h r x rfl rfl, hb⟩
    | cons q s => exact ⟨ha.1, ha.2.1, ih ha.tail fun y x hy hx => h y x (by simpa [List.getLast?_cons_cons] using hy) hx⟩
theorem apart_reps {l : List Rn} (n : Nat) (h : Apart l) (hne : ∀ y x, l.getLast? = some y → l.head? = some x → y.p ≠ x.p) : Apart (reps n l) := by
  induction n with
  | zero => trivial
  | succ n ih =>
    refine h.append ih fun y x hy hx => ?_
    cases n with
    | zero => simp [reps] at hx
    | succ n =>
      cases l with
      | nil => simp at hy
      | cons z s => exact hne y x hy (by simpa [reps] using hx)
end Tab
end Go.Proofs.YtebcfiifaclniaaGreat
