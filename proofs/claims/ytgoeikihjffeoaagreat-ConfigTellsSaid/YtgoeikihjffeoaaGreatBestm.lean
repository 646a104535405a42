/- The fold that saves most, as the program looks for it: plain mathematics. -/
import Derived.Test.YtgoeikihjffeoaaGreatFold
import Derived.Test.YtgoeikihjffeoaaGreatSamem
namespace Go.Proofs.YtgoeikihjffeoaaGreat
namespace Tab

abbrev Itr := List (List Nd)
/-- How many nodes. -/
def szI : Itr → Nat
  | [] => 0
  | x :: I => x.length + szI I
theorem szI_append (I J : Itr) : szI (I ++ J) = szI I + szI J := by
  induction I with
  | nil => simp [szI]
  | cons x I ih => simp only [List.cons_append, szI, ih]; omega
theorem szI_take (I : Itr) (k : Nat) : szI (I.take k) ≤ szI I := by
  have h := szI_append (I.take k) (I.drop k)
  rw [List.take_append_drop] at h
  omega
theorem szI_drop (I : Itr) (k : Nat) : szI (I.drop k) ≤ szI I := by
  have h := szI_append (I.take k) (I.drop k)
  rw [List.take_append_drop] at h
  omega
theorem szI_more {I : Itr} {i : Nat} {x : List Nd} (h : I[i]? = some x) : szI (I.take (i + 1)) = szI (I.take i) + x.length := by
  obtain ⟨hi, e⟩ := List.getElem?_eq_some_iff.1 h
  rw [List.take_succ_eq_append_getElem hi, szI_append, e]
  simp [szI]
theorem szI_mem {I : Itr} {i : Nat} {x : List Nd} (h : I[i]? = some x) : x.length ≤ szI I := by
  have h1 := szI_more h
  have h2 := szI_take I (i + 1)
  omega
/-- How many nodes fewer. -/
def savI (I : Itr) (n : Nat) : Int := if n < 2 then 0 else ((szI I * (n - 1) : Nat) : Int) - 1 - (if 1 < I.length then 1 else 0)
def sameAt (I : Itr) (i j : Nat) : Bool := match I[i]?, I[j]? with
  | some a, some b => sameN a b
  | _, _ => false
theorem sameAt_eq {I : Itr} {i j : Nat} {a b : List Nd} (ha : I[i]? = some a) (hb : I[j]? = some b) : sameAt I i j = sameN a b := by
  unfold sameAt
  rw [ha, hb]
theorem sameAt_iff {I : Itr} {i j : Nat} (h : sameAt I i j = true) : I[i]? = I[j]? ∧ j < I.length := by
  unfold sameAt at h
  split at h
  · rename_i a b ha hb
    rw [sameN_iff] at h
    rw [ha, hb, h]
    exact ⟨rfl, (List.getElem?_eq_some_iff.1 hb).1⟩
  · cases h
/-- Back, as long as the item ahead is the same as the one p behind it. -/
def backI (I : Itr) (p : Nat) : Nat → Nat
  | 0 => 0
  | k + 1 => if sameAt I k (k + p) = true then backI I p k else k + 1
def fwdI (I : Itr) (p : Nat) : Nat → Nat → Nat
  | 0, to => to
  | f + 1, to => if to + p < I.length ∧ sameAt I to (to + p) = true then fwdI I p f (to + 1) else to
theorem backI_le (I : Itr) (p k : Nat) : backI I p k ≤ k := by
  induction k with
  | zero => simp [backI]
  | succ k ih => simp only [backI]; split <;> omega
theorem backI_same (I : Itr) (p k : Nat) : ∀ i, backI I p k ≤ i → i < k → sameAt I i (i + p) = true := by
  induction k with
  | zero => intro i _ h; omega
  | succ k ih =>
    intro i h1 h2
    simp only [backI] at h1
    split at h1
    · rename_i h
      rcases Nat.lt_or_ge i k with h3 | h3
      · exact ih i h1 h3
      · rw [show i = k by omega]
        exact h
    · omega
theorem fwdI_ge (I : Itr) (p f to : Nat) : to ≤ fwdI I p f to := by
  induction f generalizing to with
  | zero => simp [fwdI]
  | succ f ih => simp only [fwdI]; split; have := ih (to + 1); omega; omega
theorem fwdI_le (I : Itr) (p f to : Nat) (h : to + p ≤ I.length) : fwdI I p f to + p ≤ I.length := by
  induction f generalizing to with
  | zero => simpa [fwdI] using h
  | succ f ih => simp only [fwdI]; split; exact ih (to + 1) (by omega); exact h
theorem fwdI_same (I : Itr) (p f to : Nat) : ∀ i, to ≤ i → i < fwdI I p f to → sameAt I i (i + p) = true := by
  induction f generalizing to with
  | zero => intro i h1 h2; simp only [fwdI] at h2; omega
  | succ f ih =>
    intro i h1 h2
    simp only [fwdI] at h2
    split at h2
    · rename_i h
      rcases Nat.lt_or_ge to i with h3 | h3
      · exact ih (to + 1) i (by omega) h2
      · rw [show i = to by omega]
        exact h.2
    · omega
/-- The best so far: how much is saved, from where, how many, how often. -/
structure Bst where
  most : Int
  at_ : Nat
  p : Nat
  n : Nat
def oftenI (I : Itr) (q place : Nat) : Nat := (fwdI I q I.length place - backI I q place) / q + 1
def savedI (I : Itr) (q place : Nat) : Int := savI ((I.drop (backI I q place)).take q) (oftenI I q place)
def pickI (I : Itr) (q place : Nat) (s : Bst) : Bst :=
  if s.most < savedI I q place ∨ (savedI I q place = s.most ∧ backI I q place < s.at_) then ⟨savedI I q place, backI I q place, q, oftenI I q place⟩ else s
def innerI (I : Itr) (q : Nat) : Nat → Nat → Bst → Bst
  | 0, _, s => s
  | f + 1, place, s => if place + q < I.length then innerI I q f (fwdI I q I.length place + q) (pickI I q place s) else s
def outerI (I : Itr) : Nat → Nat → Bst → Bst
  | 0, _, s => s
  | f + 1, q, s => if 2 * q ≤ I.length ∧ s.most < (szI I : Int) - q then outerI I f (q + 1) (innerI I q I.length (q - 1) s) else s
def bestI (I : Itr) : Bst := outerI I I.length 1 ⟨0, 0, 0, 0⟩
/-- What may be folded so. -/
structure Good (I : Itr) (s : Bst) : Prop where
  n : 2 ≤ s.n
  p : 1 ≤ s.p
  le : s.at_ + s.p * s.n ≤ I.length
  same : ∀ i, s.at_ ≤ i → i + s.p < s.at_ + s.p * s.n → I[i]? = I[i + s.p]?
  most : s.most = savI ((I.drop s.at_).take s.p) s.n
  pos : 0 < s.most
def Fit (I : Itr) (s : Bst) : Prop := s = ⟨0, 0, 0, 0⟩ ∨ Good I s
theorem Fit.most {I : Itr} {s : Bst} (h : Fit I s) : 0 ≤ s.most := by
  rcases h with rfl | h
  · exact Int.le_refl _
  · have := h.pos; omega
theorem savI_pos {I : Itr} {n : Nat} (h : 0 < savI I n) : 2 ≤ n := by
  unfold savI at h
  split at h <;> omega
theorem pickI_fit {I : Itr} {q place : Nat} {s : Bst} (hq : 1 ≤ q) (hp : place + q < I.length) (h : Fit I s) : Fit I (pickI I q place s) := by
  unfold pickI
  split
  · rename_i hc
    have h0 := h.most
    have hs : 0 < savedI I q place := by
      rcases hc with hc | ⟨hc, hlt⟩
      · omega
      · rcases h with rfl | h
        · simp at hlt
        · have := h.pos; omega
    have hb := backI_le I q place
    have hf := fwdI_ge I q I.length place
    have hl := fwdI_le I q I.length place (by omega)
    have hd := Nat.div_mul_le_self (fwdI I q I.length place - backI I q place) q
    have e : q * oftenI I q place = (fwdI I q I.length place - backI I q place) / q * q + q := by
      unfold oftenI
      rw [Nat.mul_add, Nat.mul_comm, Nat.mul_one]
    refine .inr ⟨savI_pos hs, hq, ?_, fun i h1 h2 => ?_, rfl, hs⟩
    · dsimp only
      omega
    · dsimp only at h1 h2 ⊢
      have : sameAt I i (i + q) = true := by
        rcases Nat.lt_or_ge i place with h3 | h3
        · exact backI_same I q place i h1 h3
        · exact fwdI_same I q I.length place i h3 (by omega)
      exact (sameAt_iff this).1
  · exact h
theorem innerI_fit {I : Itr} {q : Nat} (hq : 1 ≤ q) (f place : Nat) (s : Bst) (h : Fit I s) : Fit I (innerI I q f place s) := by
  induction f generalizing place s with
  | zero => exact h
  | succ f ih =>
    simp only [innerI]
    split
    · rename_i hc
      exact ih _ _ (pickI_fit hq hc h)
    · exact h
theorem outerI_fit {I : Itr} (f q : Nat) (s : Bst) (hq : 1 ≤ q) (h : Fit I s) : Fit I (outerI I f q s) := by
  induction f generalizing q s with
  | zero => exact h
  | succ f ih =>
    simp only [outerI]
    split
    · exact ih _ _ (by omega) (innerI_fit hq _ _ _ h)
    · exact h
theorem bestI_fit (I : Itr) : Fit I (bestI I) := outerI_fit _ _ _ (Nat.le_refl _) (.inl rfl)
theorem bestI_cases (I : Itr) : (bestI I).n = 0 ∧ bestI I = ⟨0, 0, 0, 0⟩ ∨ Good I (bestI I) := by
  rcases bestI_fit I with h | h
  · exact .inl ⟨by rw [h], h⟩
  · exact .inr h

/-- The items of a forest. -/
def parts : F → Itr
  | .nil => []
  | .cons x k r => (x :: k.flat) :: parts r
theorem parts_app (f g : F) : parts (f.app g) = parts f ++ parts g := by
  induction f with
  | nil => rfl
  | cons x k r _ hr => simp only [F.app, parts, hr, List.cons_append]
theorem parts_len (f : F) : (parts f).length = f.cnt := by
  induction f with
  | nil => rfl
  | cons x k r _ hr => simp only [parts, List.length_cons, hr, F.cnt]
theorem parts_sz (f : F) : szI (parts f) = f.sz := by
  induction f with
  | nil => rfl
  | cons x k r _ hr => simp only [parts, szI, List.length_cons, F.flat_length, hr, F.sz]; omega
theorem parts_flat (f : F) : (parts f).flatten = f.flat := by
  induction f with
  | nil => rfl
  | cons x k r _ hr => simp only [parts, List.flatten_cons, hr, F.flat, List.cons_append]
theorem flat_inj (f : F) : ∀ (g : F) (s t : List Nd), f.ok → g.ok → f.cnt = g.cnt → f.flat ++ s = g.flat ++ t → f = g ∧ s = t := by
  induction f with
  | nil =>
    intro g s t _ _ hc h
    have : g = .nil := F.cnt_zero hc.symm
    subst this
    exact ⟨rfl, by simpa [F.flat] using h⟩
  | cons x k r hk hr =>
    intro g s t h1 h2 hc h
    cases g with
    | nil => simp [F.cnt] at hc
    | cons y k' r' =>
      simp only [F.flat, List.cons_append, List.append_assoc, List.cons.injEq] at h
      obtain ⟨rfl, h3⟩ := h
      obtain ⟨rfl, h4⟩ := hk k' _ _ h1.2.2.1 h2.2.2.1 (by rw [h1.2.1, h2.2.1]) h3
      obtain ⟨rfl, h5⟩ := hr r' _ _ h1.2.2.2 h2.2.2.2 (by simp only [F.cnt] at hc; omega) h4
      exact ⟨rfl, h5⟩
theorem parts_inj (f g : F) (hf : f.ok) (hg : g.ok) (h : parts f = parts g) : f = g := by
  refine (flat_inj f g [] [] hf hg ?_ ?_).1
  · rw [← parts_len, ← parts_len, h]
  · rw [← parts_flat, ← parts_flat, h]
/-- A row that comes again and again is so many times its beginning. -/
theorem times_of (n : Nat) : ∀ (p : Nat) (h : F), h.ok → h.cnt = p * (n + 1) → (∀ i, i + p < p * (n + 1) → (parts h)[i]? = (parts h)[i + p]?) → ∃ g : F, g.ok ∧ g.cnt = p ∧ h = timesF (n + 1) g ∧ ∃ r, h = g.app r := by
  induction n with
  | zero =>
    intro p h hok hc _
    refine ⟨h, hok, by omega, by simp [timesF, app_nil], .nil, (app_nil h).symm⟩
  | succ n ih =>
    intro p h hok hc hs
    have hp : p * (n + 1 + 1) = p * (n + 1) + p := by rw [Nat.mul_succ]
    obtain ⟨a, b, ha, hb, hca, hcb, e⟩ := F.split hok p (by omega)
    have hla := parts_len a
    have hlb := parts_len b
    obtain ⟨g, hg, hcg, e2, r, e3⟩ := ih p b hb (by omega) (fun i hi => by
      have := hs (i + p) (by omega)
      rw [e, parts_app, List.getElem?_append_right (by omega), List.getElem?_append_right (by omega), hla, hca] at this
      rwa [show i + p - p = i by omega, show i + p + p - p = i + p by omega] at this)
    have hag : a = g := by
      refine parts_inj a g ha hg (List.ext_getElem? fun i => ?_)
      have hlg := parts_len g
      by_cases hi : i < p
      · have := hs i (by rw [hp]; have := Nat.le_mul_of_pos_right p (show 0 < n + 1 by omega); omega)
        rw [e, parts_app, List.getElem?_append_left (by omega), List.getElem?_append_right (by omega), hla, hca, show i + p - p = i by omega, e3, parts_app, List.getElem?_append_left (by omega)] at this
        exact this
      · rw [List.getElem?_eq_none (by omega), List.getElem?_eq_none (by omega)]
    subst hag
    exact ⟨a, ha, hca, by rw [e, e2]; rfl, b, e⟩
/-- What the best fold makes of a forest. -/
theorem Good.folds {f : F} {s : Bst} (h : Good (parts f) s) (hok : f.ok) : ∃ (a g b : F), f = a.app ((timesF s.n g).app b) ∧ a.cnt = s.at_ ∧ g.cnt = s.p ∧ g.ok ∧ Folds f (a.app ((foldF s.n g).app b)) := by
  have hlen := parts_len f
  have hle := h.le
  obtain ⟨m, hm⟩ : ∃ m, s.n = m + 2 := ⟨s.n - 2, by have := h.n; omega⟩
  obtain ⟨a, u, ha, hu, hca, hcu, e⟩ := F.split hok s.at_ (by omega)
  obtain ⟨v, b, hv, hb, hcv, hcb, e2⟩ := F.split hu (s.p * s.n) (by omega)
  have hla := parts_len a
  have hlv := parts_len v
  have hget : ∀ j, j < s.p * s.n → (parts f)[s.at_ + j]? = (parts v)[j]? := fun j hj => by
    rw [e, e2, parts_app, parts_app, List.getElem?_append_right (by omega), hla, hca, show s.at_ + j - s.at_ = j by omega, List.getElem?_append_left (by omega)]
  obtain ⟨g, hg, hcg, e3, r, e4⟩ := times_of (m + 1) s.p v hv (by rw [hcv, hm]) (fun i hi => by
    have h1 : s.p * s.n = s.p * (m + 1 + 1) := by rw [hm]
    have h2 := h.same (s.at_ + i) (by omega) (by omega)
    rwa [hget i (by omega), Nat.add_assoc, hget (i + s.p) (by omega)] at h2)
  have hgI : ((parts f).drop s.at_).take s.p = parts g := by
    rw [e, e2, e4, parts_app, parts_app, parts_app, List.drop_append_of_le_length (by omega), List.drop_eq_nil_of_le (by omega), List.nil_append, List.append_assoc, List.take_append_of_le_length (by rw [parts_len, hcg]; omega), List.take_of_length_le (by rw [parts_len, hcg]; omega)]
  have hp := h.pos
  rw [h.most, hgI] at hp
  have hf : f = a.app ((timesF s.n g).app b) := by rw [e, e2, e3, hm]
  refine ⟨a, g, b, hf, hca, hcg, hg, ⟨a, g, b, s.n, hf, rfl, h.n, by have := h.p; omega, ?_⟩⟩
  unfold savI at hp
  rw [if_neg (by omega), parts_sz, parts_len, hcg] at hp
  rw [hcg]
  have h1 := h.p
  split
  · rename_i h2
    rw [if_neg (by omega)] at hp
    omega
  · rw [if_pos (by omega)] at hp
    omega

/-- Items as one row of nodes. -/
def joinI (I : Itr) : List Nd := match I with
  | [x] => x
  | I => ⟨3, 0, (I.length : Int)⟩ :: I.flatten
theorem joinI_one (x : List Nd) : joinI [x] = x := rfl
theorem joinI_more {I : Itr} (h : ¬ I.length = 1) : joinI I = ⟨3, 0, (I.length : Int)⟩ :: I.flatten := by
  unfold joinI
  split
  · simp at h
  · rfl
theorem joinI_parts (f : F) : joinI (parts f) = (wrapF f).flat := by
  unfold wrapF
  split
  · rename_i h
    cases f with
    | nil => simp [F.cnt] at h
    | cons x k r =>
      have hr : r = .nil := F.cnt_zero (by simp only [F.cnt] at h; omega)
      subst hr
      simp [parts, joinI, F.flat]
  · rename_i h
    rw [joinI_more (by rw [parts_len]; exact h), parts_flat, parts_len]
    simp [F.flat]
/-- Folded once. -/
def stepI (I : Itr) (s : Bst) : Itr := I.take s.at_ ++ (((⟨4, 0, (s.n : Int)⟩ : Nd) :: joinI ((I.drop s.at_).take s.p)) :: I.drop (s.at_ + s.p * s.n))
def tabI : Nat → Itr → List Nd
  | 0, I => joinI I
  | f + 1, I => if (bestI I).n = 0 then joinI I else tabI f (stepI I (bestI I))
theorem Good.step {f : F} {s : Bst} (h : Good (parts f) s) (hok : f.ok) : ∃ f', Folds f f' ∧ stepI (parts f) s = parts f' := by
  obtain ⟨a, g, b, e, ha, hg, hgo, hf⟩ := h.folds hok
  refine ⟨_, hf, ?_⟩
  have hla := parts_len a
  have hlg := parts_len g
  obtain ⟨m, hm⟩ : ∃ m, s.n = m + 1 := ⟨s.n - 1, by have := h.n; omega⟩
  have hlt := parts_len (timesF s.n g)
  rw [timesF_cnt, hg] at hlt
  have h1 : (parts f).take s.at_ = parts a := by
    rw [e, parts_app, List.take_append_of_le_length (by omega), List.take_of_length_le (by omega)]
  have h2 : ((parts f).drop s.at_).take s.p = parts g := by
    rw [e, parts_app, List.drop_append_of_le_length (by omega), List.drop_eq_nil_of_le (by omega), List.nil_append, hm]
    simp only [timesF, parts_app, List.append_assoc]
    rw [List.take_append_of_le_length (by omega), List.take_of_length_le (by omega)]
  have h3 : (parts f).drop (s.at_ + s.p * s.n) = parts b := by
    have hc : s.p * s.n = s.n * s.p := Nat.mul_comm _ _
    rw [e, parts_app, parts_app, ← List.append_assoc, List.drop_append_of_le_length (by rw [List.length_append]; omega), List.drop_eq_nil_of_le (by rw [List.length_append]; omega), List.nil_append]
  unfold stepI
  rw [h1, h2, h3, parts_app, parts_app, joinI_parts]
  simp only [foldF, parts, List.cons_append, List.nil_append]
/-- What is folded to the end. -/
theorem tab_items {L : List Rn} (hL : L.length ≤ 128) (n : Nat) : ∀ f : F, Items L f → ∃ f', Items L f' ∧ tabI n (parts f) = (wrapF f').flat := by
  induction n with
  | zero => intro f h; exact ⟨f, h, joinI_parts f⟩
  | succ n ih =>
    intro f h
    simp only [tabI]
    split
    · exact ⟨f, h, joinI_parts f⟩
    · rename_i hn
      rcases bestI_cases (parts f) with ⟨h0, _⟩ | hg
      · exact absurd h0 hn
      · obtain ⟨f', hf, e⟩ := hg.step h.ok
        rw [e]
        exact ih f' (h.step hL hf)
end Tab
end Go.Proofs.YtgoeikihjffeoaaGreat
