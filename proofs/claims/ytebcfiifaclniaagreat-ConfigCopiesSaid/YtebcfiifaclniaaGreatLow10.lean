/- Contracts and mathematics that the texts behind it stand on: Samem, Bestm, Samb, Yd, Ye, Zf, Yf. -/
import Derived.Test.YtebcfiifaclniaaGreatLow2
import Derived.Test.YtebcfiifaclniaaGreatLow9
import Derived.Test.YtebcfiifaclniaaGreatLow4
import Derived.Laws.StructEq
import Derived.BigQuiet
import Derived.Test.YtebcfiifaclniaaGreatLow8
import Derived.Laws.MakeOwn
import Derived.Laws.OwnMore
import Derived.Deep.RegionWith
/- Rows that are the same, or not: plain mathematics. -/
namespace Go.Proofs.YtebcfiifaclniaaGreat
namespace Tab

def ndEq (x y : Nd) : Bool := decide (x.k = y.k) && decide (x.p = y.p) && decide (x.n = y.n)
theorem ndEq_iff (x y : Nd) : ndEq x y = true ↔ x = y := by
  obtain ⟨a, b, c⟩ := x
  obtain ⟨d, e, f⟩ := y
  unfold ndEq
  simp [Nd.mk.injEq, and_assoc]
def sameN : List Nd → List Nd → Bool
  | [], [] => true
  | x :: a, y :: b => ndEq x y && sameN a b
  | _, _ => false
theorem sameN_iff (a b : List Nd) : sameN a b = true ↔ a = b := by
  induction a generalizing b with
  | nil => cases b <;> simp [sameN]
  | cons x a ih =>
    cases b with
    | nil => simp [sameN]
    | cons y b => simp only [sameN, Bool.and_eq_true, ndEq_iff, ih, List.cons.injEq]
theorem sameN_len {a b : List Nd} (h : ¬ a.length = b.length) : sameN a b = false := by
  cases hs : sameN a b with
  | false => rfl
  | true => rw [sameN_iff] at hs; rw [hs] at h; exact absurd rfl h
def rnEq (x y : Rn) : Bool := decide (x.p = y.p) && decide (x.n = y.n)
theorem rnEq_iff (x y : Rn) : rnEq x y = true ↔ x = y := by
  obtain ⟨a, b⟩ := x
  obtain ⟨d, e⟩ := y
  unfold rnEq
  simp [Rn.mk.injEq]
def sameR : List Rn → List Rn → Bool
  | [], [] => true
  | x :: a, y :: b => rnEq x y && sameR a b
  | _, _ => false
theorem sameR_iff (a b : List Rn) : sameR a b = true ↔ a = b := by
  induction a generalizing b with
  | nil => cases b <;> simp [sameR]
  | cons x a ih =>
    cases b with
    | nil => simp [sameR]
    | cons y b => simp only [sameR, Bool.and_eq_true, rnEq_iff, ih, List.cons.injEq]
theorem sameR_len {a b : List Rn} (h : ¬ a.length = b.length) : sameR a b = false := by
  cases hs : sameR a b with
  | false => rfl
  | true => rw [sameR_iff] at hs; rw [hs] at h; exact absurd rfl h
theorem drop_rn {l : List Rn} {i : Nat} {x : Rn} (h : l[i]? = some x) : l.drop i = x :: l.drop (i + 1) := by
  obtain ⟨hi, e⟩ := List.getElem?_eq_some_iff.1 h
  rw [List.drop_eq_getElem_cons hi, e]
end Tab
end Go.Proofs.YtebcfiifaclniaaGreat

/- The fold that saves most, as the program looks for it: plain mathematics. -/
namespace Go.Proofs.YtebcfiifaclniaaGreat
namespace Tab

abbrev Itr := List (List Nd)
/-- How many nodes. -/
def szI : Itr → Nat
  | [] => 0
  | x :: I => x.length + szI I
theorem szI_append (I J : Itr) : szI (I ++ J) = szI I + szI J := by
  induction I with
  | nil => simp [szI]
  | cons x I ih => simp only [List.cons_append, szI, ih]; omega
theorem szI_take (I : Itr) (k : Nat) : szI (I.take k) ≤ szI I := by
  have h := szI_append (I.take k) (I.drop k)
  rw [List.take_append_drop] at h
  omega
theorem szI_drop (I : Itr) (k : Nat) : szI (I.drop k) ≤ szI I := by
  have h := szI_append (I.take k) (I.drop k)
  rw [List.take_append_drop] at h
  omega
theorem szI_more {I : Itr} {i : Nat} {x : List Nd} (h : I[i]? = some x) : szI (I.take (i + 1)) = szI (I.take i) + x.length := by
  obtain ⟨hi, e⟩ := List.getElem?_eq_some_iff.1 h
  rw [List.take_succ_eq_append_getElem hi, szI_append, e]
  simp [szI]
theorem szI_mem {I : Itr} {i : Nat} {x : List Nd} (h : I[i]? = some x) : x.length ≤ szI I := by
  have h1 := szI_more h
  have h2 := szI_take I (i + 1)
  omega
/-- How many nodes fewer. -/
def savI (I : Itr) (n : Nat) : Int := if n < 2 then 0 else ((szI I * (n - 1) : Nat) : Int) - 1 - (if 1 < I.length then 1 else 0)
def sameAt (I : Itr) (i j : Nat) : Bool := match I[i]?, I[j]? with
  | some a, some b => sameN a b
  | _, _ => false
theorem sameAt_eq {I : Itr} {i j : Nat} {a b : List Nd} (ha : I[i]? = some a) (hb : I[j]? = some b) : sameAt I i j = sameN a b := by
  unfold sameAt
  rw [ha, hb]
theorem sameAt_iff {I : Itr} {i j : Nat} (h : sameAt I i j = true) : I[i]? = I[j]? ∧ j < I.length := by
  unfold sameAt at h
  split at h
  · rename_i a b ha hb
    rw [sameN_iff] at h
    rw [ha, hb, h]
    exact ⟨rfl, (List.getElem?_eq_some_iff.1 hb).1⟩
  · cases h
/-- Back, as long as the item ahead is the same as the one p behind it. -/
def backI (I : Itr) (p : Nat) : Nat → Nat
  | 0 => 0
  | k + 1 => if sameAt I k (k + p) = true then backI I p k else k + 1
def fwdI (I : Itr) (p : Nat) : Nat → Nat → Nat
  | 0, tq => tq
  | f + 1, tq => if tq + p < I.length ∧ sameAt I tq (tq + p) = true then fwdI I p f (tq + 1) else tq
theorem backI_le (I : Itr) (p k : Nat) : backI I p k ≤ k := by
  induction k with
  | zero => simp [backI]
  | succ k ih => simp only [backI]; split <;> omega
theorem backI_same (I : Itr) (p k : Nat) : ∀ i, backI I p k ≤ i → i < k → sameAt I i (i + p) = true := by
  induction k with
  | zero => intro i _ h; omega
  | succ k ih =>
    intro i h1 h2
    simp only [backI] at h1
    split at h1
    · rename_i h
      rcases Nat.lt_or_ge i k with h3 | h3
      · exact ih i h1 h3
      · rw [show i = k by omega]
        exact h
    · omega
theorem fwdI_ge (I : Itr) (p f tq : Nat) : tq ≤ fwdI I p f tq := by
  induction f generalizing tq with
  | zero => simp [fwdI]
  | succ f ih => simp only [fwdI]; split; have := ih (tq + 1); omega; omega
theorem fwdI_le (I : Itr) (p f tq : Nat) (h : tq + p ≤ I.length) : fwdI I p f tq + p ≤ I.length := by
  induction f generalizing tq with
  | zero => simpa [fwdI] using h
  | succ f ih => simp only [fwdI]; split; exact ih (tq + 1) (by omega); exact h
theorem fwdI_same (I : Itr) (p f tq : Nat) : ∀ i, tq ≤ i → i < fwdI I p f tq → sameAt I i (i + p) = true := by
  induction f generalizing tq with
  | zero => intro i h1 h2; simp only [fwdI] at h2; omega
  | succ f ih =>
    intro i h1 h2
    simp only [fwdI] at h2
    split at h2
    · rename_i h
      rcases Nat.lt_or_ge tq i with h3 | h3
      · exact ih (tq + 1) i (by omega) h2
      · rw [show i = tq by omega]
        exact h.2
    · omega
/-- The best so far: how much is saved, from where, how many, how often. -/
structure Bst where
  most : Int
  at_ : Nat
  p : Nat
  n : Nat
def oftenI (I : Itr) (q place : Nat) : Nat := (fwdI I q I.length place - backI I q place) / q + 1
def savedI (I : Itr) (q place : Nat) : Int := savI ((I.drop (backI I q place)).take q) (oftenI I q place)
def pickI (I : Itr) (q place : Nat) (s : Bst) : Bst :=
  if s.most < savedI I q place ∨ (savedI I q place = s.most ∧ backI I q place < s.at_) then ⟨savedI I q place, backI I q place, q, oftenI I q place⟩ else s
def innerI (I : Itr) (q : Nat) : Nat → Nat → Bst → Bst
  | 0, _, s => s
  | f + 1, place, s => if place + q < I.length then innerI I q f (fwdI I q I.length place + q) (pickI I q place s) else s
def outerI (I : Itr) : Nat → Nat → Bst → Bst
  | 0, _, s => s
  | f + 1, q, s => if 2 * q ≤ I.length ∧ s.most < (szI I : Int) - q then outerI I f (q + 1) (innerI I q I.length (q - 1) s) else s
def bestI (I : Itr) : Bst := outerI I I.length 1 ⟨0, 0, 0, 0⟩
/-- What may be folded so. -/
structure Good (I : Itr) (s : Bst) : Prop where
  n : 2 ≤ s.n
  p : 1 ≤ s.p
  le : s.at_ + s.p * s.n ≤ I.length
  same : ∀ i, s.at_ ≤ i → i + s.p < s.at_ + s.p * s.n → I[i]? = I[i + s.p]?
  most : s.most = savI ((I.drop s.at_).take s.p) s.n
  pos : 0 < s.most
def Fit (I : Itr) (s : Bst) : Prop := s = ⟨0, 0, 0, 0⟩ ∨ Good I s
theorem Fit.most {I : Itr} {s : Bst} (h : Fit I s) : 0 ≤ s.most := by
  rcases h with rfl | h
  · exact Int.le_refl _
  · have := h.pos; omega
theorem savI_pos {I : Itr} {n : Nat} (h : 0 < savI I n) : 2 ≤ n := by
  unfold savI at h
  split at h <;> omega
theorem pickI_fit {I : Itr} {q place : Nat} {s : Bst} (hq : 1 ≤ q) (hp : place + q < I.length) (h : Fit I s) : Fit I (pickI I q place s) := by
  unfold pickI
  split
  · rename_i hc
    have h0 := h.most
    have hs : 0 < savedI I q place := by
      rcases hc with hc | ⟨hc, hlt⟩
      · omega
      · rcases h with rfl | h
        · simp at hlt
        · have := h.pos; omega
    have hb := backI_le I q place
    have hf := fwdI_ge I q I.length place
    have hl := fwdI_le I q I.length place (by omega)
    have hd := Nat.div_mul_le_self (fwdI I q I.length place - backI I q place) q
    have e : q * oftenI I q place = (fwdI I q I.length place - backI I q place) / q * q + q := by
      unfold oftenI
      rw [Nat.mul_add, Nat.mul_comm, Nat.mul_one]
    refine .inr ⟨savI_pos hs, hq, ?_, fun i h1 h2 => ?_, rfl, hs⟩
    · dsimp only
      omega
    · dsimp only at h1 h2 ⊢
      have : sameAt I i (i + q) = true := by
        rcases Nat.lt_or_ge i place with h3 | h3
        · exact backI_same I q place i h1 h3
        · exact fwdI_same I q I.length place i h3 (by omega)
      exact (sameAt_iff this).1
  · exact h
theorem innerI_fit {I : Itr} {q : Nat} (hq : 1 ≤ q) (f place : Nat) (s : Bst) (h : Fit I s) : Fit I (innerI I q f place s) := by
  induction f generalizing place s with
  | zero => exact h
  | succ f ih =>
    simp only [innerI]
    split
    · rename_i hc
      exact ih _ _ (pickI_fit hq hc h)
    · exact h
theorem outerI_fit {I : Itr} (f q : Nat) (s : Bst) (hq : 1 ≤ q) (h : Fit I s) : Fit I (outerI I f q s) := by
  induction f generalizing q s with
  | zero => exact h
  | succ f ih =>
    simp only [outerI]
    split
    · exact ih _ _ (by omega) (innerI_fit hq _ _ _ h)
    · exact h
theorem bestI_fit (I : Itr) : Fit I (bestI I) := outerI_fit _ _ _ (Nat.le_refl _) (.inl rfl)
theorem bestI_cases (I : Itr) : (bestI I).n = 0 ∧ bestI I = ⟨0, 0, 0, 0⟩ ∨ Good I (bestI I) := by
  rcases bestI_fit I with h | h
  · exact .inl ⟨by rw [h], h⟩
  · exact .inr h

/-- The items of a forest. -/
def parts : F → Itr
  | .nil => []
  | .cons x k r => (x :: k.flat) :: parts r
theorem parts_app (f g : F) : parts (f.app g) = parts f ++ parts g := by
  induction f with
  | nil => rfl
  | cons x k r _ hr => simp only [F.app, parts, hr, List.cons_append]
theorem parts_len (f : F) : (parts f).length = f.cnt := by
  induction f with
  | nil => rfl
  | cons x k r _ hr => simp only [parts, List.length_cons, hr, F.cnt]
theorem parts_sz (f : F) : szI (parts f) = f.sz := by
  induction f with
  | nil => rfl
  | cons x k r _ hr => simp only [parts, szI, List.length_cons, F.flat_length, hr, F.sz]; omega
theorem parts_flat (f : F) : (parts f).flatten = f.flat := by
  induction f with
  | nil => rfl
  | cons x k r _ hr => simp only [parts, List.flatten_cons, hr, F.flat, List.cons_append]
theorem flat_inj (f : F) : ∀ (g : F) (s t : List Nd), f.ok → g.ok → f.cnt = g.cnt → f.flat ++ s = g.flat ++ t → f = g ∧ s = t := by
  induction f with
  | nil =>
    intro g s t _ _ hc h
    have : g = .nil := F.cnt_zero hc.symm
    subst this
    exact ⟨rfl, by simpa [F.flat] using h⟩
  | cons x k r hk hr =>
    intro g s t h1 h2 hc h
    cases g with
    | nil => simp [F.cnt] at hc
    | cons y k' r' =>
      simp only [F.flat, List.cons_append, List.append_assoc, List.cons.injEq] at h
      obtain ⟨rfl, h3⟩ := h
      obtain ⟨rfl, h4⟩ := hk k' _ _ h1.2.2.1 h2.2.2.1 (by rw [h1.2.1, h2.2.1]) h3
      obtain ⟨rfl, h5⟩ := hr r' _ _ h1.2.2.2 h2.2.2.2 (by simp only [F.cnt] at hc; omega) h4
      exact ⟨rfl, h5⟩
theorem parts_inj (f g : F) (hf : f.ok) (hg : g.ok) (h : parts f = parts g) : f = g := by
  refine (flat_inj f g [] [] hf hg ?_ ?_).1
  · rw [← parts_len, ← parts_len, h]
  · rw [← parts_flat, ← parts_flat, h]
/-- A row that comes again and again is so many times its beginning. -/
theorem times_of (n : Nat) : ∀ (p : Nat) (h : F), h.ok → h.cnt = p * (n + 1) → (∀ i, i + p < p * (n + 1) → (parts h)[i]? = (parts h)[i + p]?) → ∃ g : F, g.ok ∧ g.cnt = p ∧ h = timesF (n + 1) g ∧ ∃ r, h = g.app r := by
  induction n with
  | zero =>
    intro p h hok hc _
    refine ⟨h, hok, by omega, by simp [timesF, app_nil], .nil, (app_nil h).symm⟩
  | succ n ih =>
    intro p h hok hc hs
    have hp : p * (n + 1 + 1) = p * (n + 1) + p := by rw [Nat.mul_succ]
    obtain ⟨a, b, ha, hb, hca, hcb, e⟩ := F.split hok p (by omega)
    have hla := parts_len a
    have hlb := parts_len b
    obtain ⟨g, hg, hcg, e2, r, e3⟩ := ih p b hb (by omega) (fun i hi => by
      have := hs (i + p) (by omega)
      rw [e, parts_app, List.getElem?_append_right (by omega), List.getElem?_append_right (by omega), hla, hca] at this
      rwa [show i + p - p = i by omega, show i + p + p - p = i + p by omega] at this)
    have hag : a = g := by
      refine parts_inj a g ha hg (List.ext_getElem? fun i => ?_)
      have hlg := parts_len g
      by_cases hi : i < p
      · have := hs i (by rw [hp]; have := Nat.le_mul_of_pos_right p (show 0 < n + 1 by omega); omega)
        rw [e, parts_app, List.getElem?_append_left (by omega), List.getElem?_append_right (by omega), hla, hca, show i + p - p = i by omega, e3, parts_app, List.getElem?_append_left (by omega)] at this
        exact this
      · rw [List.getElem?_eq_none (by omega), List.getElem?_eq_none (by omega)]
    subst hag
    exact ⟨a, ha, hca, by rw [e, e2]; rfl, b, e⟩
/-- What the best fold makes of a forest. -/
theorem Good.folds {f : F} {s : Bst} (h : Good (parts f) s) (hok : f.ok) : ∃ (a g b : F), f = a.app ((timesF s.n g).app b) ∧ a.cnt = s.at_ ∧ g.cnt = s.p ∧ g.ok ∧ Folds f (a.app ((foldF s.n g).app b)) := by
  have hlen := parts_len f
  have hle := h.le
  obtain ⟨m, hm⟩ : ∃ m, s.n = m + 2 := ⟨s.n - 2, by have := h.n; omega⟩
  obtain ⟨a, u, ha, hu, hca, hcu, e⟩ := F.split hok s.at_ (by omega)
  obtain ⟨v, b, hv, hb, hcv, hcb, e2⟩ := F.split hu (s.p * s.n) (by omega)
  have hla := parts_len a
  have hlv := parts_len v
  have hget : ∀ j, j < s.p * s.n → (parts f)[s.at_ + j]? = (parts v)[j]? := fun j hj => by
    rw [e, e2, parts_app, parts_app, List.getElem?_append_right (by omega), hla, hca, show s.at_ + j - s.at_ = j by omega, List.getElem?_append_left (by omega)]
  obtain ⟨g, hg, hcg, e3, r, e4⟩ := times_of (m + 1) s.p v hv (by rw [hcv, hm]) (fun i hi => by
    have h1 : s.p * s.n = s.p * (m + 1 + 1) := by rw [hm]
    have h2 := h.same (s.at_ + i) (by omega) (by omega)
    rwa [hget i (by omega), Nat.add_assoc, hget (i + s.p) (by omega)] at h2)
  have hgI : ((parts f).drop s.at_).take s.p = parts g := by
    rw [e, e2, e4, parts_app, parts_app, parts_app, List.drop_append_of_le_length (by omega), List.drop_eq_nil_of_le (by omega), List.nil_append, List.append_assoc, List.take_append_of_le_length (by rw [parts_len, hcg]; omega), List.take_of_length_le (by rw [parts_len, hcg]; omega)]
  have hp := h.pos
  rw [h.most, hgI] at hp
  have hf : f = a.app ((timesF s.n g).app b) := by rw [e, e2, e3, hm]
  refine ⟨a, g, b, hf, hca, hcg, hg, ⟨a, g, b, s.n, hf, rfl, h.n, by have := h.p; omega, ?_⟩⟩
  unfold savI at hp
  rw [if_neg (by omega), parts_sz, parts_len, hcg] at hp
  rw [hcg]
  have h1 := h.p
  split
  · rename_i h2
    rw [if_neg (by omega)] at hp
    omega
  · rw [if_pos (by omega)] at hp
    omega

/-- Items as one row of nodes. -/
def joinI (I : Itr) : List Nd := match I with
  | [x] => x
  | I => ⟨3, 0, (I.length : Int)⟩ :: I.flatten
theorem joinI_one (x : List Nd) : joinI [x] = x := rfl
theorem joinI_more {I : Itr} (h : ¬ I.length = 1) : joinI I = ⟨3, 0, (I.length : Int)⟩ :: I.flatten := by
  unfold joinI
  split
  · simp at h
  · rfl
theorem joinI_parts (f : F) : joinI (parts f) = (wrapF f).flat := by
  unfold wrapF
  split
  · rename_i h
    cases f with
    | nil => simp [F.cnt] at h
    | cons x k r =>
      have hr : r = .nil := F.cnt_zero (by simp only [F.cnt] at h; omega)
      subst hr
      simp [parts, joinI, F.flat]
  · rename_i h
    rw [joinI_more (by rw [parts_len]; exact h), parts_flat, parts_len]
    simp [F.flat]
/-- Folded once. -/
def stepI (I : Itr) (s : Bst) : Itr := I.take s.at_ ++ (((⟨4, 0, (s.n : Int)⟩ : Nd) :: joinI ((I.drop s.at_).take s.p)) :: I.drop (s.at_ + s.p * s.n))
def tabI : Nat → Itr → List Nd
  | 0, I => joinI I
  | f + 1, I => if (bestI I).n = 0 then joinI I else tabI f (stepI I (bestI I))
theorem Good.step {f : F} {s : Bst} (h : Good (parts f) s) (hok : f.ok) : ∃ f', Folds f f' ∧ stepI (parts f) s = parts f' := by
  obtain ⟨a, g, b, e, ha, hg, hgo, hf⟩ := h.folds hok
  refine ⟨_, hf, ?_⟩
  have hla := parts_len a
  have hlg := parts_len g
  obtain ⟨m, hm⟩ : ∃ m, s.n = m + 1 := ⟨s.n - 1, by have := h.n; omega⟩
  have hlt := parts_len (timesF s.n g)
  rw [timesF_cnt, hg] at hlt
  have h1 : (parts f).take s.at_ = parts a := by
    rw [e, parts_app, List.take_append_of_le_length (by omega), List.take_of_length_le (by omega)]
  have h2 : ((parts f).drop s.at_).take s.p = parts g := by
    rw [e, parts_app, List.drop_append_of_le_length (by omega), List.drop_eq_nil_of_le (by omega), List.nil_append, hm]
    simp only [timesF, parts_app, List.append_assoc]
    rw [List.take_append_of_le_length (by omega), List.take_of_length_le (by omega)]
  have h3 : (parts f).drop (s.at_ + s.p * s.n) = parts b := by
    have hc : s.p * s.n = s.n * s.p := Nat.mul_comm _ _
    rw [e, parts_app, parts_app, ← List.append_assoc, List.drop_append_of_le_length (by rw [List.length_append]; omega), List.drop_eq_nil_of_le (by rw [List.length_append]; omega), List.nil_append]
  unfold stepI
  rw [h1, h2, h3, parts_app, parts_app, joinI_parts]
  simp only [foldF, parts, List.cons_append, List.nil_append]
/-- What is folded to the end. -/
theorem tab_items {L : List Rn} (hL : L.length ≤ 128) (n : Nat) : ∀ f : F, Items L f → ∃ f', Items L f' ∧ tabI n (parts f) = (wrapF f').flat := by
  induction n with
  | zero => intro f h; exact ⟨f, h, joinI_parts f⟩
  | succ n ih =>
    intro f h
    simp only [tabI]
    split
    · exact ⟨f, h, joinI_parts f⟩
    · rename_i hn
      rcases bestI_cases (parts f) with ⟨h0, _⟩ | hg
      · exact absurd h0 hn
      · obtain ⟨f', hf, e⟩ := hg.step h.ok
        rw [e]
        exact ih f' (h.step hL hf)
end Tab
end Go.Proofs.YtebcfiifaclniaaGreat

/- Rows of nodes, of runs, held against each other in memory: a walk that only reads. -/
namespace Go.Proofs.YtebcfiifaclniaaGreat
open Go.RowKit Tab
set_option linter.unusedSimpArgs false
set_option linter.unusedVariables false

/-- It answers v, and turns nothing; it may draw. -/
def Qui (v : Value) (w : World) (e : Ending) (w' : World) : Prop := e = .returned v ∧ ∃ m, w' = w.drewN m
theorem Qui.ans {v : Value} {w w' : World} {e : Ending} (h : Qui v w e w') : Ans v w e w' := by
  obtain ⟨h1, m, rfl⟩ := h
  exact ⟨h1, Below.drewN (Below.refl _ _) m⟩
/-- In a quiet walk behind draws. -/
theorem Qui.sum {P : Program} {f : FuncId} {args : Array Value} {w : World} {q n : Nat} {v : Value} (h : Calls P f args (w.drewN (q + n)) (Qui v (w.drewN (q + n)))) : Calls P f args (w.drewN (q + n)) fun e w'' => e = .returned v ∧ ∃ m, w'' = w.drewN (q + m) :=
  h.mono fun _ _ ⟨he, m, hm⟩ => ⟨he, n + m, by rw [hm, World.drewN_drewN, Nat.add_assoc]⟩
theorem nd_neqs (x y : Nd) (W : World) : (binOp .neq 43 (nd x.k x.p x.n) (nd y.k y.p y.n)).run Tryz.prog W = .ok (.bool (!(ndEq x y))) W := by
  obtain ⟨a, b, c⟩ := x
  obtain ⟨d, e, f⟩ := y
  unfold ndEq
  by_cases h1 : a = d
  · by_cases h2 : b = e
    · by_cases h3 : c = f
      · subst h1; subst h2; subst h3
        simp [run_neq_struct, go_sem]
      · subst h1; subst h2
        simp [run_neq_struct, go_sem, h3]
    · subst h1
      simp [run_neq_struct, go_sem, h2]
  · simp [run_neq_struct, go_sem, h1]
theorem rn_neqs (x y : Rn) (W : World) : (binOp .neq 95 (rv x.p (x.n : Int)) (rv y.p (y.n : Int))).run Tryz.prog W = .ok (.bool (!(rnEq x y))) W := by
  obtain ⟨a, b⟩ := x
  obtain ⟨d, e⟩ := y
  unfold rnEq
  by_cases h1 : a = d
  · by_cases h2 : b = e
    · subst h1; subst h2
      simp [run_neq_struct, go_sem]
    · subst h1
      have h3 : ¬ (b : Int) = (e : Int) := by omega
      simp [run_neq_struct, go_sem, h2, h3]
  · simp [run_neq_struct, go_sem, h1]
set_option maxRecDepth 100000 in
set_option maxHeartbeats 1600000 in
theorem eqn_any (A1 A2 : Option Addr) (n m c1 c2 : Nat) (l1 l2 : List Nd) (w : World) (h1 : RdN w w.heap.size A1 n l1) (h2 : RdN w w.heap.size A2 m l2) (hn : n ≤ 140737488351232) :
    Calls Tryz.prog 39 #[.slice A1 n c1, .slice A2 m c2] w (Qui (.bool (sameN l1 l2)) w) := by
  by_cases hnm : n = m
  · subst hnm
    generalize hb : sameN l1 l2 = b
    have HB := Lib.hid hb
    clear hb
    go_enter Tryz.func39, Tryz.ntmps39
    go_wp2_with fail
    go_loopw [5, 13] (fun _ s wr => ∃ i q : Nat, i ≤ n ∧ s = .int .i64 i ∧ sameN (l1.drop i) (l2.drop i) = b ∧ wr = w.drewN q) (fun _ s _ => n - (intOf s).toNat)
    case atStart => exact ⟨0, 0, by omega, rfl, by simpa using HB.out, rfl⟩
    case round =>
      obtain ⟨i, q, hi, rfl, hs, rfl⟩ := hrel
      have HS := Lib.hid hs
      clear hs
      by_cases hlt : i < n
      · obtain ⟨ad, x, rfl, _, hx, hin, c0, c1', c2'⟩ := h1.at_ hlt
        obtain ⟨ad2, y, rfl, _, hy, hin2, d0, d1, d2⟩ := h2.at_ hlt
        have e1 := drop_cons hx
        have e2 := drop_cons hy
        have hst := HS.out
        rw [e1, e2] at hst
        simp only [sameN] at hst
        have HST := Lib.hid hst
        have hne := fun W => nd_neqs x y W
        obtain ⟨xk, xp, xn⟩ := x
        obtain ⟨yk, yp, yn⟩ := y
        dsimp only at c0 c1' c2' d0 d1 d2 hne
        clear hx hy hin hin2 e1 e2 hst HS
        generalize hE : ndEq ⟨xk, xp, xn⟩ ⟨yk, yp, yn⟩ = E at HST hne
        clear hE
        cases E with
        | true =>
          have hne : ∀ W, (binOp .neq 43 (nd xk xp xn) (nd yk yp yn)).run Tryz.prog W = .ok (.bool false) W := hne
          go_wp2_with fail
          go_quiet (fail)
          go_wp2_with fail
          go_roundw
          case rel => exact ⟨i + 1, q + nq, by omega, by go_num, by simpa using HST.out, rfl⟩
          case measure => simp [intOf]; omega
        | false =>
          have hne : ∀ W, (binOp .neq 43 (nd xk xp xn) (nd yk yp yn)).run Tryz.prog W = .ok (.bool true) W := hne
          go_wp2_with fail
          go_quiet (fail)
          go_wp2_with fail
          go_ret
          exact ⟨by have := HST.out; simp at this; rw [← this]; rfl, q + nq, by rw [World.drewN_drewN]⟩
      · have hge : n ≤ i := by omega
        have e1 : l1.drop i = [] := List.drop_eq_nil_of_le (by rw [h1.len]; exact hge)
        have e2 : l2.drop i = [] := List.drop_eq_nil_of_le (by rw [h2.len]; exact hge)
        have hst := HS.out
        rw [e1, e2] at hst
        have HST := Lib.hid hst
        clear hst HS e1 e2
        go_wp2_with fail
        go_ret
        exact ⟨by rw [← HST.out]; rfl, q, rfl⟩
  · have hb := sameN_len (a := l1) (b := l2) (by rw [h1.len, h2.len]; exact hnm)
    rw [hb]
    have h3 : ((n : Int) == (m : Int)) = false := beq_eq_false_iff_ne.2 (by omega)
    have h4 : ((n : Int) != (m : Int)) = true := by rw [bne, h3]; rfl
    clear hb h1 h2
    go_enter Tryz.func39, Tryz.ntmps39
    go_wp2_with fail
    go_ret
    exact ⟨rfl, 0, rfl⟩
set_option maxHeartbeats 400000 in
theorem nsame_any (A1 A2 : Option Addr) (n m c1 c2 : Nat) (l1 l2 : List Nd) (w : World) (h1 : RdN w w.heap.size A1 n l1) (h2 : RdN w w.heap.size A2 m l2) (hn : n ≤ 140737488351232) :
    Calls Tryz.prog 22 #[.slice A1 n c1, .slice A2 m c2] w (Qui (.bool (sameN l1 l2)) w) := by
  have H := Lib.hid (eqn_any A1 A2 n m c1 c2 l1 l2 w h1 h2 hn)
  clear h1 h2
  generalize sameN l1 l2 = b at H ⊢
  go_enter Tryz.func22, Tryz.ntmps22
  go_wp2_with fail
  refine H.out.mono ?_
  rintro e w1 ⟨rfl, q, rfl⟩
  go_wp2_with fail
  go_ret
  exact ⟨rfl, q, rfl⟩
end Go.Proofs.YtebcfiifaclniaaGreat

/- Whether partitions are the same: by the document's own answer, exactly. -/
namespace Go.Proofs.YtebcfiifaclniaaGreat
open Go.RowKit Tab
set_option linter.unusedSimpArgs false
set_option linter.unusedVariables false

def heq5 (a0 a1 a2 a3 a4 b0 b1 b2 b3 b4 : Int) : Bool := decide (a0 = b0 ∧ a1 = b1 ∧ a2 = b2 ∧ a3 = b3 ∧ a4 = b4)
set_option maxRecDepth 100000 in
set_option maxHeartbeats 2000000 in
theorem arr5_eq (a0 a1 a2 a3 a4 b0 b1 b2 b3 b4 : Int) (W : World) : (Op.equalIn 10000 37 (.agg #[.int .i64 a0, .int .i64 a1, .int .i64 a2, .int .i64 a3, .int .i64 a4]) (.agg #[.int .i64 b0, .int .i64 b1, .int .i64 b2, .int .i64 b3, .int .i64 b4])).run Tryz.prog W =
    .ok (heq5 a0 a1 a2 a3 a4 b0 b1 b2 b3 b4) W := by
  have u3 := Tryz.underlying3
  have a3' := Tryz.isAgg3
  have z3 := Tryz.sizeOf3
  rw [show (10000 : Nat) = 9999 + 1 from rfl, Op.equalIn]
  simp only [Sem.run_bind, run_underlying Tryz.underlying37, Result.andThen_ok]
  simp only [Std.Legacy.Range.forIn_eq_forIn_range', Std.Legacy.Range.size, Nat.sub_zero, Nat.add_sub_cancel, Nat.div_one, List.range'_succ, List.range'_zero, List.forIn_cons, List.forIn_nil]
  unfold heq5
  go_simp
  by_cases h0 : a0 = b0
  · by_cases h1 : a1 = b1
    · by_cases h2 : a2 = b2
      · by_cases h3 : a3 = b3
        · by_cases h4 : a4 = b4 <;> simp [h0, h1, h2, h3, h4]
        · simp [h0, h1, h2, h3]
      · simp [h0, h1, h2]
    · simp [h0, h1]
  · simp [h0]
theorem arr5_neq (a0 a1 a2 a3 a4 b0 b1 b2 b3 b4 : Int) (W : World) : (binOp .neq 37 (.agg #[.int .i64 a0, .int .i64 a1, .int .i64 a2, .int .i64 a3, .int .i64 a4]) (.agg #[.int .i64 b0, .int .i64 b1, .int .i64 b2, .int .i64 b3, .int .i64 b4])).run Tryz.prog W =
    .ok (.bool (!(heq5 a0 a1 a2 a3 a4 b0 b1 b2 b3 b4))) W := by
  rw [run_neq_struct, arr5_eq]
  rfl
theorem pc_neqs (a b c d : Int) (W : World) : (binOp .neq 41 (.agg #[.int .i64 a, .int .i64 b]) (.agg #[.int .i64 c, .int .i64 d])).run Tryz.prog W = .ok (.bool (!(decide ((a, b) = (c, d))))) W := by
  by_cases h1 : a = c
  · by_cases h2 : b = d
    · subst h1; subst h2
      simp [run_neq_struct, go_sem]
    · subst h1
      simp [run_neq_struct, go_sem, h2]
  · simp [run_neq_struct, go_sem, h1]
/-- The same partition, whatever holds its processes. -/
def SameP (x y : Pq) : Prop := x.1.name = y.1.name ∧ x.1.bud = y.1.bud ∧ x.1.per = y.1.per ∧ x.1.sched = y.1.sched ∧ x.1.stop = y.1.stop ∧ (x.1.h0 = y.1.h0 ∧ x.1.h1 = y.1.h1 ∧ x.1.h2 = y.1.h2 ∧ x.1.h3 = y.1.h3 ∧ x.1.h4 = y.1.h4) ∧ x.2 = y.2
instance (x y : Pq) : Decidable (SameP x y) := by unfold SameP; infer_instance
end Go.Proofs.YtebcfiifaclniaaGreat

/- Whether configurations are the same: by the document's own answer, exactly. -/
namespace Go.Proofs.YtebcfiifaclniaaGreat
open Go.RowKit Tab
set_option linter.unusedSimpArgs false
set_option linter.unusedVariables false

/-- A channel's content. -/
def chT (x : ChV) : Int × Int × Bool × Int × Int × Int := (x.from_, x.to_, x.queue, x.cap, x.max, x.late)
theorem chT_inj {x y : ChV} (h : chT x = chT y) : x = y := by
  obtain ⟨a, b, c, d, e, f⟩ := x
  obtain ⟨a2, b2, c2, d2, e2, f2⟩ := y
  unfold chT at h
  simp at h
  obtain ⟨rfl, rfl, rfl, rfl, rfl, rfl⟩ := h
  rfl
instance : DecidableEq ChV := fun x y => if h : chT x = chT y then isTrue (chT_inj h) else isFalse fun e => h (by rw [e])
set_option maxHeartbeats 2000000 in
theorem ch_neqs (x y : ChV) (W : World) : (binOp .neq 47 (cv x) (cv y)).run Tryz.prog W = .ok (.bool (!(decide (x = y)))) W := by
  obtain ⟨a, b, c, d, e, f⟩ := x
  obtain ⟨a2, b2, c2, d2, e2, f2⟩ := y
  by_cases h1 : a = a2
  · by_cases h2 : b = b2
    · by_cases h3 : c = c2
      · by_cases h4 : d = d2
        · by_cases h5 : e = e2
          · by_cases h6 : f = f2
            · subst h1; subst h2; subst h3; subst h4; subst h5; subst h6
              simp [run_neq_struct, go_sem]
            · subst h1; subst h2; subst h3; subst h4; subst h5
              simp [run_neq_struct, go_sem, h6]
          · subst h1; subst h2; subst h3; subst h4
            simp [run_neq_struct, go_sem, h5]
        · subst h1; subst h2; subst h3
          simp [run_neq_struct, go_sem, h4]
      · subst h1; subst h2
        simp [run_neq_struct, go_sem, h3]
    · subst h1
      simp [run_neq_struct, go_sem, h2]
  · simp [run_neq_struct, go_sem, h1]
/-- The same, but for the tables. -/
def SameB (P : List Pq) (C : List ChV) (P' : List Pq) (C' : List ChV) : Prop := P.length = P'.length ∧ (∀ (i : Nat) (x y : Pq), P[i]? = some x → P'[i]? = some y → SameP x y) ∧ C = C'
def SameC (P : List Pq) (C : List ChV) (T : List NdT) (P' : List Pq) (C' : List ChV) (T' : List NdT) : Prop := SameB P C P' C' ∧ T.length = T'.length ∧ (∀ (i : Nat) (x y : NdT), T[i]? = some x → T'[i]? = some y → sameN x.l y.l = true)
open Classical in
noncomputable def butF (P : List Pq) (C : List ChV) (P' : List Pq) (C' : List ChV) : Bool := decide (SameB P C P' C')
open Classical in
noncomputable def sameF (P : List Pq) (C : List ChV) (T : List NdT) (P' : List Pq) (C' : List ChV) (T' : List NdT) : Bool := decide (SameC P C T P' C' T')
theorem butF_yes {P : List Pq} {C : List ChV} {P' : List Pq} {C' : List ChV} (h : SameB P C P' C') : butF P C P' C' = true := by unfold butF; classical exact decide_eq_true h
theorem butF_no {P : List Pq} {C : List ChV} {P' : List Pq} {C' : List ChV} (h : ¬ SameB P C P' C') : butF P C P' C' = false := by unfold butF; classical exact decide_eq_false h
theorem sameF_yes {P : List Pq} {C : List ChV} {T : List NdT} {P' : List Pq} {C' : List ChV} {T' : List NdT} (h : SameC P C T P' C' T') : sameF P C T P' C' T' = true := by unfold sameF; classical exact decide_eq_true h
theorem sameF_no {P : List Pq} {C : List ChV} {T : List NdT} {P' : List Pq} {C' : List ChV} {T' : List NdT} (h : ¬ SameC P C T P' C' T') : sameF P C T P' C' T' = false := by unfold sameF; classical exact decide_eq_false h
end Go.Proofs.YtebcfiifaclniaaGreat

/- Package config: whether two configurations are the same. -/
namespace Go.Proofs.YtebcfiifaclniaaGreat
open Go.RowKit Tab
set_option linter.unusedSimpArgs false
set_option linter.unusedVariables false

theorem bool_eqs (a b : Bool) : (a == b) = decide (a = b) := by cases a <;> cases b <;> rfl
theorem arr5_eql (a0 a1 a2 a3 a4 b0 b1 b2 b3 b4 : Int) (W : World) : (binOp .eql 37 (.agg #[.int .i64 a0, .int .i64 a1, .int .i64 a2, .int .i64 a3, .int .i64 a4]) (.agg #[.int .i64 b0, .int .i64 b1, .int .i64 b2, .int .i64 b3, .int .i64 b4])).run Tryz.prog W =
    .ok (.bool (heq5 a0 a1 a2 a3 a4 b0 b1 b2 b3 b4)) W := by
  rw [run_eql_struct, arr5_eq]
  rfl
set_option maxRecDepth 100000 in
set_option maxHeartbeats 1600000 in
theorem eqpc_any (A1 A2 : Option Addr) (n m c1 c2 : Nat) (l1 l2 : List (Int × Int)) (w : World) (h1 : RdB prc w w.heap.size A1 n l1) (h2 : RdB prc w w.heap.size A2 m l2) (hn : n ≤ 140737488351232) :
    Calls Tryz.prog 38 #[.slice A1 n c1, .slice A2 m c2] w (Qui (.bool (decide (l1 = l2))) w) := by
  have HNO : Hid (¬ l1 = l2 → decide (l1 = l2) = false) := Lib.hid fun h => decide_eq_false h
  have HYES : Hid (l1 = l2 → decide (l1 = l2) = true) := Lib.hid fun h => decide_eq_true h
  generalize decide (l1 = l2) = v at HNO HYES ⊢
  by_cases hnm : n = m
  · subst hnm
    go_enter Tryz.func38, Tryz.ntmps38
    go_wp2_with fail
    go_loopw [5, 13] (fun _ s wr => ∃ i q : Nat, i ≤ n ∧ s = .int .i64 i ∧ (∀ k, k < i → l1[k]? = l2[k]?) ∧ wr = w.drewN q) (fun _ s _ => n - (intOf s).toNat)
    case atStart => exact ⟨0, 0, by omega, rfl, fun k hk => by omega, rfl⟩
    case round =>
      obtain ⟨i, q, hi, rfl, hok, rfl⟩ := hrel
      have HOK := Lib.hid hok
      clear hok
      by_cases hlt : i < n
      · obtain ⟨ad, x, rfl, _, hx, c0, ck⟩ := h1.at_ prc_len (by omega) hlt
        obtain ⟨ad2, y, rfl, _, hy, e0, ek⟩ := h2.at_ prc_len (by omega) hlt
        have c1 := ck 1 _ (by omega) rfl
        have e1 := ek 1 _ (by omega) rfl
        have c0 := c0 _ rfl
        have f0 := e0 _ rfl
        clear e0
        obtain ⟨e, p⟩ := x
        obtain ⟨e2, p2⟩ := y
        dsimp only at c0 f0 c1 e1
        have hne := fun W => pc_neqs e p e2 p2 W
        by_cases hE : (e, p) = (e2, p2)
        · rw [decide_eq_true hE] at hne
          have hne : ∀ W, (binOp .neq 41 (.agg #[.int .i64 e, .int .i64 p]) (.agg #[.int .i64 e2, .int .i64 p2])).run Tryz.prog W = .ok (.bool false) W := hne
          have HNX : Hid (∀ k, k < i + 1 → l1[k]? = l2[k]?) := Lib.hid (lt_more (p := fun k => l1[k]? = l2[k]?) HOK.out (by rw [hx, hy, hE]))
          clear hE hx hy ck ek HOK HNO HYES
          go_wp2_with fail
          go_quiet (fail)
          go_wp2_with fail
          go_roundw
          case rel => exact ⟨i + 1, q + nq, by omega, by go_num, HNX.out, rfl⟩
          case measure => simp [intOf]; omega
        · rw [decide_eq_false hE] at hne
          have hne : ∀ W, (binOp .neq 41 (.agg #[.int .i64 e, .int .i64 p]) (.agg #[.int .i64 e2, .int .i64 p2])).run Tryz.prog W = .ok (.bool true) W := hne
          have HV := Lib.hid (HNO.out fun h => hE (by rw [h, hy] at hx; injection hx with hx; exact hx.symm))
          clear hE hx hy ck ek HOK HNO HYES
          go_wp2_with fail
          go_quiet (fail)
          go_wp2_with fail
          go_ret
          exact ⟨by rw [HV.out]; rfl, q + nq, by rw [World.drewN_drewN]⟩
      · have hge : n ≤ i := by omega
        have HV := Lib.hid (HYES.out (List.ext_getElem? fun k => by
          rcases Nat.lt_or_ge k i with h5 | h5
          · exact HOK.out k h5
          · rw [List.getElem?_eq_none (by rw [h1.len]; omega), List.getElem?_eq_none (by rw [h2.len]; omega)]))
        clear HOK HNO HYES
        go_wp2_with fail
        go_ret
        exact ⟨by rw [HV.out]; rfl, q, rfl⟩
  · have HV := Lib.hid (HNO.out fun h => hnm (by rw [← h1.len, ← h2.len, h]))
    have h4 : ((n : Int) != (m : Int)) = true := bne_iff_ne.2 (by omega)
    clear HNO HYES h1 h2 hnm
    go_enter Tryz.func38, Tryz.ntmps38
    go_wp2_with fail
    go_ret
    exact ⟨by rw [HV.out]; rfl, 0, rfl⟩
set_option maxRecDepth 100000 in
set_option maxHeartbeats 1600000 in
theorem eqch_any (A1 A2 : Option Addr) (n m c1 c2 : Nat) (l1 l2 : List ChV) (w : World) (h1 : RdB cc w w.heap.size A1 n l1) (h2 : RdB cc w w.heap.size A2 m l2) (hn : n ≤ 140737488351232) :
    Calls Tryz.prog 20 #[.slice A1 n c1, .slice A2 m c2] w (Qui (.bool (decide (l1 = l2))) w) := by
  have HNO : Hid (¬ l1 = l2 → decide (l1 = l2) = false) := Lib.hid fun h => decide_eq_false h
  have HYES : Hid (l1 = l2 → decide (l1 = l2) = true) := Lib.hid fun h => decide_eq_true h
  generalize decide (l1 = l2) = v at HNO HYES ⊢
  by_cases hnm : n = m
  · subst hnm
    go_enter Tryz.func20, Tryz.ntmps20
    go_wp2_with fail
    go_loopw [5, 13] (fun _ s wr => ∃ i q : Nat, i ≤ n ∧ s = .int .i64 i ∧ (∀ k, k < i → l1[k]? = l2[k]?) ∧ wr = w.drewN q) (fun _ s _ => n - (intOf s).toNat)
    case atStart => exact ⟨0, 0, by omega, rfl, fun k hk => by omega, rfl⟩
    case round =>
      obtain ⟨i, q, hi, rfl, hok, rfl⟩ := hrel
      have HOK := Lib.hid hok
      clear hok
      by_cases hlt : i < n
      · obtain ⟨ad, x, rfl, _, hx, c0, ck⟩ := h1.at_ cc_len (by omega) hlt
        obtain ⟨ad2, y, rfl, _, hy, e0, ek⟩ := h2.at_ cc_len (by omega) hlt
        have c1 := ck 1 _ (by omega) rfl
        have e1 := ek 1 _ (by omega) rfl
        have c2 := ck 2 _ (by omega) rfl
        have e2 := ek 2 _ (by omega) rfl
        have c3 := ck 3 _ (by omega) rfl
        have e3 := ek 3 _ (by omega) rfl
        have c4 := ck 4 _ (by omega) rfl
        have e4 := ek 4 _ (by omega) rfl
        have c5 := ck 5 _ (by omega) rfl
        have e5 := ek 5 _ (by omega) rfl
        have c0 := c0 _ rfl
        have e0 := e0 _ rfl
        obtain ⟨xf, xt, xq, xc, xm, xl⟩ := x
        obtain ⟨yf, yt, yq, yc, ym, yl⟩ := y
        dsimp only at c0 e0 c1 e1 c2 e2 c3 e3 c4 e4 c5 e5
        have hne := fun W => ch_neqs ⟨xf, xt, xq, xc, xm, xl⟩ ⟨yf, yt, yq, yc, ym, yl⟩ W
        by_cases hE : (⟨xf, xt, xq, xc, xm, xl⟩ : ChV) = ⟨yf, yt, yq, yc, ym, yl⟩
        · rw [decide_eq_true hE] at hne
          have hne : ∀ W, (binOp .neq 47 (.agg #[.int .i64 xf, .int .i64 xt, .bool xq, .int .i64 xc, .int .u32 xm, .int .i64 xl]) (.agg #[.int .i64 yf, .int .i64 yt, .bool yq, .int .i64 yc, .int .u32 ym, .int .i64 yl])).run Tryz.prog W = .ok (.bool false) W := hne
          have HNX : Hid (∀ k, k < i + 1 → l1[k]? = l2[k]?) := Lib.hid (lt_more (p := fun k => l1[k]? = l2[k]?) HOK.out (by rw [hx, hy, hE]))
          clear hE hx hy ck ek HOK HNO HYES
          go_wp2_with fail
          go_quiet (fail)
          go_wp2_with fail
          go_roundw
          case rel => exact ⟨i + 1, q + nq, by omega, by go_num, HNX.out, rfl⟩
          case measure => simp [intOf]; omega
        · rw [decide_eq_false hE] at hne
          have hne : ∀ W, (binOp .neq 47 (.agg #[.int .i64 xf, .int .i64 xt, .bool xq, .int .i64 xc, .int .u32 xm, .int .i64 xl]) (.agg #[.int .i64 yf, .int .i64 yt, .bool yq, .int .i64 yc, .int .u32 ym, .int .i64 yl])).run Tryz.prog W = .ok (.bool true) W := hne
          have HV := Lib.hid (HNO.out fun h => hE (by rw [h, hy] at hx; injection hx with hx; exact hx.symm))
          clear hE hx hy ck ek HOK HNO HYES
          go_wp2_with fail
          go_quiet (fail)
          go_wp2_with fail
          go_ret
          exact ⟨by rw [HV.out]; rfl, q + nq, by rw [World.drewN_drewN]⟩
      · have hge : n ≤ i := by omega
        have HV := Lib.hid (HYES.out (List.ext_getElem? fun k => by
          rcases Nat.lt_or_ge k i with h5 | h5
          · exact HOK.out k h5
          · rw [List.getElem?_eq_none (by rw [h1.len]; omega), List.getElem?_eq_none (by rw [h2.len]; omega)]))
        clear HOK HNO HYES
        go_wp2_with fail
        go_ret
        exact ⟨by rw [HV.out]; rfl, q, rfl⟩
  · have HV := Lib.hid (HNO.out fun h => hnm (by rw [← h1.len, ← h2.len, h]))
    have h4 : ((n : Int) != (m : Int)) = true := bne_iff_ne.2 (by omega)
    clear HNO HYES h1 h2 hnm
    go_enter Tryz.func20, Tryz.ntmps20
    go_wp2_with fail
    go_ret
    exact ⟨by rw [HV.out]; rfl, 0, rfl⟩
set_option maxRecDepth 100000 in
set_option maxHeartbeats 4000000 in
theorem spart_any (x y : Pq) (w : World) (hx : RdB prc w w.heap.size x.1.pa x.1.pn x.2) (hy : RdB prc w w.heap.size y.1.pa y.1.pn y.2) (hn : x.1.pn ≤ 140737488351232) :
    Calls Tryz.prog 19 #[pv x.1, pv y.1] w (Ans (.bool (decide (SameP x y))) w) := by
  have HNO : Hid (¬ SameP x y → decide (SameP x y) = false) := Lib.hid fun h => decide_eq_false h
  have HYES : Hid (SameP x y → decide (SameP x y) = true) := Lib.hid fun h => decide_eq_true h
  generalize decide (SameP x y) = v at HNO HYES ⊢
  obtain ⟨⟨nm, bu, pe, sc, st, pa, pn, pc, a0, a1, a2, a3, a4⟩, L⟩ := x
  obtain ⟨⟨nm2, bu2, pe2, sc2, st2, pa2, pn2, pc2, b0, b1, b2, b3, b4⟩, M⟩ := y
  unfold SameP at HNO HYES
  dsimp only at hx hy HNO HYES hn ⊢
  have g0 := bl1 w (.cells #[.string nm, .int .i64 bu, .int .i64 pe, .bool sc, .bool st, .slice pa pn pc, .int .i64 a0, .int .i64 a1, .int .i64 a2, .int .i64 a3, .int .i64 a4] 39)
  have g1 := g0.trans ((bl1 _ (.cells #[.string nm2, .int .i64 bu2, .int .i64 pe2, .bool sc2, .bool st2, .slice pa2 pn2 pc2, .int .i64 b0, .int .i64 b1, .int .i64 b2, .int .i64 b3, .int .i64 b4] 39)).mono g0.size)
  have HB := Lib.hid g1
  have HEQ := Lib.hid (eqpc_any pa pa2 pn pn2 pc pc2 L M _ (hx.on g1) (hy.on g1) hn)
  have HE1 : Hid (¬ L = M → decide (L = M) = false) := Lib.hid fun h => decide_eq_false h
  have HE2 : Hid (L = M → decide (L = M) = true) := Lib.hid fun h => decide_eq_true h
  generalize decide (L = M) = ql at HEQ HE1 HE2
  have O : Hid (∀ (k : Nat) (v : Value), (#[Value.string nm, .int .i64 bu, .int .i64 pe, .bool sc, .bool st, .slice pa pn pc, .int .i64 a0, .int .i64 a1, .int .i64 a2, .int .i64 a3, .int .i64 a4] : Array Value)[k]? = some v → ((w.alloc (.cells #[.string nm, .int .i64 bu, .int .i64 pe, .bool sc, .bool st, .slice pa pn pc, .int .i64 a0, .int .i64 a1, .int .i64 a2, .int .i64 a3, .int .i64 a4] 39)).alloc (.cells #[.string nm2, .int .i64 bu2, .int .i64 pe2, .bool sc2, .bool st2, .slice pa2 pn2 pc2, .int .i64 b0, .int .i64 b1, .int .i64 b2, .int .i64 b3, .int .i64 b4] 39)).cell? ⟨w.heap.size, k, none⟩ = some v) := Lib.hid (by
    intro k v hv
    rw [(bl1 _ _).cell (by simp)]
    exact (World.cell?_alloc_mark _ _ _ _ _).trans hv)
  have e : (w.alloc (.cells #[.string nm, .int .i64 bu, .int .i64 pe, .bool sc, .bool st, .slice pa pn pc, .int .i64 a0, .int .i64 a1, .int .i64 a2, .int .i64 a3, .int .i64 a4] 39)).heap.size = w.heap.size + 1 := by simp
  have O2 : Hid (∀ (k : Nat) (v : Value), (#[Value.string nm2, .int .i64 bu2, .int .i64 pe2, .bool sc2, .bool st2, .slice pa2 pn2 pc2, .int .i64 b0, .int .i64 b1, .int .i64 b2, .int .i64 b3, .int .i64 b4] : Array Value)[k]? = some v → ((w.alloc (.cells #[.string nm, .int .i64 bu, .int .i64 pe, .bool sc, .bool st, .slice pa pn pc, .int .i64 a0, .int .i64 a1, .int .i64 a2, .int .i64 a3, .int .i64 a4] 39)).alloc (.cells #[.string nm2, .int .i64 bu2, .int .i64 pe2, .bool sc2, .bool st2, .slice pa2 pn2 pc2, .int .i64 b0, .int .i64 b1, .int .i64 b2, .int .i64 b3, .int .i64 b4] 39)).cell? ⟨w.heap.size + 1, k, none⟩ = some v) := Lib.hid (by
    intro k v hv
    rw [← e]
    exact (World.cell?_alloc_mark _ _ _ _ _).trans hv)
  clear g0 g1 hx hy e hn
  go_enter Tryz.func19, Tryz.ntmps19
  go_upto_region 1 with fail
  generalize (w.alloc (.cells #[.string nm, .int .i64 bu, .int .i64 pe, .bool sc, .bool st, .slice pa pn pc, .int .i64 a0, .int .i64 a1, .int .i64 a2, .int .i64 a3, .int .i64 a4] 39)).alloc (.cells #[.string nm2, .int .i64 bu2, .int .i64 pe2, .bool sc2, .bool st2, .slice pa2 pn2 pc2, .int .i64 b0, .int .i64 b1, .int .i64 b2, .int .i64 b3, .int .i64 b4] 39) = W at HB HEQ O O2 ⊢
  generalize w.heap.size + 1 = g2 at O2 ⊢
  obtain ⟨g, hg⟩ : ∃ g, g = w.heap.size := ⟨_, rfl⟩
  rw [← hg] at O ⊢
  clear hg
  have c0 := O.out 0 _ rfl
  have d0 := O2.out 0 _ rfl
  have c1 := O.out 1 _ rfl
  have d1 := O2.out 1 _ rfl
  have c2 := O.out 2 _ rfl
  have d2 := O2.out 2 _ rfl
  have c3 := O.out 3 _ rfl
  have d3 := O2.out 3 _ rfl
  have c4 := O.out 4 _ rfl
  have d4 := O2.out 4 _ rfl
  have c5 := O.out 5 _ rfl
  have d5 := O2.out 5 _ rfl
  have c6 := O.out 6 _ rfl
  have d6 := O2.out 6 _ rfl
  have c7 := O.out 7 _ rfl
  have d7 := O2.out 7 _ rfl
  have c8 := O.out 8 _ rfl
  have d8 := O2.out 8 _ rfl
  have c9 := O.out 9 _ rfl
  have d9 := O2.out 9 _ rfl
  have c10 := O.out 10 _ rfl
  have d10 := O2.out 10 _ rfl
  by_cases k0 : nm = nm2
  case neg =>
    have hq : (nm.toList == nm2.toList) = false := bs_eq_of (decide_eq_false k0)
    have HV := Lib.hid (HNO.out fun h => k0 h.1)
    clear HNO HYES k0 HE1 HE2
    go_wp2_with fail
    go_ret
    exact Ans.mk (by rw [HV.out]; rfl) HB.out
  have hq : (nm.toList == nm2.toList) = true := bs_eq_of (decide_eq_true k0)
  by_cases k1 : bu = bu2
  case neg =>
    have hq1 : (bu == bu2) = false := beq_eq_false_iff_ne.2 k1
    have HV := Lib.hid (HNO.out fun h => k1 h.2.1)
    clear HNO HYES k1 HE1 HE2
    go_wp2_with fail
    go_ret
    exact Ans.mk (by rw [HV.out]; rfl) HB.out
  have hq1 : (bu == bu2) = true := beq_iff_eq.2 k1
  by_cases k2 : pe = pe2
  case neg =>
    have hq2 : (pe == pe2) = false := beq_eq_false_iff_ne.2 k2
    have HV := Lib.hid (HNO.out fun h => k2 h.2.2.1)
    clear HNO HYES k2 HE1 HE2
    go_wp2_with fail
    go_ret
    exact Ans.mk (by rw [HV.out]; rfl) HB.out
  have hq2 : (pe == pe2) = true := beq_iff_eq.2 k2
  by_cases k3 : sc = sc2
  case neg =>
    have hq3 : (sc == sc2) = false := by rw [bool_eqs]; exact decide_eq_false k3
    have HV := Lib.hid (HNO.out fun h => k3 h.2.2.2.1)
    clear HNO HYES k3 HE1 HE2
    go_wp2_with fail
    go_ret
    exact Ans.mk (by rw [HV.out]; rfl) HB.out
  have hq3 : (sc == sc2) = true := by rw [bool_eqs]; exact decide_eq_true k3
  by_cases k4 : st = st2
  case neg =>
    have hq4 : (st == st2) = false := by rw [bool_eqs]; exact decide_eq_false k4
    have HV := Lib.hid (HNO.out fun h => k4 h.2.2.2.2.1)
    clear HNO HYES k4 HE1 HE2
    go_wp2_with fail
    go_ret
    exact Ans.mk (by rw [HV.out]; rfl) HB.out
  have hq4 : (st == st2) = true := by rw [bool_eqs]; exact decide_eq_true k4
  go_wp2_with fail
  refine HEQ.out.mono ?_
  rintro e w5 ⟨rfl, dq, rfl⟩
  by_cases k5 : L = M
  case neg =>
    have HV := Lib.hid (HNO.out fun h => k5 h.2.2.2.2.2.2)
    obtain rfl := HE1.out k5
    clear HNO HYES k5 HE1 HE2
    go_wp2_with fail
    go_ret
    exact Ans.mk (by rw [HV.out]; rfl) (Below.drewN HB.out dq)
  obtain rfl := HE2.out k5
  have hha := fun W => arr5_eql a0 a1 a2 a3 a4 b0 b1 b2 b3 b4 W
  by_cases k6 : a0 = b0 ∧ a1 = b1 ∧ a2 = b2 ∧ a3 = b3 ∧ a4 = b4
  case neg =>
    rw [show heq5 a0 a1 a2 a3 a4 b0 b1 b2 b3 b4 = false from decide_eq_false k6] at hha
    have hha : ∀ W, (binOp .eql 37 (.agg #[.int .i64 a0, .int .i64 a1, .int .i64 a2, .int .i64 a3, .int .i64 a4]) (.agg #[.int .i64 b0, .int .i64 b1, .int .i64 b2, .int .i64 b3, .int .i64 b4])).run Tryz.prog W = .ok (.bool false) W := hha
    have HV := Lib.hid (HNO.out fun h => k6 h.2.2.2.2.2.1)
    clear HNO HYES k6 HE1 HE2
    go_wp2_with fail
    go_ret
    exact Ans.mk (by rw [HV.out]; rfl) (Below.drewN HB.out dq)
  rw [show heq5 a0 a1 a2 a3 a4 b0 b1 b2 b3 b4 = true from decide_eq_true k6] at hha
  have hha : ∀ W, (binOp .eql 37 (.agg #[.int .i64 a0, .int .i64 a1, .int .i64 a2, .int .i64 a3, .int .i64 a4]) (.agg #[.int .i64 b0, .int .i64 b1, .int .i64 b2, .int .i64 b3, .int .i64 b4])).run Tryz.prog W = .ok (.bool true) W := hha
  have HV := Lib.hid (HYES.out ⟨k0, k1, k2, k3, k4, k6, k5⟩)
  clear HNO HYES k6 HE1 HE2 k0 k1 k2 k3 k4 k5
  go_wp2_with fail
  go_ret
  exact Ans.mk (by rw [HV.out]; rfl) (Below.drewN HB.out dq)
end Go.Proofs.YtebcfiifaclniaaGreat

/- Whether configurations are the same, tables and all: by the document's own answer, exactly. -/
namespace Go.Proofs.YtebcfiifaclniaaGreat
open Go.RowKit Tab
set_option linter.unusedSimpArgs false
set_option linter.unusedVariables false

theorem Qui.one {P : Program} {f : FuncId} {args : Array Value} {w : World} {n : Nat} {v : Value} (h : Calls P f args (w.drewN n) (Qui v (w.drewN n))) : Calls P f args (w.drewN n) fun e w'' => e = .returned v ∧ ∃ m, w'' = w.drewN m :=
  h.mono fun _ _ ⟨he, m, hm⟩ => ⟨he, n + m, by rw [hm, World.drewN_drewN]⟩
end Go.Proofs.YtebcfiifaclniaaGreat
