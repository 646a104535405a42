/- The fold that saves most, as the document looks for it (place by place, period by period), is the one that the program finds: plain mathematics. -/
import Derived.Test.YtgoeikihjffeoaaGreatBestm
namespace Go.Proofs.YtgoeikihjffeoaaGreat
namespace Tab
set_option linter.unusedSimpArgs false
set_option linter.unusedVariables false

/-- Item k is the one p behind it. -/
def mat (I : Itr) (p k : Nat) : Prop := sameAt I k (k + p) = true
theorem mat_room {I : Itr} {p k : Nat} (h : mat I p k) : k + p < I.length := (sameAt_iff h).2
theorem fwdI_stop (I : Itr) (p : Nat) : ∀ f tt, I.length ≤ tt + f → ¬ mat I p (fwdI I p f tt) := by
  intro f
  induction f with
  | zero =>
    intro tt h hm
    have := mat_room hm
    simp only [fwdI] at this
    omega
  | succ f ih =>
    intro tt h
    simp only [fwdI]
    split
    · exact ih (tt + 1) (by omega)
    · rename_i hc
      intro hm
      exact hc ⟨mat_room hm, hm⟩
def runI (I : Itr) (p i : Nat) : Nat := fwdI I p I.length i
theorem runI_ge (I : Itr) (p i : Nat) : i ≤ runI I p i := fwdI_ge I p _ i
theorem runI_le {I : Itr} {p i : Nat} (h : i + p ≤ I.length) : runI I p i + p ≤ I.length := fwdI_le I p _ i h
theorem runI_mat {I : Itr} {p i k : Nat} (h1 : i ≤ k) (h2 : k < runI I p i) : mat I p k := fwdI_same I p _ i k h1 h2
theorem runI_stop (I : Itr) (p i : Nat) : ¬ mat I p (runI I p i) := fwdI_stop I p _ i (by omega)
/-- The end of a stretch is the same from wherever in it. -/
theorem runI_is {I : Itr} {p i t : Nat} (h1 : i ≤ t) (hm : ∀ k, i ≤ k → k < t → mat I p k) (hs : ¬ mat I p t) : runI I p i = t := by
  rcases Nat.lt_trichotomy (runI I p i) t with h | h | h
  · exact absurd (hm _ (runI_ge I p i) h) (runI_stop I p i)
  · exact h
  · exact absurd (runI_mat h1 h) hs
theorem runI_from {I : Itr} {p i j : Nat} (h1 : i ≤ j) (hm : ∀ k, i ≤ k → k < j → mat I p k) : runI I p i = runI I p j :=
  runI_is (Nat.le_trans h1 (runI_ge I p j)) (fun k h2 h3 => by
    rcases Nat.lt_or_ge k j with h | h
    · exact hm k h2 h
    · exact runI_mat h h3) (runI_stop I p j)
theorem runI_in {I : Itr} {p i j : Nat} (h1 : i ≤ j) (h2 : j ≤ runI I p i) : runI I p j = runI I p i :=
  (runI_from h1 fun k h3 h4 => runI_mat h3 (by omega)).symm
/-- How often. -/
def timI (I : Itr) (i p : Nat) : Nat := (runI I p i - i) / p + 1
theorem timI_two {I : Itr} {i p : Nat} (hp : 1 ≤ p) : 2 ≤ timI I i p ↔ i + p ≤ runI I p i := by
  have h1 := runI_ge I p i
  unfold timI
  constructor
  · intro h
    have h2 : 1 ≤ (runI I p i - i) / p := by omega
    have h3 := (Nat.le_div_iff_mul_le hp).1 h2
    omega
  · intro h
    have h2 : 1 ≤ (runI I p i - i) / p := (Nat.le_div_iff_mul_le hp).2 (by omega)
    omega
theorem timI_room {I : Itr} {i p : Nat} (hp : 1 ≤ p) (hi : i + p ≤ I.length) : i + (timI I i p - 1) * p ≤ runI I p i ∧ i + timI I i p * p ≤ I.length := by
  have h1 := runI_ge I p i
  have h2 := runI_le hi
  have h3 := Nat.div_mul_le_self (runI I p i - i) p
  unfold timI
  rw [Nat.add_sub_cancel, Nat.succ_mul]
  omega
/-- How often, by what matches. -/
theorem timI_is {I : Itr} {i p n : Nat} (hp : 1 ≤ p) (hn : 1 ≤ n) (hm : ∀ k, i ≤ k → k < i + (n - 1) * p → mat I p k) (hs : ¬ ∀ k, i ≤ k → k < i + n * p → mat I p k) : timI I i p = n := by
  have h1 := runI_ge I p i
  have h2 : i + (n - 1) * p ≤ runI I p i := by
    rcases Nat.lt_or_ge (runI I p i) (i + (n - 1) * p) with h | h
    · exact absurd (hm _ h1 h) (runI_stop I p i)
    · exact h
  have h3 : runI I p i < i + n * p := by
    rcases Nat.lt_or_ge (runI I p i) (i + n * p) with h | h
    · exact h
    · exact absurd (fun k h4 h5 => runI_mat h4 (by omega)) hs
  have h4 : (runI I p i - i) / p = n - 1 := by
    refine Nat.div_eq_of_lt_le ?_ ?_
    · omega
    · have : (n - 1 + 1) * p = n * p := by rw [Nat.sub_add_cancel hn]
      rw [this]
      omega
  unfold timI
  omega
/-- Nodes ahead of a place. -/
def pre (I : Itr) (k : Nat) : Nat := szI (I.take k)
def szW (I : Itr) (i p : Nat) : Nat := szI ((I.drop i).take p)
theorem szW_pre (I : Itr) (i p : Nat) : pre I (i + p) = pre I i + szW I i p := by
  unfold pre szW
  rw [List.take_add, szI_append]
theorem pre_more {I : Itr} {k : Nat} {x : List Nd} (h : I[k]? = some x) : pre I (k + 1) = pre I k + x.length := szI_more h
theorem szW_next {I : Itr} {p k : Nat} (h : mat I p k) : szW I (k + 1) p = szW I k p := by
  obtain ⟨h1, h2⟩ := sameAt_iff h
  obtain ⟨x, hx⟩ : ∃ x, I[k + p]? = some x := ⟨_, List.getElem?_eq_getElem h2⟩
  have a := szW_pre I k p
  have b := szW_pre I (k + 1) p
  have c := pre_more (h1.trans hx)
  have d := pre_more hx
  rw [show k + 1 + p = k + p + 1 by omega] at b
  omega
theorem szW_same {I : Itr} {p i j : Nat} (h1 : i ≤ j) (hm : ∀ k, i ≤ k → k < j → mat I p k) : szW I j p = szW I i p := by
  induction j with
  | zero => rw [show i = 0 by omega]
  | succ j ih =>
    rcases Nat.lt_or_ge i (j + 1) with h | h
    · rw [szW_next (hm j (by omega) (by omega)), ih (by omega) fun k h2 h3 => hm k h2 (by omega)]
    · rw [show i = j + 1 by omega]
theorem szW_times {I : Itr} {p i : Nat} : ∀ n, (∀ k, i ≤ k → k < i + (n - 1) * p → mat I p k) → pre I (i + n * p) = pre I i + n * szW I i p := by
  intro n
  induction n with
  | zero => intro _; simp
  | succ n ih =>
    intro hm
    have h1 := ih fun k h2 h3 => hm k h2 (by
      have : (n - 1) * p ≤ (n + 1 - 1) * p := Nat.mul_le_mul_right _ (by omega)
      omega)
    have h2 := szW_pre I (i + n * p) p
    have h3 : szW I (i + n * p) p = szW I i p := szW_same (by omega) fun k h4 h5 => hm k h4 (by rw [Nat.add_sub_cancel]; exact h5)
    rw [Nat.succ_mul, Nat.succ_mul, ← Nat.add_assoc, h2, h1, h3]
    omega
theorem szW_ge {I : Itr} (hne : ∀ x ∈ I, 1 ≤ x.length) : ∀ p i, i + p ≤ I.length → p ≤ szW I i p := by
  intro p
  induction p with
  | zero => intro i _; exact Nat.zero_le _
  | succ p ih =>
    intro i hi
    obtain ⟨x, hx⟩ : ∃ x, I[i + p]? = some x := ⟨_, List.getElem?_eq_getElem (by omega)⟩
    have a := szW_pre I i p
    have b := szW_pre I i (p + 1)
    have c := pre_more hx
    have d := hne x (List.mem_of_getElem? hx)
    have e := ih i (by omega)
    rw [show i + (p + 1) = i + p + 1 by omega] at b
    omega
theorem pre_le (I : Itr) (k : Nat) : pre I k ≤ szI I := szI_take I k
/-- What is saved from i on by periods of p. -/
def savA (I : Itr) (i p : Nat) : Int := savI ((I.drop i).take p) (timI I i p)
def Cand (I : Itr) (i p : Nat) : Prop := 1 ≤ p ∧ i + 2 * p ≤ I.length ∧ 2 ≤ timI I i p
theorem savA_at {I : Itr} {i p : Nat} (h : Cand I i p) : savA I i p = ((szW I i p * (timI I i p - 1) : Nat) : Int) - 1 - (if 1 < p then 1 else 0) := by
  obtain ⟨h1, h2, h3⟩ := h
  unfold savA savI szW
  have e : ((I.drop i).take p).length = p := by rw [List.length_take, List.length_drop]; omega
  rw [if_neg (by omega), e]
/-- Longer periods save no more than this. -/
theorem savA_lt {I : Itr} (hne : ∀ x ∈ I, 1 ≤ x.length) {i p : Nat} (h : Cand I i p) : savA I i p < (szI I : Int) - p := by
  have h0 := savA_at h
  obtain ⟨h1, h2, h3⟩ := h
  obtain ⟨h4, h5⟩ := timI_room (I := I) (i := i) h1 (by omega)
  have h6 := szW_times (I := I) (p := p) (i := i) (timI I i p) fun k h7 h8 => runI_mat h7 (by omega)
  have h7 := pre_le I (i + timI I i p * p)
  have h8 := szW_ge hne p i (by omega)
  obtain ⟨m, hm⟩ : ∃ m, timI I i p = m + 1 := ⟨timI I i p - 1, by omega⟩
  rw [hm, Nat.add_sub_cancel, Nat.mul_comm] at h0
  rw [hm, Nat.add_mul m 1 (szW I i p), Nat.one_mul] at h6
  rw [hm] at h7
  split at h0 <;> omega
/-- s is as good as what is saved so from j on by q, or comes first. -/
def Beats (s : Bst) (v : Int) (j q : Nat) : Prop := v < s.most ∨ (v = s.most ∧ (s.at_ < j ∨ (s.at_ = j ∧ s.p ≤ q)))
def Made (I : Itr) (s : Bst) : Prop := s = ⟨0, 0, 0, 0⟩ ∨ (Cand I s.at_ s.p ∧ s.n = timI I s.at_ s.p ∧ s.most = savA I s.at_ s.p ∧ 0 < s.most)
theorem Made.nn {I : Itr} {s : Bst} (h : Made I s) : 0 ≤ s.most := by
  rcases h with rfl | h
  · exact Int.le_refl _
  · have := h.2.2.2; omega
def Opt (I : Itr) (s : Bst) : Prop := Made I s ∧ ∀ j q, Cand I j q → Beats s (savA I j q) j q
theorem Opt.same {I : Itr} {s t : Bst} (hs : Opt I s) (ht : Opt I t) : s = t := by
  obtain ⟨h1, h2⟩ := hs
  obtain ⟨h3, h4⟩ := ht
  rcases h1 with e1 | ⟨c1, n1, m1, p1⟩
  · rcases h3 with e3 | ⟨c3, n3, m3, p3⟩
    · rw [e1, e3]
    · exfalso
      have := h2 _ _ c3
      rw [← m3, e1] at this
      unfold Beats at this
      dsimp only at this
      omega
  · rcases h3 with e3 | ⟨c3, n3, m3, p3⟩
    · exfalso
      have := h4 _ _ c1
      rw [← m1, e3] at this
      unfold Beats at this
      dsimp only at this
      omega
    · have a := h2 _ _ c3
      have b := h4 _ _ c1
      rw [← m3] at a
      rw [← m1] at b
      unfold Beats at a b
      have e1 : s.most = t.most := by omega
      have e2 : s.at_ = t.at_ := by omega
      have e3 : s.p = t.p := by omega
      have e4 : s.n = t.n := by rw [n1, n3, e2, e3]
      obtain ⟨sm, sa, sp, sn⟩ := s
      obtain ⟨tm, ta, tp, tn⟩ := t
      dsimp only at e1 e2 e3 e4
      rw [e1, e2, e3, e4]
theorem Beats.far {s : Bst} {u v : Int} {i j q : Nat} (h : Beats s u i q) (hv : v ≤ u) (hij : i ≤ j) : Beats s v j q := by
  unfold Beats at h ⊢
  omega
/-- The program's step: what it looks at begins where its stretch begins. -/
theorem often_tim {I : Itr} {q place : Nat} : oftenI I q place = timI I (backI I q place) q ∧ savedI I q place = savA I (backI I q place) q := by
  have e : oftenI I q place = timI I (backI I q place) q := by
    unfold oftenI timI
    rw [show fwdI I q I.length place = runI I q place from rfl, ← runI_from (backI_le I q place) (fun k h1 h2 => backI_same I q place k h1 h2)]
  refine ⟨e, ?_⟩
  unfold savedI savA
  rw [e]
theorem pick_made {I : Itr} {q place : Nat} {s : Bst} (hq : 1 ≤ q) (hp : place + q < I.length) (h : Made I s) : Made I (pickI I q place s) := by
  obtain ⟨e1, e2⟩ := often_tim (I := I) (q := q) (place := place)
  unfold pickI
  rw [e1, e2]
  split
  · rename_i hc
    have h0 := h.nn
    have hpos : 0 < savA I (backI I q place) q := by
      rcases hc with hc | ⟨hc, hlt⟩
      · omega
      · rcases h with rfl | h
        · simp at hlt
        · have := h.2.2.2; omega
    have hn := savI_pos hpos
    have hb := backI_le I q place
    have hr := (timI_two hq).1 hn
    have hl := runI_le (I := I) (p := q) (i := backI I q place) (by omega)
    exact .inr ⟨⟨hq, by dsimp only; omega, hn⟩, rfl, rfl, hpos⟩
  · exact h
theorem pick_p {I : Itr} {q place : Nat} {s : Bst} (h : s.p ≤ q) : (pickI I q place s).p ≤ q := by
  unfold pickI
  split
  · exact Nat.le_refl _
  · exact h
theorem pick_old {I : Itr} {q place : Nat} {s : Bst} {v : Int} {j r : Nat} (h : Beats s v j r) : Beats (pickI I q place s) v j r := by
  unfold pickI
  split
  · rename_i hc
    unfold Beats at h ⊢
    dsimp only
    omega
  · exact h
theorem pick_new {I : Itr} {q place : Nat} {s : Bst} (h : s.p ≤ q) : Beats (pickI I q place s) (savA I (backI I q place) q) (backI I q place) q := by
  obtain ⟨e1, e2⟩ := often_tim (I := I) (q := q) (place := place)
  unfold pickI
  rw [e1, e2]
  split
  · unfold Beats
    dsimp only
    omega
  · rename_i hc
    unfold Beats
    omega
/-- Of a stretch its beginning saves most. -/
theorem savA_back {I : Itr} {i j q : Nat} (hq : 1 ≤ q) (hij : i ≤ j) (hm : ∀ k, i ≤ k → k < j → mat I q k) (hj : Cand I j q) : Cand I i q ∧ savA I j q ≤ savA I i q := by
  have e := runI_from hij hm
  have h1 := (timI_two hq).1 hj.2.2
  have h2 : Cand I i q := ⟨hq, by have := hj.2.1; omega, (timI_two hq).2 (by omega)⟩
  refine ⟨h2, ?_⟩
  rw [savA_at h2, savA_at hj, szW_same hij hm]
  have h3 : timI I j q ≤ timI I i q := by
    unfold timI
    rw [e]
    exact Nat.succ_le_succ (Nat.div_le_div_right (by omega))
  have h4 : szW I i q * (timI I j q - 1) ≤ szW I i q * (timI I i q - 1) := Nat.mul_le_mul_left _ (by omega)
  omega
/-- Behind a step all that begin up to the stretch's end are looked at. -/
theorem pick_done {I : Itr} {q place : Nat} {s : Bst} (hq : 1 ≤ q) (hs : s.p ≤ q) (hd : ∀ j, j + q ≤ place → Cand I j q → Beats s (savA I j q) j q) :
    ∀ j, j ≤ fwdI I q I.length place → Cand I j q → Beats (pickI I q place s) (savA I j q) j q := by
  intro j hj hc
  have hf : fwdI I q I.length place = runI I q place := rfl
  rw [hf] at hj
  by_cases h1 : j + q ≤ place
  · exact pick_old (hd j h1 hc)
  · have hb := backI_le I q place
    have hr := (timI_two hq).1 hc.2.2
    have hbj : backI I q place ≤ j ∧ ∀ k, backI I q place ≤ k → k < j → mat I q k := by
      by_cases h2 : j ≤ place
      · have h3 : backI I q place ≤ j := by
          rcases Nat.lt_or_ge j (backI I q place) with h | h
          · exfalso
            -- all from j to place match, so one goes back to j at least
            have key : ∀ k, j ≤ k → k ≤ place → backI I q k ≤ j := by
              intro k
              induction k with
              | zero => intro _ _; simp [backI]
              | succ k ih =>
                intro h5 h6
                rcases Nat.lt_or_ge j (k + 1) with h7 | h7
                · have hm : mat I q k := runI_mat (i := j) (by omega) (by omega)
                  simp only [backI]
                  rw [if_pos (show sameAt I k (k + q) = true from hm)]
                  exact ih (by omega) (by omega)
                · rw [show j = k + 1 by omega]
                  exact backI_le I q (k + 1)
            have := key place h2 (Nat.le_refl _)
            omega
          · exact h
        exact ⟨h3, fun k h4 h5 => backI_same I q place k h4 (by omega)⟩
      · refine ⟨by omega, fun k h4 h5 => ?_⟩
        rcases Nat.lt_or_ge k place with h6 | h6
        · exact backI_same I q place k h4 h6
        · exact runI_mat h6 (by omega)
    obtain ⟨h7, h8⟩ := savA_back hq hbj.1 hbj.2 hc
    exact (pick_new hs).far h8 hbj.1
theorem inner_opt {I : Itr} {q : Nat} (hq : 1 ≤ q) : ∀ f place s, I.length ≤ place + f → Made I s → s.p ≤ q → (∀ j r, r < q → Cand I j r → Beats s (savA I j r) j r) → (∀ j, j + q ≤ place → Cand I j q → Beats s (savA I j q) j q) →
    Made I (innerI I q f place s) ∧ (innerI I q f place s).p ≤ q ∧ ∀ j r, r ≤ q → Cand I j r → Beats (innerI I q f place s) (savA I j r) j r := by
  intro f
  induction f with
  | zero =>
    intro place s hl hm hp ho hd
    refine ⟨hm, hp, fun j r hr hc => ?_⟩
    rcases Nat.lt_or_ge r q with h | h
    · exact ho j r h hc
    · obtain rfl : r = q := by omega
      exact hd j (by have := hc.2.1; omega) hc
  | succ f ih =>
    intro place s hl hm hp ho hd
    by_cases hc : place + q < I.length
    · have e : innerI I q (f + 1) place s = innerI I q f (fwdI I q I.length place + q) (pickI I q place s) := by simp only [innerI]; rw [if_pos hc]
      rw [e]
      have hg := fwdI_ge I q I.length place
      refine ih _ _ (by omega) (pick_made hq hc hm) (pick_p hp) (fun j r hr hcd => pick_old (ho j r hr hcd)) fun j hj hcd => ?_
      exact pick_done hq hp hd j (by omega) hcd
    · have e : innerI I q (f + 1) place s = s := by simp only [innerI]; rw [if_neg hc]
      rw [e]
      refine ⟨hm, hp, fun j r hr hcd => ?_⟩
      rcases Nat.lt_or_ge r q with h | h
      · exact ho j r h hcd
      · obtain rfl : r = q := by omega
        exact hd j (by have := hcd.2.1; omega) hcd
theorem outer_opt {I : Itr} (hne : ∀ x ∈ I, 1 ≤ x.length) : ∀ f q s, 1 ≤ q → I.length < q + f → Made I s → s.p < q → (∀ j r, r < q → Cand I j r → Beats s (savA I j r) j r) → Opt I (outerI I f q s) := by
  intro f
  induction f with
  | zero =>
    intro q s hq hl hm hp ho
    exact ⟨hm, fun j r hc => ho j r (by have := hc.2.1; have := hc.1; omega) hc⟩
  | succ f ih =>
    intro q s hq hl hm hp ho
    by_cases hc : 2 * q ≤ I.length ∧ s.most < (szI I : Int) - q
    · have e : outerI I (f + 1) q s = outerI I f (q + 1) (innerI I q I.length (q - 1) s) := by simp only [outerI]; rw [if_pos hc]
      rw [e]
      obtain ⟨h1, h2, h3⟩ := inner_opt hq I.length (q - 1) s (by omega) hm (by omega) ho (fun j hj _ => by omega)
      exact ih (q + 1) _ (by omega) (by omega) h1 (by omega) fun j r hr hcd => h3 j r (by omega) hcd
    · have e : outerI I (f + 1) q s = s := by simp only [outerI]; rw [if_neg hc]
      rw [e]
      refine ⟨hm, fun j r hcd => ?_⟩
      rcases Nat.lt_or_ge r q with h | h
      · exact ho j r h hcd
      · have h1 := savA_lt hne hcd
        have h2 := hcd.2.1
        refine .inl ?_
        by_cases h3 : 2 * q ≤ I.length
        · have h4 : ¬ s.most < (szI I : Int) - q := fun h5 => hc ⟨h3, h5⟩
          omega
        · omega
theorem bestI_opt {I : Itr} (hne : ∀ x ∈ I, 1 ≤ x.length) : Opt I (bestI I) :=
  outer_opt hne I.length 1 ⟨0, 0, 0, 0⟩ (by omega) (by omega) (.inl rfl) (by show 0 < 1; omega) fun j r hr hc => by have := hc.1; omega
/-- The document's own: place by place, period by period, what saves more. -/
def updR (I : Itr) (i p : Nat) (s : Bst) : Bst := if 1 < timI I i p ∧ s.most < savA I i p then ⟨savA I i p, i, p, timI I i p⟩ else s
def rowR (I : Itr) (i : Nat) : Nat → Nat → Bst → Bst
  | 0, _, s => s
  | f + 1, p, s => if i + 2 * p ≤ I.length then rowR I i f (p + 1) (updR I i p s) else s
def colR (I : Itr) : Nat → Nat → Bst → Bst
  | 0, _, s => s
  | f + 1, i, s => if i < I.length then colR I f (i + 1) (rowR I i I.length 1 s) else s
def bestR (I : Itr) : Bst := colR I I.length 0 ⟨0, 0, 0, 0⟩
theorem rowR_opt {I : Itr} {i : Nat} : ∀ f p s, 1 ≤ p → I.length < p + f → Made I s → (s.at_ < i ∨ (s.at_ = i ∧ s.p < p)) → (∀ j r, (j < i ∨ (j = i ∧ r < p)) → Cand I j r → Beats s (savA I j r) j r) →
    Made I (rowR I i f p s) ∧ (rowR I i f p s).at_ ≤ i ∧ ∀ j r, j ≤ i → Cand I j r → Beats (rowR I i f p s) (savA I j r) j r := by
  intro f
  induction f with
  | zero =>
    intro p s hp hl hm ha ho
    exact ⟨hm, by show s.at_ ≤ i; omega, fun j r hj hc => ho j r (by have := hc.2.1; have := hc.1; omega) hc⟩
  | succ f ih =>
    intro p s hp hl hm ha ho
    by_cases hc : i + 2 * p ≤ I.length
    · have e : rowR I i (f + 1) p s = rowR I i f (p + 1) (updR I i p s) := by simp only [rowR]; rw [if_pos hc]
      rw [e]
      have h0 := hm.nn
      by_cases hu : 1 < timI I i p ∧ s.most < savA I i p
      · have eu : updR I i p s = ⟨savA I i p, i, p, timI I i p⟩ := if_pos hu
        rw [eu]
        refine ih (p + 1) _ (by omega) (by omega) (.inr ⟨⟨hp, hc, hu.1⟩, rfl, rfl, by show 0 < savA I i p; omega⟩) (.inr ⟨rfl, by show p < p + 1; omega⟩) fun j r hj hcd => ?_
        by_cases hn : j = i ∧ r = p
        · obtain ⟨rfl, rfl⟩ := hn
          exact .inr ⟨rfl, .inr ⟨rfl, Nat.le_refl _⟩⟩
        · have h1 := ho j r (by omega) hcd
          unfold Beats at h1 ⊢
          dsimp only
          omega
      · have eu : updR I i p s = s := if_neg hu
        rw [eu]
        refine ih (p + 1) _ (by omega) (by omega) hm (by omega) fun j r hj hcd => ?_
        by_cases hn : j = i ∧ r = p
        · obtain ⟨rfl, rfl⟩ := hn
          have h1 : ¬ s.most < savA I j r := fun h2 => hu ⟨by have := hcd.2.2; omega, h2⟩
          unfold Beats
          omega
        · exact ho j r (by omega) hcd
    · have e : rowR I i (f + 1) p s = s := by simp only [rowR]; rw [if_neg hc]
      rw [e]
      exact ⟨hm, by omega, fun j r hj hcd => ho j r (by have := hcd.2.1; omega) hcd⟩
theorem colR_opt {I : Itr} : ∀ f i s, I.length ≤ i + f → Made I s → (s.at_ < i ∨ s = ⟨0, 0, 0, 0⟩) → (∀ j r, j < i → Cand I j r → Beats s (savA I j r) j r) → Opt I (colR I f i s) := by
  intro f
  induction f with
  | zero =>
    intro i s hl hm ha ho
    exact ⟨hm, fun j r hc => ho j r (by have := hc.2.1; have := hc.1; omega) hc⟩
  | succ f ih =>
    intro i s hl hm ha ho
    by_cases hc : i < I.length
    · have e : colR I (f + 1) i s = colR I f (i + 1) (rowR I i I.length 1 s) := by simp only [colR]; rw [if_pos hc]
      rw [e]
      obtain ⟨h1, h2, h3⟩ := rowR_opt (I := I) (i := i) I.length 1 s (by omega) (by omega) hm (by
        rcases ha with ha | ha
        · exact .inl ha
        · subst ha
          dsimp only
          omega) fun j r hj hcd => ho j r (by have := hcd.1; omega) hcd
      exact ih (i + 1) _ (by omega) h1 (.inl (by omega)) fun j r hj hcd => h3 j r (by omega) hcd
    · have e : colR I (f + 1) i s = s := by simp only [colR]; rw [if_neg hc]
      rw [e]
      exact ⟨hm, fun j r hcd => ho j r (by have := hcd.2.1; have := hcd.1; omega) hcd⟩
/-- Both find the same. -/
theorem bestR_is {I : Itr} (hne : ∀ x ∈ I, 1 ≤ x.length) : bestR I = bestI I :=
  (colR_opt I.length 0 ⟨0, 0, 0, 0⟩ (by omega) (.inl rfl) (.inr rfl) fun j r hj _ => by omega).same (bestI_opt hne)
/-- How often, block by block. -/
def BlkI (I : Itr) (i p m : Nat) : Prop := ∀ k, k < p → sameAt I (i + k) (i + m * p + k) = true
theorem sameAt_of {I : Itr} {a b : Nat} (h : I[a]? = I[b]?) (hb : b < I.length) : sameAt I a b = true := by
  have hx := List.getElem?_eq_getElem hb
  rw [sameAt_eq (h.trans hx) hx]
  exact (sameN_iff _ _).2 rfl
theorem blk_mat {I : Itr} {i p n : Nat} (h : ∀ m, 1 ≤ m → m < n → BlkI I i p m) : ∀ k, i ≤ k → k < i + (n - 1) * p → mat I p k := by
  intro k h1 h2
  have hp : 0 < p := by
    rcases Nat.eq_zero_or_pos p with e | e
    · subst e; omega
    · exact e
  have hd := Nat.div_add_mod (k - i) p
  have hlt := Nat.mod_lt (k - i) hp
  obtain ⟨m, hm⟩ : ∃ m, m = (k - i) / p := ⟨_, rfl⟩
  obtain ⟨c, hc⟩ : ∃ c, c = (k - i) % p := ⟨_, rfl⟩
  rw [← hm, ← hc, Nat.mul_comm] at hd
  rw [← hc] at hlt
  have hmn : m < n - 1 := by
    rcases Nat.lt_or_ge m (n - 1) with h3 | h3
    · exact h3
    · have := Nat.mul_le_mul_right p h3
      omega
  have hk : k = i + m * p + c := by omega
  have h3 := sameAt_iff (h (m + 1) (by omega) (by omega) c hlt)
  rw [Nat.succ_mul] at h3
  have e1 : I[i + c]? = I[k]? := by
    rcases Nat.eq_zero_or_pos m with h4 | h4
    · rw [hk, h4]; congr 1; omega
    · rw [hk]; exact (sameAt_iff (h m (by omega) (by omega) c hlt)).1
  have e2 : i + (m * p + p) + c = k + p := by omega
  rw [e2] at h3
  exact sameAt_of (e1.symm.trans h3.1) h3.2
theorem blk_of {I : Itr} {i p m : Nat} (hm1 : 1 ≤ m) (h : ∀ k, i ≤ k → k < i + m * p → mat I p k) : BlkI I i p m := by
  intro c hc
  have key : ∀ m, (∀ k, i ≤ k → k < i + m * p → mat I p k) → I[i + c]? = I[i + m * p + c]? := by
    intro m
    induction m with
    | zero => intro _; rw [Nat.zero_mul, Nat.add_zero]
    | succ m ih =>
      intro hm
      rw [Nat.succ_mul] at hm ⊢
      have h1 := (sameAt_iff (hm (i + m * p + c) (by omega) (by omega))).1
      rw [ih fun k h2 h3 => hm k h2 (by omega), h1]
      congr 1
      omega
  obtain ⟨l, rfl⟩ : ∃ l, m = l + 1 := ⟨m - 1, by omega⟩
  refine sameAt_of (key (l + 1) h) ?_
  rw [Nat.succ_mul] at h ⊢
  have := mat_room (h (i + l * p + c) (by omega) (by omega))
  omega
/-- How often, as the document counts: block by block. -/
theorem tim_blk {I : Itr} {i p n : Nat} (hp : 1 ≤ p) (hn : 1 ≤ n) (hb : ∀ m, 1 ≤ m → m < n → BlkI I i p m) (hs : I.length < i + (n + 1) * p ∨ ¬ BlkI I i p n) : timI I i p = n := by
  refine timI_is hp hn (blk_mat hb) fun h => ?_
  rcases hs with hs | hs
  · have h1 := mat_room (h (i + n * p - 1) (by have := Nat.le_mul_of_pos_left p hn; omega) (by have := Nat.le_mul_of_pos_left p hn; omega))
    rw [Nat.add_mul, Nat.one_mul] at hs
    have h2 := Nat.le_mul_of_pos_left p hn
    omega
  · exact hs (blk_of hn h)
end Tab
end Go.Proofs.YtgoeikihjffeoaaGreat
