/- Tables as rows of nodes: plain mathematics. -/
namespace Go.Proofs.Ytpjppglaieohlaa
namespace Tab

/-- A node: its kind, its partition, its number. -/
structure Nd where
  k : Int
  p : Int
  n : Int

/-- A row of tables: a node, what is below it, what stands behind. -/
inductive F where
  | nil
  | cons (x : Nd) (kids rest : F)

def fine (x : Nd) : Bool :=
  decide (1 ≤ x.n) && (if x.k = 1 then decide (0 ≤ x.p ∧ x.p < 6) else if x.k = 2 ∨ x.k = 4 then decide (x.p = 0) else if x.k = 3 then decide (x.p = 0 ∧ x.n ≤ 128) else false)
/-- How many children. -/
def kn (x : Nd) : Nat := if x.k = 3 then x.n.toNat else if x.k = 4 then 1 else 0
theorem kn_le {x : Nd} (h : fine x = true) : kn x ≤ 128 := by
  unfold fine at h
  unfold kn
  simp only [Bool.and_eq_true, decide_eq_true_eq] at h
  obtain ⟨h1, h2⟩ := h
  split at h2
  · rw [if_neg (by omega), if_neg (by omega)]; omega
  · split at h2
    · rw [if_neg (by omega)]; split <;> omega
    · split at h2
      · rename_i h3
        rw [if_pos h3]
        simp only [decide_eq_true_eq] at h2
        omega
      · cases h2
theorem fine_one {x : Nd} (h : fine x = true) : 1 ≤ x.n := by
  unfold fine at h
  simp only [Bool.and_eq_true, decide_eq_true_eq] at h
  exact h.1

namespace F
def flat : F → List Nd
  | nil => []
  | cons x k r => x :: (flat k ++ flat r)
def cnt : F → Nat
  | nil => 0
  | cons _ _ r => cnt r + 1
def ok : F → Prop
  | nil => True
  | cons x k r => fine x = true ∧ cnt k = kn x ∧ ok k ∧ ok r
/-- How many nodes. -/
def sz : F → Nat
  | nil => 0
  | cons _ k r => 1 + sz k + sz r
/-- One below the other. -/
def dep : F → Nat
  | nil => 0
  | cons _ k r => max (dep k + 1) (dep r)
/-- What one node's ticks are, those of all that is below it being s. -/
def tick (x : Nd) (s : Nat) : Nat := if x.k = 3 then s else if x.k = 4 then s * x.n.toNat else x.n.toNat
def len : F → Nat
  | nil => 0
  | cons x k r => tick x (len k) + len r
/-- Where its tables begin, the first at b. -/
def places (b : Nat) : F → List Nat
  | nil => []
  | cons _ k r => b :: places (b + 1 + sz k) r
def app : F → F → F
  | nil, g => g
  | cons x k r, g => cons x k (app r g)

theorem flat_length (f : F) : f.flat.length = f.sz := by
  induction f with
  | nil => rfl
  | cons x k r hk hr => simp [flat, sz, hk, hr]; omega
theorem cnt_zero {f : F} (h : f.cnt = 0) : f = nil := by
  cases f with
  | nil => rfl
  | cons x k r => simp [cnt] at h
theorem cnt_le_sz (f : F) : f.cnt ≤ f.sz := by
  induction f with
  | nil => simp [cnt, sz]
  | cons x k r _ hr => simp only [cnt, sz]; omega
theorem dep_le_sz (f : F) : f.dep ≤ f.sz := by
  induction f with
  | nil => simp [dep, sz]
  | cons x k r hk hr => simp only [dep, sz]; omega
theorem len_pos {f : F} (h : f.ok) (hc : 0 < f.cnt) : 0 < f.len := by
  induction f with
  | nil => simp [cnt] at hc
  | cons x k r hk _ =>
    obtain ⟨h1, h2, h3, _⟩ := h
    have hn := fine_one h1
    simp only [len, tick]
    split
    · rename_i h4
      have : 0 < k.cnt := by rw [h2]; unfold kn; rw [if_pos h4]; omega
      have := hk h3 this
      omega
    · split
      · rename_i h4 h5
        have : 0 < k.cnt := by rw [h2]; unfold kn; rw [if_neg h4, if_pos h5]; omega
        have h6 := hk h3 this
        have : 0 < k.len * x.n.toNat := Nat.mul_pos h6 (by omega)
        omega
      · omega
theorem app_flat (f g : F) : (f.app g).flat = f.flat ++ g.flat := by
  induction f with
  | nil => rfl
  | cons x k r _ hr => simp [app, flat, hr]
theorem app_cnt (f g : F) : (f.app g).cnt = f.cnt + g.cnt := by
  induction f with
  | nil => simp [app, cnt]
  | cons x k r _ hr => simp only [app, cnt, hr]; omega
theorem app_sz (f g : F) : (f.app g).sz = f.sz + g.sz := by
  induction f with
  | nil => simp [app, sz]
  | cons x k r _ hr => simp only [app, sz, hr]; omega
theorem app_ok {f g : F} (hf : f.ok) (hg : g.ok) : (f.app g).ok := by
  induction f with
  | nil => exact hg
  | cons x k r _ hr => exact ⟨hf.1, hf.2.1, hf.2.2.1, hr hf.2.2.2⟩
theorem app_dep (f g : F) : (f.app g).dep = max f.dep g.dep := by
  induction f with
  | nil => simp [app, dep]
  | cons x k r _ hr => simp only [app, dep, hr]; omega
theorem app_len (f g : F) : (f.app g).len = f.len + g.len := by
  induction f with
  | nil => simp [app, len]
  | cons x k r _ hr => simp only [app, len, hr]; omega
/-- A row of tables falls into its first so many and the others. -/
theorem split {f : F} (h : f.ok) (m : Nat) (hm : m ≤ f.cnt) : ∃ a b : F, a.ok ∧ b.ok ∧ a.cnt = m ∧ b.cnt = f.cnt - m ∧ f = a.app b := by
  induction m generalizing f with
  | zero => exact ⟨nil, f, trivial, h, rfl, rfl, rfl⟩
  | succ m ih =>
    cases f with
    | nil => simp [cnt] at hm
    | cons x k r =>
      simp only [cnt] at hm
      obtain ⟨a, b, ha, hb, hca, hcb, e⟩ := ih (f := r) h.2.2.2 (by omega)
      exact ⟨cons x k a, b, ⟨h.1, h.2.1, h.2.2.1, ha⟩, hb, by simp [cnt, hca], by simp only [cnt]; omega, by simp [app, e]⟩
end F

/-- How many nodes it takes until none is missing, m being so; none, where one is wrong or they end. -/
def scan : Nat → List Nd → Option Nat
  | _, [] => none
  | m, x :: l => if fine x = true then (if m + kn x = 1 then some 1 else (scan (m + kn x - 1) l).map (· + 1)) else none

theorem drop_cons {l : List Nd} {i : Nat} {x : Nd} (h : l[i]? = some x) : l.drop i = x :: l.drop (i + 1) := by
  obtain ⟨hi, e⟩ := List.getElem?_eq_some_iff.1 h
  rw [List.drop_eq_getElem_cons hi, e]
theorem scan_bad {m : Nat} {x : Nd} {l : List Nd} (h : ¬ fine x = true) : scan m (x :: l) = none := by
  simp only [scan]
  rw [if_neg h]
theorem scan_last {m : Nat} {x : Nd} {l : List Nd} (h : fine x = true) (hk : m + kn x = 1) : scan m (x :: l) = some 1 := by
  simp only [scan]
  rw [if_pos h, if_pos hk]
theorem scan_next {m : Nat} {x : Nd} {l : List Nd} (h : fine x = true) (hk : ¬ m + kn x = 1) : scan m (x :: l) = (scan (m + kn x - 1) l).map (· + 1) := by
  simp only [scan]
  rw [if_pos h, if_neg hk]
theorem scan_flat (f : F) (h : f.ok) (m : Nat) (hm : 0 < f.cnt) (t : List Nd) :
    scan (f.cnt + m) (f.flat ++ t) = if m = 0 then some f.sz else (scan m t).map (· + f.sz) := by
  induction f generalizing m t with
  | nil => simp [F.cnt] at hm
  | cons x k r hk hr =>
    obtain ⟨h1, h2, h3, h4⟩ := h
    simp only [F.flat, List.cons_append, scan, h1, if_true, F.cnt, F.sz]
    have hrest : ∀ m, 0 < r.cnt + m → scan (r.cnt + m) (r.flat ++ t) = if m = 0 then some r.sz else (scan m t).map (· + r.sz) := by
      intro m hm
      by_cases hr0 : r.cnt = 0
      · obtain rfl := F.cnt_zero hr0
        simp only [F.cnt, F.flat, F.sz, List.nil_append, Nat.zero_add] at hm ⊢
        rw [if_neg (by omega)]
        simp
      · exact hr h4 m (by omega) t
    by_cases hk0 : k.cnt = 0
    · have hkn : kn x = 0 := by omega
      obtain rfl := F.cnt_zero hk0
      simp only [hkn, F.flat, F.sz, List.nil_append, Nat.add_zero]
      by_cases hz : r.cnt + m = 0
      · rw [if_pos (by omega), if_pos (by omega)]
        have : r = .nil := F.cnt_zero (by omega)
        subst this
        rfl
      · rw [if_neg (by omega), show r.cnt + 1 + m - 1 = r.cnt + m by omega, hrest m (by omega)]
        split
        · simp; omega
        · cases scan m t <;> simp; omega
    · rw [if_neg (by omega), show r.cnt + 1 + m + kn x - 1 = k.cnt + (r.cnt + m) by omega, List.append_assoc, hk h3 _ (by omega)]
      by_cases hz : r.cnt + m = 0
      · rw [if_pos hz, if_pos (by omega)]
        have : r = .nil := F.cnt_zero (by omega)
        subst this
        simp [F.sz]; omega
      · rw [if_neg hz, hrest m (by omega)]
        split
        · simp; omega
        · cases scan m t <;> simp; omega

theorem scan_some (l : List Nd) (m n : Nat) (hm : 0 < m) (h : scan m l = some n) : ∃ (f : F) (t : List Nd), f.ok ∧ f.cnt = m ∧ f.sz = n ∧ l = f.flat ++ t := by
  induction l generalizing m n with
  | nil => simp [scan] at h
  | cons x l ih =>
    simp only [scan] at h
    split at h
    · rename_i hx
      split at h
      · rename_i h1
        simp only [Option.some.injEq] at h
        refine ⟨.cons x .nil .nil, l, ⟨hx, by simp [F.cnt]; omega, trivial, trivial⟩, by simp [F.cnt]; omega, by simp [F.sz]; omega, rfl⟩
      · cases hs : scan (m + kn x - 1) l with
        | none => rw [hs] at h; simp at h
        | some j =>
          rw [hs] at h
          simp only [Option.map_some, Option.some.injEq] at h
          obtain ⟨g, t, hg, hc, hz, e⟩ := ih _ _ (by omega) hs
          obtain ⟨a, b, ha, hb, hca, hcb, e2⟩ := F.split hg (kn x) (by omega)
          subst e2
          rw [F.app_sz] at hz
          refine ⟨.cons x a b, t, ⟨hx, hca, ha, hb⟩, by simp only [F.cnt]; omega, by simp only [F.sz]; omega, ?_⟩
          rw [e, F.app_flat]
          simp [F.flat]
    · cases h

/-- How many nodes the one at a place has, with all below it. -/
def size (l : List Nd) (at_ : Int) : Nat := if 0 ≤ at_ ∧ at_ < l.length then (scan 1 (l.drop at_.toNat)).getD 0 else 0
theorem size_def (l : List Nd) (a : Nat) (h : a < l.length) : size l (a : Int) = (scan 1 (l.drop a)).getD 0 := by
  unfold size
  rw [if_pos ⟨by omega, by omega⟩, Int.toNat_natCast]
theorem size_none (l : List Nd) (a : Int) (h : a < 0 ∨ (l.length : Int) ≤ a) : size l a = 0 := by
  unfold size
  rw [if_neg (by omega)]
theorem size_le (l : List Nd) (a : Int) : size l a ≤ l.length := by
  unfold size
  split
  · cases h : scan 1 (l.drop a.toNat) with
    | none => simp
    | some n =>
      obtain ⟨f, t, _, _, h3, h4⟩ := scan_some _ _ _ (by omega) h
      have := congrArg List.length h4
      rw [List.length_drop, List.length_append, F.flat_length, h3] at this
      simp; omega
  · omega
/-- A table at a place: one tree, with what is behind it. -/
theorem size_tree {l : List Nd} {a : Int} (h : size l a ≠ 0) : ∃ (x : Nd) (k : F) (t : List Nd), (F.cons x k .nil).ok ∧ 0 ≤ a ∧ a < l.length ∧ l.drop a.toNat = x :: (k.flat ++ t) ∧ size l a = 1 + k.sz := by
  unfold size at h ⊢
  split at h
  · rename_i ha
    rw [if_pos ha]
    cases hs : scan 1 (l.drop a.toNat) with
    | none => rw [hs] at h; simp at h
    | some n =>
      obtain ⟨f, t, h1, h2, h3, h4⟩ := scan_some _ _ _ (by omega) hs
      cases f with
      | nil => simp [F.cnt] at h2
      | cons x k r =>
        have : r = .nil := F.cnt_zero (by simp only [F.cnt] at h2; omega)
        subst this
        refine ⟨x, k, t, h1, ha.1, ha.2, ?_, ?_⟩
        · rw [h4]; simp [F.flat]
        · simp only [Option.getD_some]; rw [← h3]; simp [F.sz]
  · exact absurd rfl h
theorem size_at {l : List Nd} {a : Nat} {x : Nd} {k r : F} {t : List Nd} (h : (F.cons x k r).ok) (hl : l.drop a = (F.cons x k r).flat ++ t) : size l (a : Int) = 1 + k.sz := by
  have hlen : a < l.length := by
    rcases Nat.lt_or_ge a l.length with h' | h'
    · exact h'
    · rw [List.drop_eq_nil_of_le h'] at hl; simp [F.flat] at hl
  unfold size
  rw [if_pos ⟨by omega, by omega⟩, Int.toNat_natCast, hl]
  have e : (F.cons x k r).flat ++ t = (F.cons x k .nil).flat ++ (r.flat ++ t) := by simp [F.flat]
  have := scan_flat (F.cons x k .nil) ⟨h.1, h.2.1, h.2.2.1, trivial⟩ 0 (by simp [F.cnt]) (r.flat ++ t)
  rw [e]
  simp only [F.cnt] at this
  rw [this]
  simp [F.sz]
end Tab
end Go.Proofs.Ytpjppglaieohlaa
