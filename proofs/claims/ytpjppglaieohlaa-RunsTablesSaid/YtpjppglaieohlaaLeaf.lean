/- The leaves of a table in the order of time; a walk over it with a stack of its own: plain mathematics. -/
import Derived.Test.YtpjppglaieohlaaPath
namespace Go.Proofs.Ytpjppglaieohlaa
namespace Tab

/-- A run: whose it is, how many ticks. -/
structure Rn where
  p : Int
  n : Nat
def reps : Nat → List Rn → List Rn
  | 0, _ => []
  | n + 1, s => s ++ reps n s
/-- Whose a leaf is. -/
def whose (x : Nd) : Int := if x.k = 2 then -1 else x.p
def one (x : Nd) (s : List Rn) : List Rn := if x.k = 3 then s else if x.k = 4 then reps x.n.toNat s else [⟨whose x, x.n.toNat⟩]
def F.lvs : F → List Rn
  | nil => []
  | cons x k r => one x (lvs k) ++ lvs r
def ticks : List Rn → Nat
  | [] => 0
  | r :: s => r.n + ticks s
theorem ticks_append (a b : List Rn) : ticks (a ++ b) = ticks a + ticks b := by
  induction a with
  | nil => simp [ticks]
  | cons x a ih => simp only [List.cons_append, ticks, ih]; omega
theorem ticks_reps (n : Nat) (s : List Rn) : ticks (reps n s) = n * ticks s := by
  induction n with
  | zero => simp [reps, ticks]
  | succ n ih => rw [reps, ticks_append, ih, Nat.succ_mul]; omega
theorem one_ticks (x : Nd) (s : List Rn) : ticks (one x s) = F.tick x (ticks s) := by
  unfold one F.tick
  split
  · rfl
  · split
    · rw [ticks_reps, Nat.mul_comm]
    · simp [ticks]
theorem lvs_ticks (f : F) : ticks f.lvs = f.len := by
  induction f with
  | nil => rfl
  | cons x k r hk hr => simp only [F.lvs, F.len, ticks_append, one_ticks, hk, hr]
theorem reps_mem {n : Nat} {s : List Rn} {r : Rn} (h : r ∈ reps n s) : r ∈ s := by
  induction n with
  | zero => simp [reps] at h
  | succ n ih =>
    rcases List.mem_append.1 h with h | h
    · exact h
    · exact ih h
theorem lvs_pos {f : F} (h : f.ok) : ∀ r ∈ f.lvs, 1 ≤ r.n := by
  induction f with
  | nil => intro r hr; simp [F.lvs] at hr
  | cons x k r hk hr =>
    intro q hq
    rcases List.mem_append.1 hq with hq | hq
    · unfold one at hq
      split at hq
      · exact hk h.2.2.1 q hq
      · split at hq
        · exact hk h.2.2.1 q (reps_mem hq)
        · simp at hq
          subst hq
          have := fine_one h.1
          show 1 ≤ x.n.toNat
          omega
    · exact hr h.2.2.2 q hq
theorem length_le_ticks {s : List Rn} (h : ∀ r ∈ s, 1 ≤ r.n) : s.length ≤ ticks s := by
  induction s with
  | nil => simp [ticks]
  | cons r s ih =>
    have h1 := h r (by simp)
    have h2 := ih fun q hq => h q (by simp [hq])
    simp only [List.length_cons, ticks]
    omega
theorem lvs_leaf {x : Nd} (h3 : ¬ x.k = 3) (h4 : ¬ x.k = 4) (s : List Rn) : one x s = [⟨whose x, x.n.toNat⟩] := by unfold one; rw [if_neg h3, if_neg h4]
theorem lvs_seq {x : Nd} (h3 : x.k = 3) (s : List Rn) : one x s = s := if_pos h3
theorem lvs_rep {x : Nd} (h4 : x.k = 4) (s : List Rn) : one x s = reps x.n.toNat s := by unfold one; rw [if_neg (by omega), if_pos h4]
theorem reps_one {n : Nat} (h : 1 ≤ n) (s : List Rn) : reps n s = s ++ reps (n - 1) s := by
  obtain ⟨m, rfl⟩ : ∃ m, n = m + 1 := ⟨n - 1, by omega⟩
  rfl

/-- What comes behind a table that ends ahead of place p, st being the levels above it, the innermost first: the leaves still to come. -/
inductive Beh (l : List Nd) : List (Nat × Nat) → Nat → List Rn → Prop
  | top : Beh l [] l.length []
  | seq {o : List (Nat × Nat)} {p : Nat} {f : F} {t : List Nd} {td : List Rn} (hok : f.ok) (hl : l.drop p = f.flat ++ t) (hd : o.length + 1 + f.dep ≤ 16) (h : Beh l o (p + f.sz) td) : Beh l ((f.cnt + 1, 0) :: o) p (f.lvs ++ td)
  | rep {o : List (Nat × Nat)} {a b : Nat} {y : Nd} {k : F} {t : List Nd} {td : List Rn} (hok : (F.cons y k .nil).ok) (ha : 1 ≤ a) (ha2 : a ≤ 9223372036854775807) (hb : 1 ≤ b) (hl : l.drop b = y :: (k.flat ++ t)) (hd : o.length + 1 + (k.dep + 1) ≤ 16)
      (h : Beh l o (b + 1 + k.sz) td) : Beh l ((a, b) :: o) (b + 1 + k.sz) (reps (a - 1) (one y k.lvs) ++ td)
/-- What comes from the place p on. -/
def Ats (l : List Nd) (st : List (Nat × Nat)) (p : Nat) (td : List Rn) : Prop :=
  (st = [] ∧ p = l.length ∧ td = []) ∨ ∃ (x : Nd) (k : F) (t : List Nd) (u : List Rn), (F.cons x k .nil).ok ∧ l.drop p = x :: (k.flat ++ t) ∧ st.length + (k.dep + 1) ≤ 16 ∧ Beh l st (p + 1 + k.sz) u ∧ td = one x k.lvs ++ u
/-- The same, at a leaf or behind all. -/
def AtL (l : List Nd) (st : List (Nat × Nat)) (p : Nat) (td : List Rn) : Prop :=
  (st = [] ∧ p = l.length ∧ td = []) ∨ ∃ (x : Nd) (u : List Rn), fine x = true ∧ ¬ x.k = 3 ∧ ¬ x.k = 4 ∧ l[p]? = some x ∧ st.length ≤ 15 ∧ Beh l st (p + 1) u ∧ td = ⟨whose x, x.n.toNat⟩ :: u

theorem drop_get {l : List Nd} {p : Nat} {x : Nd} {t : List Nd} (h : l.drop p = x :: t) : l[p]? = some x ∧ l.drop (p + 1) = t ∧ p < l.length := by
  have h1 : (l.drop p)[0]? = some x := by rw [h]; rfl
  have h2 : l[p]? = some x := by simpa using h1
  refine ⟨h2, ?_, (List.getElem?_eq_some_iff.1 h2).1⟩
  rw [← List.drop_drop, h]
  rfl
theorem Ats.out {l : List Nd} {st : List (Nat × Nat)} {p : Nat} {td : List Rn} (h : Ats l st p td) (hp : l.length ≤ p) : AtL l st p td := by
  rcases h with h | ⟨x, k, t, u, _, h2, _⟩
  · exact .inl h
  · have := (drop_get h2).2.2
    omega
theorem Ats.le {l : List Nd} {st : List (Nat × Nat)} {p : Nat} {td : List Rn} (h : Ats l st p td) : p ≤ l.length := by
  rcases h with ⟨_, h, _⟩ | ⟨x, k, t, u, _, h2, _⟩
  · omega
  · have := (drop_get h2).2.2
    omega
theorem Ats.leaf {l : List Nd} {st : List (Nat × Nat)} {p : Nat} {td : List Rn} (h : Ats l st p td) {x : Nd} (hx : l[p]? = some x) (h3 : ¬ x.k = 3) (h4 : ¬ x.k = 4) : AtL l st p td := by
  rcases h with h | ⟨y, k, t, u, h1, h2, h5, h6, h7⟩
  · exact .inl h
  · obtain ⟨e, _, _⟩ := drop_get h2
    rw [hx] at e
    injection e with e
    subst e
    have hk : k = .nil := F.cnt_zero (by rw [h1.2.1]; unfold kn; rw [if_neg h3, if_neg h4])
    subst hk
    exact .inr ⟨x, u, h1.1, h3, h4, hx, by omega, h6, by rw [h7, lvs_leaf h3 h4]; rfl⟩
theorem Ats.short {l : List Nd} {st : List (Nat × Nat)} {p : Nat} {td : List Rn} (h : Ats l st p td) (hp : p < l.length) : st.length ≤ 15 := by
  rcases h with h | ⟨y, k, t, u, h1, h2, h5, h6, h7⟩
  · omega
  · omega
theorem Ats.fine {l : List Nd} {st : List (Nat × Nat)} {p : Nat} {td : List Rn} (h : Ats l st p td) {x : Nd} (hx : l[p]? = some x) : Tab.fine x = true := by
  rcases h with h | ⟨y, k, t, u, h1, h2, h5, h6, h7⟩
  · have := (List.getElem?_eq_some_iff.1 hx).1
    omega
  · obtain ⟨e, _, _⟩ := drop_get h2
    rw [hx] at e
    injection e with e
    subst e
    exact h1.1
theorem Ats.seq {l : List Nd} {st : List (Nat × Nat)} {p : Nat} {td : List Rn} (h : Ats l st p td) {x : Nd} (hx : l[p]? = some x) (h3 : x.k = 3) : Ats l ((x.n.toNat, 0) :: st) (p + 1) td := by
  rcases h with h | ⟨y, k, t, u, h1, h2, h5, h6, h7⟩
  · have := (List.getElem?_eq_some_iff.1 hx).1
    omega
  · obtain ⟨e, e2, _⟩ := drop_get h2
    rw [hx] at e
    injection e with e
    subst e
    obtain ⟨hf, hc, hok, _⟩ := h1
    have hc' : k.cnt = x.n.toNat := by rw [hc]; unfold kn; rw [if_pos h3]
    have hn := fine_one hf
    cases k with
    | nil => simp only [F.cnt] at hc'; omega
    | cons y q r =>
      have e3 : x.n.toNat = r.cnt + 1 := by rw [← hc']; rfl
      have e4 : l.drop (p + 1) = y :: (q.flat ++ (r.flat ++ t)) := by rw [e2]; simp [F.flat]
      have e5 : l.drop (p + 1 + 1 + q.sz) = r.flat ++ t := by
        obtain ⟨_, e6, _⟩ := drop_get e4
        rw [← List.drop_drop, e6, List.drop_left' (F.flat_length q)]
      simp only [F.dep] at h5
      refine .inr ⟨y, q, r.flat ++ t, r.lvs ++ u, ⟨hok.1, hok.2.1, hok.2.2.1, trivial⟩, e4, by simp only [List.length_cons]; omega, ?_, ?_⟩
      · rw [e3]
        exact .seq hok.2.2.2 e5 (by omega) (by have : p + 1 + 1 + q.sz + r.sz = p + 1 + (F.cons y q r).sz := by simp only [F.sz]; omega
                                               rw [this]; exact h6)
      · rw [h7, lvs_seq h3, F.lvs, List.append_assoc]
theorem Ats.rep {l : List Nd} {st : List (Nat × Nat)} {p : Nat} {td : List Rn} (h : Ats l st p td) {x : Nd} (hx : l[p]? = some x) (h4 : x.k = 4) (hn2 : x.n ≤ 9223372036854775807) : Ats l ((x.n.toNat, p + 1) :: st) (p + 1) td := by
  rcases h with h | ⟨y, k, t, u, h1, h2, h5, h6, h7⟩
  · have := (List.getElem?_eq_some_iff.1 hx).1
    omega
  · obtain ⟨e, e2, _⟩ := drop_get h2
    rw [hx] at e
    injection e with e
    subst e
    obtain ⟨hf, hc, hok, _⟩ := h1
    have hc' : k.cnt = 1 := by rw [hc]; unfold kn; rw [if_neg (by omega), if_pos h4]
    have hn := fine_one hf
    cases k with
    | nil => simp [F.cnt] at hc'
    | cons y q r =>
      obtain rfl : r = .nil := F.cnt_zero (by simp only [F.cnt] at hc'; omega)
      have e4 : l.drop (p + 1) = y :: (q.flat ++ t) := by rw [e2]; simp [F.flat]
      have e6 : p + 1 + (F.cons y q .nil).sz = p + 1 + 1 + q.sz := by simp only [F.sz]; omega
      simp only [F.dep] at h5
      rw [e6] at h6
      refine .inr ⟨y, q, t, reps (x.n.toNat - 1) (one y q.lvs) ++ u, hok, e4, by simp only [List.length_cons]; omega, .rep hok (by omega) (by omega) (by omega) e4 (by omega) h6, ?_⟩
      rw [h7, lvs_rep h4, reps_one (by omega)]
      simp [F.lvs]
/-- The levels and the place behind a leaf that ends ahead of p. -/
def popm : List (Nat × Nat) → Nat → List (Nat × Nat) × Nat
  | [], p => ([], p)
  | (a, b) :: o, p => if 1 < a then ((a - 1, b) :: o, if 0 < b then b else p) else popm o p
theorem popm_more {a b : Nat} (o : List (Nat × Nat)) (p : Nat) (h : 1 < a) : popm ((a, b) :: o) p = ((a - 1, b) :: o, if 0 < b then b else p) := by simp only [popm]; rw [if_pos h]
theorem popm_less {a b : Nat} (o : List (Nat × Nat)) (p : Nat) (h : ¬ 1 < a) : popm ((a, b) :: o) p = popm o p := by simp only [popm]; rw [if_neg h]
theorem Beh.pop {l : List Nd} {st : List (Nat × Nat)} {p : Nat} {td : List Rn} (h : Beh l st p td) : Ats l (popm st p).1 (popm st p).2 td := by
  induction h with
  | top => exact .inl ⟨rfl, rfl, rfl⟩
  | @seq o p f t td hok hl hd h ih =>
    cases f with
    | nil =>
      rw [popm_less _ _ (by simp [F.cnt])]
      simpa [F.lvs, F.sz] using ih
    | cons y q r =>
      rw [popm_more _ _ (by simp [F.cnt])]
      show Ats l (((F.cons y q r).cnt + 1 - 1, 0) :: o) p _
      have e4 : l.drop p = y :: (q.flat ++ (r.flat ++ t)) := by rw [hl]; simp [F.flat]
      have e5 : l.drop (p + 1 + q.sz) = r.flat ++ t := by
        obtain ⟨_, e6, _⟩ := drop_get e4
        rw [← List.drop_drop, e6, List.drop_left' (F.flat_length q)]
      simp only [F.dep] at hd
      refine .inr ⟨y, q, r.flat ++ t, r.lvs ++ td, ⟨hok.1, hok.2.1, hok.2.2.1, trivial⟩, e4, by simp only [List.length_cons]; omega, ?_, by rw [F.lvs, List.append_assoc]⟩
      exact .seq hok.2.2.2 e5 (by omega) (by have : p + 1 + q.sz + r.sz = p + (F.cons y q r).sz := by simp only [F.sz]; omega
                                             rw [this]; exact h)
  | @rep o a b y k t td hok ha ha2 hb hl hd h ih =>
    by_cases h1 : 1 < a
    · rw [popm_more _ _ h1]
      dsimp only
      rw [if_pos (by omega)]
      refine .inr ⟨y, k, t, reps (a - 1 - 1) (one y k.lvs) ++ td, hok, hl, by simp only [List.length_cons]; omega, .rep hok (by omega) (by omega) hb hl hd h, ?_⟩
      rw [reps_one (n := a - 1) (by omega), List.append_assoc]
    · rw [popm_less _ _ h1]
      have : a - 1 = 0 := by omega
      rw [this]
      exact ih
/-- What the counts are. -/
theorem Beh.bound {l : List Nd} {st : List (Nat × Nat)} {p : Nat} {td : List Rn} (h : Beh l st p td) : ∀ e ∈ st, 1 ≤ e.1 ∧ e.1 ≤ max 9223372036854775807 (l.length + 1) ∧ e.2 ≤ l.length := by
  induction h with
  | top => simp
  | @seq o p f t td hok hl hd h ih =>
    intro e he
    rcases List.mem_cons.1 he with rfl | he
    · have h1 := congrArg List.length hl
      rw [List.length_drop, List.length_append, F.flat_length] at h1
      have h2 := F.cnt_le_sz f
      dsimp only
      omega
    · exact ih e he
  | @rep o a b y k t td hok ha ha2 hb hl hd h ih =>
    intro e he
    rcases List.mem_cons.1 he with rfl | he
    · have := (drop_get hl).2.2
      dsimp only
      omega
    · exact ih e he
/-- At the beginning. -/
theorem Ats.start {x : Nd} {k : F} (hok : (F.cons x k .nil).ok) (hd : k.dep + 1 ≤ 16) : Ats (x :: k.flat) [] 0 (one x k.lvs) := by
  refine .inr ⟨x, k, [], [], hok, by simp, by simpa using hd, ?_, by simp⟩
  have : (0 : Nat) + 1 + k.sz = (x :: k.flat).length := by simp only [List.length_cons, F.flat_length]; omega
  rw [this]
  exact .top

/-- Whose tick t of the runs is; -1 of none. -/
def whoAt : List Rn → Int → Int
  | [], _ => -1
  | r :: s, t => if t < 0 then -1 else if t < r.n then r.p else whoAt s (t - r.n)
theorem whoAt_neg (s : List Rn) (t : Int) (h : t < 0) : whoAt s t = -1 := by
  cases s with
  | nil => rfl
  | cons r s => simp only [whoAt]; rw [if_pos h]
theorem whoAt_at (a : List Rn) (r : Rn) (s : List Rn) (j : Nat) (h : j < r.n) : whoAt (a ++ r :: s) ((ticks a : Int) + j) = r.p := by
  induction a with
  | nil =>
    simp only [List.nil_append, ticks, whoAt]
    rw [if_neg (by omega), if_pos (by omega)]
  | cons x a ih =>
    simp only [List.cons_append, ticks, whoAt]
    rw [if_neg (by omega), if_neg (by omega)]
    rw [show ((x.n + ticks a : Nat) : Int) + j - x.n = (ticks a : Int) + j by omega]
    exact ih
theorem whoAt_out (s : List Rn) (t : Int) (h : (ticks s : Int) ≤ t) : whoAt s t = -1 := by
  induction s generalizing t with
  | nil => rfl
  | cons r s ih =>
    simp only [ticks] at h
    simp only [whoAt]
    split
    · rfl
    · rw [if_neg (by omega)]
      exact ih _ (by omega)
end Tab
end Go.Proofs.Ytpjppglaieohlaa
