/- Rows of items, folded step by step: what stays, what gets less, how deep they grow; periods of a row: plain mathematics. -/
import Derived.Test.YtgoeikihjffeoaaGreatLow2
namespace Go.Proofs.YtgoeikihjffeoaaGreat
namespace Tab

/-- The leaf of a run. -/
def leafN (r : Rn) : Nd := if r.p = -1 then ⟨2, 0, (r.n : Int)⟩ else ⟨1, r.p, (r.n : Int)⟩
/-- A row of runs as items. -/
def itemsF : List Rn → F
  | [] => .nil
  | r :: s => .cons (leafN r) .nil (itemsF s)
theorem leafN_one (r : Rn) (s : List Rn) : one (leafN r) s = [r] := by
  unfold leafN one whose
  split
  · rename_i h
    simp
    rw [← h]
  · simp
theorem itemsF_lvs (L : List Rn) : (itemsF L).lvs = L := by
  induction L with
  | nil => rfl
  | cons r s ih => simp only [itemsF, F.lvs, leafN_one, ih]; rfl
theorem itemsF_cnt (L : List Rn) : (itemsF L).cnt = L.length := by
  induction L with
  | nil => rfl
  | cons r s ih => simp only [itemsF, F.cnt, ih, List.length_cons]
theorem itemsF_sz (L : List Rn) : (itemsF L).sz = L.length := by
  induction L with
  | nil => rfl
  | cons r s ih => simp only [itemsF, F.sz, ih, List.length_cons]; omega
theorem leafN_kn (r : Rn) : kn (leafN r) = 0 := by
  unfold leafN kn
  split <;> simp
theorem leafN_fine {r : Rn} (h : 1 ≤ r.n ∧ -1 ≤ r.p ∧ r.p ≤ 5) : fine (leafN r) = true := by
  unfold leafN fine
  split <;> simp <;> omega
theorem itemsF_ok {L : List Rn} (h : ∀ r ∈ L, 1 ≤ r.n ∧ -1 ≤ r.p ∧ r.p ≤ 5) : (itemsF L).ok := by
  induction L with
  | nil => trivial
  | cons r s ih => exact ⟨leafN_fine (h r (by simp)), by rw [leafN_kn]; rfl, trivial, ih fun q hq => h q (by simp [hq])⟩
theorem itemsF_append (a b : List Rn) : itemsF (a ++ b) = (itemsF a).app (itemsF b) := by
  induction a with
  | nil => rfl
  | cons x a ih => simp only [List.cons_append, itemsF, F.app, ih]

theorem app_lvs (f g : F) : (f.app g).lvs = f.lvs ++ g.lvs := by
  induction f with
  | nil => rfl
  | cons x k r _ hr => simp only [F.app, F.lvs, hr, List.append_assoc]
theorem app_assoc (f g h : F) : (f.app g).app h = f.app (g.app h) := by
  induction f with
  | nil => rfl
  | cons x k r _ hr => simp only [F.app, hr]
theorem app_nil (f : F) : f.app .nil = f := by
  induction f with
  | nil => rfl
  | cons x k r _ hr => simp only [F.app, hr]
theorem app_ok_iff (f g : F) : (f.app g).ok ↔ f.ok ∧ g.ok := by
  induction f with
  | nil => simp [F.app, F.ok]
  | cons x k r _ hr => simp only [F.app, F.ok, hr]; exact ⟨fun ⟨a, b, c, d, e⟩ => ⟨⟨a, b, c, d⟩, e⟩, fun ⟨⟨a, b, c, d⟩, e⟩ => ⟨a, b, c, d, e⟩⟩
/-- Items as one table. -/
def wrapF (g : F) : F := if g.cnt = 1 then g else .cons ⟨3, 0, (g.cnt : Int)⟩ g .nil
theorem wrapF_cnt (g : F) : (wrapF g).cnt = 1 := by
  unfold wrapF
  split
  · assumption
  · rfl
theorem wrapF_lvs (g : F) : (wrapF g).lvs = g.lvs := by
  unfold wrapF
  split
  · rfl
  · simp only [F.lvs, List.append_nil]
    exact lvs_seq rfl _
theorem wrapF_ok {g : F} (h : g.ok) (h1 : 1 ≤ g.cnt) (h2 : g.cnt ≤ 128) : (wrapF g).ok := by
  unfold wrapF
  split
  · exact h
  · refine ⟨?_, by simp [kn], h, trivial⟩
    unfold fine
    simp
    omega
theorem wrapF_sz (g : F) : (wrapF g).sz = g.sz + if g.cnt = 1 then 0 else 1 := by
  unfold wrapF
  split
  · rfl
  · simp only [F.sz]; omega
theorem wrapF_dep (g : F) : (wrapF g).dep ≤ g.dep + 1 ∧ (g.cnt = 1 → (wrapF g).dep = g.dep) := by
  unfold wrapF
  split
  · exact ⟨by omega, fun _ => rfl⟩
  · rename_i h
    exact ⟨by simp only [F.dep]; omega, fun h' => absurd h' h⟩
/-- A table of items is one tree. -/
theorem wrapF_tree (g : F) : ∃ x k, wrapF g = .cons x k .nil := by
  have h := wrapF_cnt g
  cases hw : wrapF g with
  | nil => rw [hw] at h; simp [F.cnt] at h
  | cons x k r =>
    rw [hw] at h
    simp only [F.cnt] at h
    have : r = .nil := F.cnt_zero (by omega)
    exact ⟨x, k, by rw [this]⟩
/-- So many times the same items. -/
def timesF : Nat → F → F
  | 0, _ => .nil
  | n + 1, g => g.app (timesF n g)
theorem timesF_lvs (n : Nat) (g : F) : (timesF n g).lvs = reps n g.lvs := by
  induction n with
  | zero => rfl
  | succ n ih => simp only [timesF, app_lvs, ih]; rfl
theorem timesF_cnt (n : Nat) (g : F) : (timesF n g).cnt = n * g.cnt := by
  induction n with
  | zero => simp [timesF, F.cnt]
  | succ n ih => simp only [timesF, F.app_cnt, ih, Nat.succ_mul]; omega
theorem timesF_sz (n : Nat) (g : F) : (timesF n g).sz = n * g.sz := by
  induction n with
  | zero => simp [timesF, F.sz]
  | succ n ih => simp only [timesF, F.app_sz, ih, Nat.succ_mul]; omega
/-- One item for so many times the same ones. -/
def foldF (n : Nat) (g : F) : F := .cons ⟨4, 0, (n : Int)⟩ (wrapF g) .nil
theorem foldF_lvs (n : Nat) (g : F) : (foldF n g).lvs = reps n g.lvs := by
  unfold foldF
  simp only [F.lvs, List.append_nil, wrapF_lvs]
  rw [lvs_rep rfl]
  rfl
theorem foldF_ok {n : Nat} {g : F} (h : g.ok) (h1 : 1 ≤ g.cnt) (h2 : g.cnt ≤ 128) (hn : 1 ≤ n) : (foldF n g).ok := by
  refine ⟨?_, by rw [wrapF_cnt]; rfl, wrapF_ok h h1 h2, trivial⟩
  unfold fine
  simp
  omega
theorem foldF_sz (n : Nat) (g : F) : (foldF n g).sz = 1 + g.sz + if g.cnt = 1 then 0 else 1 := by
  simp only [foldF, F.sz, wrapF_sz]
  omega
/-- How many leaves a tree has, and how deep it may be then. -/
def wide : F → Prop
  | .nil => True
  | .cons x k r => 2 ^ k.dep ≤ (one x k.lvs).length * (one x k.lvs).length ∧ wide r
theorem wide_app (f g : F) : wide (f.app g) ↔ wide f ∧ wide g := by
  induction f with
  | nil => simp [F.app, wide]
  | cons x k r _ hr => simp only [F.app, wide, hr, and_assoc]
theorem wide_items (L : List Rn) : wide (itemsF L) := by
  induction L with
  | nil => trivial
  | cons r s ih => exact ⟨by rw [leafN_one]; simp [F.dep], ih⟩
theorem sq_le {a b : Nat} (h : a ≤ b) : a * a ≤ b * b := Nat.mul_le_mul h h
theorem wide_dep {f : F} (h : wide f) (hc : 1 ≤ f.cnt) : 2 ^ f.dep ≤ 2 * (f.lvs.length * f.lvs.length) ∧ 1 ≤ f.lvs.length := by
  induction f with
  | nil => simp [F.cnt] at hc
  | cons x k r _ hr =>
    obtain ⟨h1, h2⟩ := h
    have h3 : 1 ≤ 2 ^ k.dep := Nat.one_le_two_pow
    have h4 : 1 ≤ (one x k.lvs).length := by
      rcases Nat.eq_zero_or_pos (one x k.lvs).length with e | e
      · rw [e] at h1; omega
      · exact e
    have e : (F.cons x k r).lvs.length = (one x k.lvs).length + r.lvs.length := by simp [F.lvs]
    rw [e]
    refine ⟨?_, by omega⟩
    have h5 := sq_le (show (one x k.lvs).length ≤ (one x k.lvs).length + r.lvs.length by omega)
    have h6 : 2 ^ (k.dep + 1) ≤ 2 * (((one x k.lvs).length + r.lvs.length) * ((one x k.lvs).length + r.lvs.length)) := by
      rw [Nat.pow_succ, Nat.mul_comm]
      omega
    simp only [F.dep]
    by_cases hm : r.dep ≤ k.dep + 1
    · rw [Nat.max_eq_left hm]
      exact h6
    · rw [Nat.max_eq_right (by omega)]
      have hc2 : 1 ≤ r.cnt := by
        rcases Nat.eq_zero_or_pos r.cnt with e | e
        · rw [F.cnt_zero e] at hm; simp [F.dep] at hm
        · exact e
      have h7 := (hr h2 hc2).1
      have h8 := sq_le (show r.lvs.length ≤ (one x k.lvs).length + r.lvs.length by omega)
      omega
theorem reps_length (n : Nat) (s : List Rn) : (reps n s).length = n * s.length := by
  induction n with
  | zero => simp [reps]
  | succ n ih => simp only [reps, List.length_append, ih, Nat.succ_mul]; omega
theorem wide_fold {n : Nat} {g : F} (h : wide g) (hn : 2 ≤ n) (hc : 1 ≤ g.cnt) : wide (foldF n g) := by
  refine ⟨?_, trivial⟩
  have e : (one ⟨4, 0, (n : Int)⟩ (wrapF g).lvs).length = n * g.lvs.length := by
    rw [wrapF_lvs, lvs_rep rfl, reps_length]
    rfl
  rw [e]
  obtain ⟨h1, h2⟩ := wide_dep h hc
  have h3 := (wrapF_dep g).1
  have h4 : 2 ^ (wrapF g).dep ≤ 2 ^ (g.dep + 1) := Nat.pow_le_pow_right (by omega) h3
  have h5 := sq_le (Nat.mul_le_mul_right g.lvs.length hn)
  have h6 : 2 * g.lvs.length * (2 * g.lvs.length) = 4 * (g.lvs.length * g.lvs.length) := by
    rw [Nat.mul_assoc, Nat.mul_left_comm g.lvs.length 2, ← Nat.mul_assoc]
  rw [Nat.pow_succ] at h4
  omega
/-- Items, of which so many times the same are one. -/
structure Folds (f f' : F) : Prop where
  ex : ∃ (a g b : F) (n : Nat), f = a.app ((timesF n g).app b) ∧ f' = a.app ((foldF n g).app b) ∧ 2 ≤ n ∧ 1 ≤ g.cnt ∧ (if g.cnt = 1 then 1 else 2) < g.sz * (n - 1)
theorem Folds.lvs {f f' : F} (h : Folds f f') : f'.lvs = f.lvs := by
  obtain ⟨a, g, b, n, rfl, rfl, _⟩ := h.ex
  simp only [app_lvs, foldF_lvs, timesF_lvs]
theorem Folds.cnt {f f' : F} (h : Folds f f') : f'.cnt < f.cnt ∧ 1 ≤ f'.cnt := by
  obtain ⟨a, g, b, n, rfl, rfl, hn, hc, _⟩ := h.ex
  simp only [F.app_cnt, timesF_cnt]
  have e : (foldF n g).cnt = 1 := rfl
  have : 2 * 1 ≤ n * g.cnt := Nat.mul_le_mul hn hc
  omega
theorem Folds.sz {f f' : F} (h : Folds f f') : f'.sz + 1 ≤ f.sz := by
  obtain ⟨a, g, b, n, rfl, rfl, hn, hc, hs⟩ := h.ex
  simp only [F.app_sz, timesF_sz, foldF_sz]
  obtain ⟨j, rfl⟩ : ∃ j, n = j + 1 := ⟨n - 1, by omega⟩
  rw [Nat.succ_mul]
  rw [Nat.add_sub_cancel, Nat.mul_comm] at hs
  split at hs
  · rename_i h1
    rw [if_pos h1]
    omega
  · rename_i h1
    rw [if_neg h1]
    omega
theorem Folds.ok {f f' : F} (h : Folds f f') (hok : f.ok) (hc : f.cnt ≤ 128) : f'.ok := by
  obtain ⟨a, g, b, n, rfl, rfl, hn, hg, hs⟩ := h.ex
  rw [app_ok_iff, app_ok_iff] at hok ⊢
  obtain ⟨j, rfl⟩ : ∃ j, n = j + 1 := ⟨n - 1, by omega⟩
  simp only [timesF, app_ok_iff] at hok
  simp only [F.app_cnt, timesF] at hc
  exact ⟨hok.1, foldF_ok hok.2.1.1 hg (by omega) (by omega), hok.2.2⟩
theorem Folds.wide {f f' : F} (h : Folds f f') (hw : Tab.wide f) : Tab.wide f' := by
  obtain ⟨a, g, b, n, rfl, rfl, hn, hg, hs⟩ := h.ex
  rw [wide_app, wide_app] at hw ⊢
  obtain ⟨j, rfl⟩ : ∃ j, n = j + 1 := ⟨n - 1, by omega⟩
  simp only [timesF, wide_app] at hw
  exact ⟨hw.1, wide_fold hw.2.1.1 hn hg, hw.2.2⟩
/-- Items out of a row, folded as often as it may be. -/
structure Items (L : List Rn) (f : F) : Prop where
  lvs : f.lvs = L
  ok : f.ok
  cnt : 1 ≤ f.cnt ∧ f.cnt ≤ L.length
  wide : Tab.wide f
  sz : f = itemsF L ∨ f.sz + 1 ≤ L.length
theorem Items.start {L : List Rn} (h : ∀ r ∈ L, 1 ≤ r.n ∧ -1 ≤ r.p ∧ r.p ≤ 5) (h1 : 1 ≤ L.length) : Items L (itemsF L) :=
  ⟨itemsF_lvs L, itemsF_ok h, by rw [itemsF_cnt]; exact ⟨h1, Nat.le_refl _⟩, wide_items L, .inl rfl⟩
theorem Items.step {L : List Rn} {f f' : F} (h : Items L f) (hL : L.length ≤ 128) (hf : Folds f f') : Items L f' := by
  have h1 := hf.cnt
  have h2 := h.cnt
  refine ⟨hf.lvs.trans h.lvs, hf.ok h.ok (by omega), ⟨h1.2, by omega⟩, hf.wide h.wide, .inr ?_⟩
  have h3 := hf.sz
  rcases h.sz with e | e
  · rw [e, itemsF_sz] at h3
    omega
  · omega
/-- How many nodes a row takes, laid out plainly. -/
theorem plain_sz (L : List Rn) : (wrapF (itemsF L)).sz = L.length + if L.length = 1 then 0 else 1 := by rw [wrapF_sz, itemsF_sz, itemsF_cnt]
/-- What a row folds into: a table that may be. -/
theorem Items.table {L : List Rn} {f : F} (h : Items L f) (hL : L.length ≤ 96) : ∃ x k, wrapF f = .cons x k .nil ∧ (F.cons x k .nil).ok ∧ one x k.lvs = L ∧ k.dep + 1 ≤ 16 ∧ F.tick x k.len = ticks L ∧ k.sz + 1 ≤ (wrapF (itemsF L)).sz ∧ k.sz + 1 ≤ L.length + 1 := by
  obtain ⟨x, k, e⟩ := wrapF_tree f
  have hc := h.cnt
  have hok : (F.cons x k .nil).ok := by rw [← e]; exact wrapF_ok h.ok hc.1 (by omega)
  have hl : one x k.lvs = L := by
    have := wrapF_lvs f
    rw [e, h.lvs] at this
    simpa [F.lvs] using this
  have hd : k.dep + 1 ≤ 16 := by
    have h1 := (wide_dep h.wide hc.1).1
    rw [h.lvs] at h1
    have h2 := sq_le hL
    have h3 : f.dep < 15 := by
      rcases Nat.lt_or_ge f.dep 15 with h | h
      · exact h
      · have := Nat.pow_le_pow_right (show 0 < 2 by omega) h
        have h4 : 2 ^ 15 = 32768 := by decide
        omega
    have h4 := (wrapF_dep f).1
    rw [e] at h4
    simp only [F.dep] at h4
    omega
  have hs : (wrapF f).sz ≤ (wrapF (itemsF L)).sz := by
    rcases h.sz with e | h1
    · rw [e]; exact Nat.le_refl _
    · rw [wrapF_sz, plain_sz]
      split <;> split <;> omega
  have hp := plain_sz L
  rw [e] at hs
  simp only [F.sz] at hs
  refine ⟨x, k, e, hok, hl, hd, by rw [← hl, one_ticks, lvs_ticks], by omega, ?_⟩
  split at hp <;> omega

theorem tidy_of_apart {L : List Rn} (h : Apart L) : tidy L = L := by
  have := tidyOn_stays L [] (by simpa using h)
  simpa [tidy] using this
/-- A row is its first p, again and again. -/
def Per (L : List Rn) (p : Nat) : Prop := 1 ≤ p ∧ L.length % p = 0 ∧ ∀ i, p ≤ i → i < L.length → L[i]? = L[i - p]?
theorem Per.mod {L : List Rn} {p : Nat} (h : Per L p) (i : Nat) (hi : i < L.length) : L[i]? = L[i % p]? := by
  induction i using Nat.strongRecOn with
  | ind i ih =>
    by_cases hp : p ≤ i
    · rw [h.2.2 i hp hi, ih (i - p) (by have := h.1; omega) (by omega), Nat.mod_eq_sub_mod hp]
    · rw [Nat.mod_eq_of_lt (by omega)]
theorem reps_get (n : Nat) (s : List Rn) (i : Nat) (hi : i < n * s.length) : (reps n s)[i]? = s[i % s.length]? := by
  induction n generalizing i with
  | zero => simp at hi
  | succ n ih =>
    simp only [reps]
    rw [Nat.succ_mul] at hi
    by_cases h : i < s.length
    · rw [List.getElem?_append_left h, Nat.mod_eq_of_lt h]
    · rw [List.getElem?_append_right (by omega), ih _ (by omega), ← Nat.mod_eq_sub_mod (by omega)]
theorem per_reps {L : List Rn} {p : Nat} (n : Nat) (h : Per L p) : Per (reps n L) p := by
  refine ⟨h.1, by rw [reps_length, Nat.mul_mod, h.2.1]; simp, fun i hp hi => ?_⟩
  rw [reps_length] at hi
  have hd : p ∣ L.length := Nat.dvd_of_mod_eq_zero h.2.1
  have hpos : 0 < L.length := by
    rcases Nat.eq_zero_or_pos L.length with e | e
    · rw [e] at hi; simp at hi
    · exact e
  rw [reps_get _ _ _ hi, reps_get _ _ _ (by omega), h.mod _ (Nat.mod_lt _ hpos), h.mod _ (Nat.mod_lt _ hpos), Nat.mod_mod_of_dvd _ hd, Nat.mod_mod_of_dvd _ hd, Nat.mod_eq_sub_mod hp]
theorem per_self {L : List Rn} (h : 1 ≤ L.length) : Per L L.length := ⟨h, Nat.mod_self _, fun i h1 h2 => by omega⟩
/-- Rows without two side by side of one, one behind the other. -/
theorem Apart.tail {r : Rn} {l : List Rn} (h : Apart (r :: l)) : Apart l := by
  cases l with
  | nil => trivial
  | cons q s => exact h.2.2
theorem Apart.append {a b : List Rn} (ha : Apart a) (hb : Apart b) (h : ∀ y x, a.getLast? = some y → b.head? = some x → y.p ≠ x.p) : Apart (a ++ b) := by
  induction a with
  | nil => exact hb
  | cons r a ih =>
    cases a with
    | nil =>
      cases b with
      | nil => simpa using ha
      | cons x s => exact ⟨ha, h r x rfl rfl, hb⟩
    | cons q s => exact ⟨ha.1, ha.2.1, ih ha.tail fun y x hy hx => h y x (by simpa [List.getLast?_cons_cons] using hy) hx⟩
theorem apart_reps {l : List Rn} (n : Nat) (h : Apart l) (hne : ∀ y x, l.getLast? = some y → l.head? = some x → y.p ≠ x.p) : Apart (reps n l) := by
  induction n with
  | zero => trivial
  | succ n ih =>
    refine h.append ih fun y x hy hx => ?_
    cases n with
    | zero => simp [reps] at hx
    | succ n =>
      cases l with
      | nil => simp at hy
      | cons z s => exact hne y x hy (by simpa [reps] using hx)
end Tab
end Go.Proofs.YtgoeikihjffeoaaGreat
