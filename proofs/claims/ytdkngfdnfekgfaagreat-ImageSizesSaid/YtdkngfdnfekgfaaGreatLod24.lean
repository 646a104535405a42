import Derived.Test.YtdkngfdnfekgfaaGreatLod6
import Derived.Test.YtdkngfdnfekgfaaGreatLod5
namespace Go.Proofs.YtdkngfdnfekgfaaGreat
namespace Tab
def leafN (r : Rn) : Nd := if r.p = -1 then ⟨2, 0, (r.n : Int)⟩ else ⟨1, r.p, (r.n : Int)⟩
def itemsF : List Rn → F
  | [] => .nil
  | r :: s => .cons (leafN r) .nil (itemsF s)
theorem leafN_one (r : Rn) (s : List Rn) : one (leafN r) s = [r] := by
  unfold leafN one whose
  split
  · rename_i h
    simp
    rw [← h]
  · simp
theorem itemsF_lvs (L : List Rn) : (itemsF L).lvs = L := by
  induction L with
  | nil => rfl
  | cons r s ih => simp only [itemsF, F.lvs, leafN_one, ih]; rfl
theorem itemsF_cnt (L : List Rn) : (itemsF L).cnt = L.length := by
  induction L with
  | nil => rfl
  | cons r s ih => simp only [itemsF, F.cnt, ih, List.length_cons]
theorem itemsF_sz (L : List Rn) : (itemsF L).sz = L.length := by
  induction L with
  | nil => rfl
  | cons r s ih => simp only [itemsF, F.sz, ih, List.length_cons]; omega
theorem leafN_kn (r : Rn) : kn (leafN r) = 0 := by
  unfold leafN kn
  split <;> simp
theorem leafN_fine {r : Rn} (h : 1 ≤ r.n ∧ -1 ≤ r.p ∧ r.p ≤ 5) : fine (leafN r) = true := by
  unfold leafN fine
  split <;> simp <;> omega
theorem itemsF_ok {L : List Rn} (h : ∀ r ∈ L, 1 ≤ r.n ∧ -1 ≤ r.p ∧ r.p ≤ 5) : (itemsF L).ok := by
  induction L with
  | nil => trivial
  | cons r s ih => exact ⟨leafN_fine (h r (by simp)), by rw [leafN_kn]; rfl, trivial, ih fun q hq => h q (by simp [hq])⟩
theorem app_lvs (f g : F) : (f.app g).lvs = f.lvs ++ g.lvs := by
  induction f with
  | nil => rfl
  | cons x k r _ hr => simp only [F.app, F.lvs, hr, List.append_assoc]
theorem app_nil (f : F) : f.app .nil = f := by
  induction f with
  | nil => rfl
  | cons x k r _ hr => simp only [F.app, hr]
theorem app_ok_iff (f g : F) : (f.app g).ok ↔ f.ok ∧ g.ok := by
  induction f with
  | nil => simp [F.app, F.ok]
  | cons x k r _ hr => simp only [F.app, F.ok, hr]; exact ⟨fun ⟨a, b, c, d, e⟩ => ⟨⟨a, b, c, d⟩, e⟩, fun ⟨⟨a, b, c, d⟩, e⟩ => ⟨a, b, c, d, e⟩⟩
def wrapF (g : F) : F := if g.cnt = 1 then g else .cons ⟨3, 0, (g.cnt : Int)⟩ g .nil
theorem wrapF_cnt (g : F) : (wrapF g).cnt = 1 := by
  unfold wrapF
  split
  · assumption
  · rfl
theorem wrapF_lvs (g : F) : (wrapF g).lvs = g.lvs := by
  unfold wrapF
  split
  · rfl
  · simp only [F.lvs, List.append_nil]
    exact lvs_seq rfl _
theorem wrapF_ok {g : F} (h : g.ok) (h1 : 1 ≤ g.cnt) (h2 : g.cnt ≤ 128) : (wrapF g).ok := by
  unfold wrapF
  split
  · exact h
  · refine ⟨?_, by simp [kn], h, trivial⟩
    unfold fine
    simp
    omega
theorem wrapF_sz (g : F) : (wrapF g).sz = g.sz + if g.cnt = 1 then 0 else 1 := by
  unfold wrapF
  split
  · rfl
  · simp only [F.sz]; omega
theorem wrapF_dep (g : F) : (wrapF g).dep ≤ g.dep + 1 ∧ (g.cnt = 1 → (wrapF g).dep = g.dep) := by
  unfold wrapF
  split
  · exact ⟨by omega, fun _ => rfl⟩
  · rename_i h
    exact ⟨by simp only [F.dep]; omega, fun h' => absurd h' h⟩
theorem wrapF_tree (g : F) : ∃ x k, wrapF g = .cons x k .nil := by
  have h := wrapF_cnt g
  cases hw : wrapF g with
  | nil => rw [hw] at h; simp [F.cnt] at h
  | cons x k r =>
    rw [hw] at h
    simp only [F.cnt] at h
    have : r = .nil := F.cnt_zero (by omega)
    exact ⟨x, k, by rw [this]⟩
def timesF : Nat → F → F
  | 0, _ => .nil
  | n + 1, g => g.app (timesF n g)
theorem timesF_lvs (n : Nat) (g : F) : (timesF n g).lvs = reps n g.lvs := by
  induction n with
  | zero => rfl
  | succ n ih => simp only [timesF, app_lvs, ih]; rfl
theorem timesF_cnt (n : Nat) (g : F) : (timesF n g).cnt = n * g.cnt := by
  induction n with
  | zero => simp [timesF, F.cnt]
  | succ n ih => simp only [timesF, F.app_cnt, ih, Nat.succ_mul]; omega
theorem timesF_sz (n : Nat) (g : F) : (timesF n g).sz = n * g.sz := by
  induction n with
  | zero => simp [timesF, F.sz]
  | succ n ih => simp only [timesF, F.app_sz, ih, Nat.succ_mul]; omega
def foldF (n : Nat) (g : F) : F := .cons ⟨4, 0, (n : Int)⟩ (wrapF g) .nil
theorem foldF_lvs (n : Nat) (g : F) : (foldF n g).lvs = reps n g.lvs := by
  unfold foldF
  simp only [F.lvs, List.append_nil, wrapF_lvs]
  rw [lvs_rep rfl]
  rfl
theorem foldF_ok {n : Nat} {g : F} (h : g.ok) (h1 : 1 ≤ g.cnt) (h2 : g.cnt ≤ 128) (hn : 1 ≤ n) : (foldF n g).ok := by
  refine ⟨?_, by rw [wrapF_cnt]; rfl, wrapF_ok h h1 h2, trivial⟩
  unfold fine
  simp
  omega
theorem foldF_sz (n : Nat) (g : F) : (foldF n g).sz = 1 + g.sz + if g.cnt = 1 then 0 else 1 := by
  simp only [foldF, F.sz, wrapF_sz]
  omega
def wide : F → Prop
  | .nil => True
  | .cons x k r => 2 ^ k.dep ≤ (one x k.lvs).length * (one x k.lvs).length ∧ wide r
theorem wide_app (f g : F) : wide (f.app g) ↔ wide f ∧ wide g := by
  induction f with
  | nil => simp [F.app, wide]
  | cons x k r _ hr => simp only [F.app, wide, hr, and_assoc]
theorem wide_items (L : List Rn) : wide (itemsF L) := by
  induction L with
  | nil => trivial
  | cons r s ih => exact ⟨by rw [leafN_one]; simp [F.dep], ih⟩
theorem sq_le {a b : Nat} (h : a ≤ b) : a * a ≤ b * b := Nat.mul_le_mul h h
theorem wide_dep {f : F} (h : wide f) (hc : 1 ≤ f.cnt) : 2 ^ f.dep ≤ 2 * (f.lvs.length * f.lvs.length) ∧ 1 ≤ f.lvs.length := by
  induction f with
  | nil => simp [F.cnt] at hc
  | cons x k r _ hr =>
    obtain ⟨h1, h2⟩ := h
    have h3 : 1 ≤ 2 ^ k.dep := Nat.one_le_two_pow
    have h4 : 1 ≤ (one x k.lvs).length := by
      rcases Nat.eq_zero_or_pos (one x k.lvs).length with e | e
      · rw [e] at h1; omega
      · exact e
    have e : (F.cons x k r).lvs.length = (one x k.lvs).length + r.lvs.length := by simp [F.lvs]
    rw [e]
    refine ⟨?_, by omega⟩
    have h5 := sq_le (show (one x k.lvs).length ≤ (one x k.lvs).length + r.lvs.length by omega)
    have h6 : 2 ^ (k.dep + 1) ≤ 2 * (((one x k.lvs).length + r.lvs.length) * ((one x k.lvs).length + r.lvs.length)) := by
      rw [Nat.pow_succ, Nat.mul_comm]
      omega
    simp only [F.dep]
    by_cases hm : r.dep ≤ k.dep + 1
    · rw [Nat.max_eq_left hm]
      exact h6
    · rw [Nat.max_eq_right (by omega)]
      have hc2 : 1 ≤ r.cnt := by
        rcases Nat.eq_zero_or_pos r.cnt with e | e
        · rw [F.cnt_zero e] at hm; simp [F.dep] at hm
        · exact e
      have h7 := (hr h2 hc2).1
      have h8 := sq_le (show r.lvs.length ≤ (one x k.lvs).length + r.lvs.length by omega)
      omega
theorem reps_length (n : Nat) (s : List Rn) : (reps n s).length = n * s.length := by
  induction n with
  | zero => simp [reps]
  | succ n ih => simp only [reps, List.length_append, ih, Nat.succ_mul]; omega
theorem wide_fold {n : Nat} {g : F} (h : wide g) (hn : 2 ≤ n) (hc : 1 ≤ g.cnt) : wide (foldF n g) := by
  refine ⟨?_, trivial⟩
  have e : (one ⟨4, 0, (n : Int)⟩ (wrapF g).lvs).length = n * g.lvs.length := by
    rw [wrapF_lvs, lvs_rep rfl, reps_length]
    rfl
  rw [e]
  obtain ⟨h1, h2⟩ := wide_dep h hc
  have h3 := (wrapF_dep g).1
  have h4 : 2 ^ (wrapF g).dep ≤ 2 ^ (g.dep + 1) := Nat.pow_le_pow_right (by omega) h3
  have h5 := sq_le (Nat.mul_le_mul_right g.lvs.length hn)
  have h6 : 2 * g.lvs.length * (2 * g.lvs.length) = 4 * (g.lvs.length * g.lvs.length) := by
    rw [Nat.mul_assoc, Nat.mul_left_comm g.lvs.length 2, ← Nat.mul_assoc]
  rw [Nat.pow_succ] at h4
  omega
structure Folds (f f' : F) : Prop where
  ex : ∃ (a g b : F) (n : Nat), f = a.app ((timesF n g).app b) ∧ f' = a.app ((foldF n g).app b) ∧ 2 ≤ n ∧ 1 ≤ g.cnt ∧ (if g.cnt = 1 then 1 else 2) < g.sz * (n - 1)
theorem Folds.lvs {f f' : F} (h : Folds f f') : f'.lvs = f.lvs := by
  obtain ⟨a, g, b, n, rfl, rfl, _⟩ := h.ex
  simp only [app_lvs, foldF_lvs, timesF_lvs]
theorem Folds.cnt {f f' : F} (h : Folds f f') : f'.cnt < f.cnt ∧ 1 ≤ f'.cnt := by
  obtain ⟨a, g, b, n, rfl, rfl, hn, hc, _⟩ := h.ex
  simp only [F.app_cnt, timesF_cnt]
  have e : (foldF n g).cnt = 1 := rfl
  have : 2 * 1 ≤ n * g.cnt := Nat.mul_le_mul hn hc
  omega
theorem Folds.sz {f f' : F} (h : Folds f f') : f'.sz + 1 ≤ f.sz := by
  obtain ⟨a, g, b, n, rfl, rfl, hn, hc, hs⟩ := h.ex
  simp only [F.app_sz, timesF_sz, foldF_sz]
  obtain ⟨j, rfl⟩ : ∃ j, n = j + 1 := ⟨n - 1, by omega⟩
  rw [Nat.succ_mul]
  rw [Nat.add_sub_cancel, Nat.mul_comm] at hs
  split at hs
  · rename_i h1
    rw [if_pos h1]
    omega
  · rename_i h1
    rw [if_neg h1]
    omega
theorem Folds.ok {f f' : F} (h : Folds f f') (hok : f.ok) (hc : f.cnt ≤ 128) : f'.ok := by
  obtain ⟨a, g, b, n, rfl, rfl, hn, hg, hs⟩ := h.ex
  rw [app_ok_iff, app_ok_iff] at hok ⊢
  obtain ⟨j, rfl⟩ : ∃ j, n = j + 1 := ⟨n - 1, by omega⟩
  simp only [timesF, app_ok_iff] at hok
  simp only [F.app_cnt, timesF] at hc
  exact ⟨hok.1, foldF_ok hok.2.1.1 hg (by omega) (by omega), hok.2.2⟩
theorem Folds.wide {f f' : F} (h : Folds f f') (hw : Tab.wide f) : Tab.wide f' := by
  obtain ⟨a, g, b, n, rfl, rfl, hn, hg, hs⟩ := h.ex
  rw [wide_app, wide_app] at hw ⊢
  obtain ⟨j, rfl⟩ : ∃ j, n = j + 1 := ⟨n - 1, by omega⟩
  simp only [timesF, wide_app] at hw
  exact ⟨hw.1, wide_fold hw.2.1.1 hn hg, hw.2.2⟩
structure Items (L : List Rn) (f : F) : Prop where
  lvs : f.lvs = L
  ok : f.ok
  cnt : 1 ≤ f.cnt ∧ f.cnt ≤ L.length
  wide : Tab.wide f
  sz : f = itemsF L ∨ f.sz + 1 ≤ L.length
theorem Items.start {L : List Rn} (h : ∀ r ∈ L, 1 ≤ r.n ∧ -1 ≤ r.p ∧ r.p ≤ 5) (h1 : 1 ≤ L.length) : Items L (itemsF L) :=
  ⟨itemsF_lvs L, itemsF_ok h, by rw [itemsF_cnt]; exact ⟨h1, Nat.le_refl _⟩, wide_items L, .inl rfl⟩
theorem Items.step {L : List Rn} {f f' : F} (h : Items L f) (hL : L.length ≤ 128) (hf : Folds f f') : Items L f' := by
  have h1 := hf.cnt
  have h2 := h.cnt
  refine ⟨hf.lvs.trans h.lvs, hf.ok h.ok (by omega), ⟨h1.2, by omega⟩, hf.wide h.wide, .inr ?_⟩
  have h3 := hf.sz
  rcases h.sz with e | e
  · rw [e, itemsF_sz] at h3
    omega
  · omega
theorem plain_sz (L : List Rn) : (wrapF (itemsF L)).sz = L.length + if L.length = 1 then 0 else 1 := by rw [wrapF_sz, itemsF_sz, itemsF_cnt]
theorem Items.table {L : List Rn} {f : F} (h : Items L f) (hL : L.length ≤ 96) : ∃ x k, wrapF f = .cons x k .nil ∧ (F.cons x k .nil).ok ∧ one x k.lvs = L ∧ k.dep + 1 ≤ 16 ∧ F.tick x k.len = ticks L ∧ k.sz + 1 ≤ (wrapF (itemsF L)).sz ∧ k.sz + 1 ≤ L.length + 1 := by
  obtain ⟨x, k, e⟩ := wrapF_tree f
  have hc := h.cnt
  have hok : (F.cons x k .nil).ok := by rw [← e]; exact wrapF_ok h.ok hc.1 (by omega)
  have hl : one x k.lvs = L := by
    have := wrapF_lvs f
    rw [e, h.lvs] at this
    simpa [F.lvs] using this
  have hd : k.dep + 1 ≤ 16 := by
    have h1 := (wide_dep h.wide hc.1).1
    rw [h.lvs] at h1
    have h2 := sq_le hL
    have h3 : f.dep < 15 := by
      rcases Nat.lt_or_ge f.dep 15 with h | h
      · exact h
      · have := Nat.pow_le_pow_right (show 0 < 2 by omega) h
        have h4 : 2 ^ 15 = 32768 := by decide
        omega
    have h4 := (wrapF_dep f).1
    rw [e] at h4
    simp only [F.dep] at h4
    omega
  have hs : (wrapF f).sz ≤ (wrapF (itemsF L)).sz := by
    rcases h.sz with e | h1
    · rw [e]; exact Nat.le_refl _
    · rw [wrapF_sz, plain_sz]
      split <;> split <;> omega
  have hp := plain_sz L
  rw [e] at hs
  simp only [F.sz] at hs
  refine ⟨x, k, e, hok, hl, hd, by rw [← hl, one_ticks, lvs_ticks], by omega, ?_⟩
  split at hp <;> omega
theorem Apart.tail {r : Rn} {l : List Rn} (h : Apart (r :: l)) : Apart l := by
  cases l with
  | nil => trivial
  | cons q s => exact h.2.2
theorem Apart.append {a b : List Rn} (ha : Apart a) (hb : Apart b) (h : ∀ y x, a.getLast? = some y → b.head? = some x → y.p ≠ x.p) : Apart (a ++ b) := by
  induction a with
  | nil => exact hb
  | cons r a ih =>
    cases a with
    | nil =>
      cases b with
      | nil => simpa using ha
      | cons x s => exact ⟨ha, h r x rfl rfl, hb⟩
    | cons q s => exact ⟨ha.1, ha.2.1, ih ha.tail fun y x hy hx => h y x (by simpa [List.getLast?_cons_cons] using hy) hx⟩
end Tab
end Go.Proofs.YtdkngfdnfekgfaaGreat
namespace Go.Proofs.YtdkngfdnfekgfaaGreat
namespace Tab
def ndEq (x y : Nd) : Bool := decide (x.k = y.k) && decide (x.p = y.p) && decide (x.n = y.n)
theorem ndEq_iff (x y : Nd) : ndEq x y = true ↔ x = y := by
  obtain ⟨a, b, c⟩ := x
  obtain ⟨d, e, f⟩ := y
  unfold ndEq
  simp [Nd.mk.injEq, and_assoc]
def sameN : List Nd → List Nd → Bool
  | [], [] => true
  | x :: a, y :: b => ndEq x y && sameN a b
  | _, _ => false
theorem sameN_iff (a b : List Nd) : sameN a b = true ↔ a = b := by
  induction a generalizing b with
  | nil => cases b <;> simp [sameN]
  | cons x a ih =>
    cases b with
    | nil => simp [sameN]
    | cons y b => simp only [sameN, Bool.and_eq_true, ndEq_iff, ih, List.cons.injEq]
theorem sameN_len {a b : List Nd} (h : ¬ a.length = b.length) : sameN a b = false := by
  cases hs : sameN a b with
  | false => rfl
  | true => rw [sameN_iff] at hs; rw [hs] at h; exact absurd rfl h
end Tab
end Go.Proofs.YtdkngfdnfekgfaaGreat
namespace Go.Proofs.YtdkngfdnfekgfaaGreat
namespace Tab
abbrev Itr := List (List Nd)
def szI : Itr → Nat
  | [] => 0
  | x :: I => x.length + szI I
def savI (I : Itr) (n : Nat) : Int := if n < 2 then 0 else ((szI I * (n - 1) : Nat) : Int) - 1 - (if 1 < I.length then 1 else 0)
def sameAt (I : Itr) (i j : Nat) : Bool := match I[i]?, I[j]? with
  | some a, some b => sameN a b
  | _, _ => false
def fwdI (I : Itr) (p : Nat) : Nat → Nat → Nat
  | 0, tq => tq
  | f + 1, tq => if tq + p < I.length ∧ sameAt I tq (tq + p) = true then fwdI I p f (tq + 1) else tq
structure Bst where
  most : Int
  at_ : Nat
  p : Nat
  n : Nat
structure Good (I : Itr) (s : Bst) : Prop where
  n : 2 ≤ s.n
  p : 1 ≤ s.p
  le : s.at_ + s.p * s.n ≤ I.length
  same : ∀ i, s.at_ ≤ i → i + s.p < s.at_ + s.p * s.n → I[i]? = I[i + s.p]?
  most : s.most = savI ((I.drop s.at_).take s.p) s.n
  pos : 0 < s.most
def Fit (I : Itr) (s : Bst) : Prop := s = ⟨0, 0, 0, 0⟩ ∨ Good I s
theorem Fit.most {I : Itr} {s : Bst} (h : Fit I s) : 0 ≤ s.most := by
  rcases h with rfl | h
  · exact Int.le_refl _
  · have := h.pos; omega
def parts : F → Itr
  | .nil => []
  | .cons x k r => (x :: k.flat) :: parts r
theorem parts_app (f g : F) : parts (f.app g) = parts f ++ parts g := by
  induction f with
  | nil => rfl
  | cons x k r _ hr => simp only [F.app, parts, hr, List.cons_append]
theorem parts_len (f : F) : (parts f).length = f.cnt := by
  induction f with
  | nil => rfl
  | cons x k r _ hr => simp only [parts, List.length_cons, hr, F.cnt]
theorem parts_sz (f : F) : szI (parts f) = f.sz := by
  induction f with
  | nil => rfl
  | cons x k r _ hr => simp only [parts, szI, List.length_cons, F.flat_length, hr, F.sz]; omega
theorem parts_flat (f : F) : (parts f).flatten = f.flat := by
  induction f with
  | nil => rfl
  | cons x k r _ hr => simp only [parts, List.flatten_cons, hr, F.flat, List.cons_append]
theorem flat_inj (f : F) : ∀ (g : F) (s t : List Nd), f.ok → g.ok → f.cnt = g.cnt → f.flat ++ s = g.flat ++ t → f = g ∧ s = t := by
  induction f with
  | nil =>
    intro g s t _ _ hc h
    have : g = .nil := F.cnt_zero hc.symm
    subst this
    exact ⟨rfl, by simpa [F.flat] using h⟩
  | cons x k r hk hr =>
    intro g s t h1 h2 hc h
    cases g with
    | nil => simp [F.cnt] at hc
    | cons y k' r' =>
      simp only [F.flat, List.cons_append, List.append_assoc, List.cons.injEq] at h
      obtain ⟨rfl, h3⟩ := h
      obtain ⟨rfl, h4⟩ := hk k' _ _ h1.2.2.1 h2.2.2.1 (by rw [h1.2.1, h2.2.1]) h3
      obtain ⟨rfl, h5⟩ := hr r' _ _ h1.2.2.2 h2.2.2.2 (by simp only [F.cnt] at hc; omega) h4
      exact ⟨rfl, h5⟩
theorem parts_inj (f g : F) (hf : f.ok) (hg : g.ok) (h : parts f = parts g) : f = g := by
  refine (flat_inj f g [] [] hf hg ?_ ?_).1
  · rw [← parts_len, ← parts_len, h]
  · rw [← parts_flat, ← parts_flat, h]
theorem times_of (n : Nat) : ∀ (p : Nat) (h : F), h.ok → h.cnt = p * (n + 1) → (∀ i, i + p < p * (n + 1) → (parts h)[i]? = (parts h)[i + p]?) → ∃ g : F, g.ok ∧ g.cnt = p ∧ h = timesF (n + 1) g ∧ ∃ r, h = g.app r := by
  induction n with
  | zero =>
    intro p h hok hc _
    refine ⟨h, hok, by omega, by simp [timesF, app_nil], .nil, (app_nil h).symm⟩
  | succ n ih =>
    intro p h hok hc hs
    have hp : p * (n + 1 + 1) = p * (n + 1) + p := by rw [Nat.mul_succ]
    obtain ⟨a, b, ha, hb, hca, hcb, e⟩ := F.split hok p (by omega)
    have hla := parts_len a
    have hlb := parts_len b
    obtain ⟨g, hg, hcg, e2, r, e3⟩ := ih p b hb (by omega) (fun i hi => by
      have := hs (i + p) (by omega)
      rw [e, parts_app, List.getElem?_append_right (by omega), List.getElem?_append_right (by omega), hla, hca] at this
      rwa [show i + p - p = i by omega, show i + p + p - p = i + p by omega] at this)
    have hag : a = g := by
      refine parts_inj a g ha hg (List.ext_getElem? fun i => ?_)
      have hlg := parts_len g
      by_cases hi : i < p
      · have := hs i (by rw [hp]; have := Nat.le_mul_of_pos_right p (show 0 < n + 1 by omega); omega)
        rw [e, parts_app, List.getElem?_append_left (by omega), List.getElem?_append_right (by omega), hla, hca, show i + p - p = i by omega, e3, parts_app, List.getElem?_append_left (by omega)] at this
        exact this
      · rw [List.getElem?_eq_none (by omega), List.getElem?_eq_none (by omega)]
    subst hag
    exact ⟨a, ha, hca, by rw [e, e2]; rfl, b, e⟩
theorem Good.folds {f : F} {s : Bst} (h : Good (parts f) s) (hok : f.ok) : ∃ (a g b : F), f = a.app ((timesF s.n g).app b) ∧ a.cnt = s.at_ ∧ g.cnt = s.p ∧ g.ok ∧ Folds f (a.app ((foldF s.n g).app b)) := by
  have hlen := parts_len f
  have hle := h.le
  obtain ⟨m, hm⟩ : ∃ m, s.n = m + 2 := ⟨s.n - 2, by have := h.n; omega⟩
  obtain ⟨a, u, ha, hu, hca, hcu, e⟩ := F.split hok s.at_ (by omega)
  obtain ⟨v, b, hv, hb, hcv, hcb, e2⟩ := F.split hu (s.p * s.n) (by omega)
  have hla := parts_len a
  have hlv := parts_len v
  have hget : ∀ j, j < s.p * s.n → (parts f)[s.at_ + j]? = (parts v)[j]? := fun j hj => by
    rw [e, e2, parts_app, parts_app, List.getElem?_append_right (by omega), hla, hca, show s.at_ + j - s.at_ = j by omega, List.getElem?_append_left (by omega)]
  obtain ⟨g, hg, hcg, e3, r, e4⟩ := times_of (m + 1) s.p v hv (by rw [hcv, hm]) (fun i hi => by
    have h1 : s.p * s.n = s.p * (m + 1 + 1) := by rw [hm]
    have h2 := h.same (s.at_ + i) (by omega) (by omega)
    rwa [hget i (by omega), Nat.add_assoc, hget (i + s.p) (by omega)] at h2)
  have hgI : ((parts f).drop s.at_).take s.p = parts g := by
    rw [e, e2, e4, parts_app, parts_app, parts_app, List.drop_append_of_le_length (by omega), List.drop_eq_nil_of_le (by omega), List.nil_append, List.append_assoc, List.take_append_of_le_length (by rw [parts_len, hcg]; omega), List.take_of_length_le (by rw [parts_len, hcg]; omega)]
  have hp := h.pos
  rw [h.most, hgI] at hp
  have hf : f = a.app ((timesF s.n g).app b) := by rw [e, e2, e3, hm]
  refine ⟨a, g, b, hf, hca, hcg, hg, ⟨a, g, b, s.n, hf, rfl, h.n, by have := h.p; omega, ?_⟩⟩
  unfold savI at hp
  rw [if_neg (by omega), parts_sz, parts_len, hcg] at hp
  rw [hcg]
  have h1 := h.p
  split
  · rename_i h2
    rw [if_neg (by omega)] at hp
    omega
  · rw [if_pos (by omega)] at hp
    omega
def joinI (I : Itr) : List Nd := match I with
  | [x] => x
  | I => ⟨3, 0, (I.length : Int)⟩ :: I.flatten
theorem joinI_more {I : Itr} (h : ¬ I.length = 1) : joinI I = ⟨3, 0, (I.length : Int)⟩ :: I.flatten := by
  unfold joinI
  split
  · simp at h
  · rfl
theorem joinI_parts (f : F) : joinI (parts f) = (wrapF f).flat := by
  unfold wrapF
  split
  · rename_i h
    cases f with
    | nil => simp [F.cnt] at h
    | cons x k r =>
      have hr : r = .nil := F.cnt_zero (by simp only [F.cnt] at h; omega)
      subst hr
      simp [parts, joinI, F.flat]
  · rename_i h
    rw [joinI_more (by rw [parts_len]; exact h), parts_flat, parts_len]
    simp [F.flat]
def stepI (I : Itr) (s : Bst) : Itr := I.take s.at_ ++ (((⟨4, 0, (s.n : Int)⟩ : Nd) :: joinI ((I.drop s.at_).take s.p)) :: I.drop (s.at_ + s.p * s.n))
theorem Good.step {f : F} {s : Bst} (h : Good (parts f) s) (hok : f.ok) : ∃ f', Folds f f' ∧ stepI (parts f) s = parts f' := by
  obtain ⟨a, g, b, e, ha, hg, hgo, hf⟩ := h.folds hok
  refine ⟨_, hf, ?_⟩
  have hla := parts_len a
  have hlg := parts_len g
  obtain ⟨m, hm⟩ : ∃ m, s.n = m + 1 := ⟨s.n - 1, by have := h.n; omega⟩
  have hlt := parts_len (timesF s.n g)
  rw [timesF_cnt, hg] at hlt
  have h1 : (parts f).take s.at_ = parts a := by
    rw [e, parts_app, List.take_append_of_le_length (by omega), List.take_of_length_le (by omega)]
  have h2 : ((parts f).drop s.at_).take s.p = parts g := by
    rw [e, parts_app, List.drop_append_of_le_length (by omega), List.drop_eq_nil_of_le (by omega), List.nil_append, hm]
    simp only [timesF, parts_app, List.append_assoc]
    rw [List.take_append_of_le_length (by omega), List.take_of_length_le (by omega)]
  have h3 : (parts f).drop (s.at_ + s.p * s.n) = parts b := by
    have hc : s.p * s.n = s.n * s.p := Nat.mul_comm _ _
    rw [e, parts_app, parts_app, ← List.append_assoc, List.drop_append_of_le_length (by rw [List.length_append]; omega), List.drop_eq_nil_of_le (by rw [List.length_append]; omega), List.nil_append]
  unfold stepI
  rw [h1, h2, h3, parts_app, parts_app, joinI_parts]
  simp only [foldF, parts, List.cons_append, List.nil_append]
end Tab
end Go.Proofs.YtdkngfdnfekgfaaGreat
