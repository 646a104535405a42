/- Contracts and mathematics that the texts behind it stand on: FrameN, Leaf, Runs, War, Gram, Vec, Inv, Conf, Gsq. -/
import Derived.Test.YtknlhhbkahollaaLow1
import Derived.ProofKit
import Derived.OpenShut
import Derived.ChangeOld
import Derived.SizedLaws
import Derived.Deep.CondSized
import Derived.JoinedCond
import Derived.Deep.Strs
import Derived.Deep.AppendLies
import Derived.Deep.RegionLaw
import Derived.Orders
import Derived.RegionTactic
import Derived.Below
/- A slice of integers among a law's arguments. -/
namespace Go.Proofs.Ytknlhhbkahollaa
open Go.ChangeShapes Go.WideShapes Go.ChangeAt Go.RowKit Go.Deep

theorem own : ownKnob Try.prog.godebug = none := by kernel_rfl
theorem laidOut : laidOutB Try.prog = true := by kernel_rfl
theorem ints_view {H : Type} {enc : TypeId × Value → H} {W : World} {A : Option Addr} {n k : Nat} {d : DataW H} {p : List MemPlace}
    (h : DataW.Trod enc Try.prog W 0 (fun _ => true) true 28 (.slice A n k) d p) :
    ∃ f : Nat → Int, RdC W W.heap.size A n (fun j => .int .i64 (f j)) ∧ n ≤ k ∧ (∀ j, j < n → (Lit.int .i64 (f j)).wf = true) ∧ (k = 0 ∨ ∃ elems spare, d = .slice elems spare ∧ elems.length + spare.length = k) := by
  obtain ⟨fuel, hf⟩ := h
  rcases open_ints Try.underlying28 Try.underlying3 (by kernel_rfl) hf with ⟨hcs, _⟩ | ⟨x, l, c, zs, hcs, _, hl, hm, hz, hx, hcell, hwz⟩
  · simp [Value.cells] at hcs
    obtain ⟨rfl, rfl, rfl⟩ := hcs
    exact ⟨fun _ => 0, fun h => absurd h (by omega), Nat.le_refl _, fun j h => absurd h (by omega), .inl rfl⟩
  · simp [Value.cells] at hcs
    obtain ⟨rfl, rfl, rfl⟩ := hcs
    have hz' : zs.length = k := by simpa using hz
    refine ⟨fun j => zs.getD j 0, fun h0 => ⟨x, rfl, ?_, fun j hj => hcell j (by omega)⟩, hl, fun j hj => ?_, .inr ⟨_, _, (Prod.mk.inj hx).1, ?_⟩⟩
    · have h1 := hcell 0 (by omega)
      have h2 := World.block_lt_of_cell? W _ h1
      have e1 : (x.add 0).block = x.block := by unfold Addr.add; split <;> rfl
      rw [← e1]; exact h2
    · have : j < zs.length := by omega
      simp only [List.getD, List.getElem?_eq_getElem this, Option.getD_some]
      exact hwz _ (List.getElem_mem this)
    · simp [lits]; omega
theorem ints_sized {H : Type} {enc : TypeId × Value → H} {W : World} {A : Option Addr} {n k : Nat} {d : DataW H} {p : List MemPlace}
    (h : DataW.Trod enc Try.prog W 0 (fun _ => true) true 28 (.slice A n k) d p)
    (hs : ∀ elems spare, d = .slice elems spare → (elems.length + spare.length) * Try.prog.bytesOf 3 ≤ reachBytes) :
    ∃ f : Nat → Int, RdC W W.heap.size A n (fun j => .int .i64 (f j)) ∧ n ≤ k ∧ k ≤ 140737488351232 ∧ ∀ j, j < n → (Lit.int .i64 (f j)).wf = true := by
  obtain ⟨f, h1, h2, h4, h3⟩ := ints_view h
  refine ⟨f, h1, h2, ?_, h4⟩
  rcases h3 with h3 | ⟨elems, spare, hd, hk⟩
  · omega
  · have := hs elems spare hd
    have e : Try.prog.bytesOf 3 = 8 := by kernel_rfl
    rw [e, hk] at this
    simp only [reachBytes] at this
    omega
end Go.Proofs.Ytknlhhbkahollaa

/- The leaves of a table in the order of time; a walk over it with a stack of its own: plain mathematics. -/
namespace Go.Proofs.Ytknlhhbkahollaa
namespace Tab

/-- A run: whose it is, how many ticks. -/
structure Rn where
  p : Int
  n : Nat
def reps : Nat → List Rn → List Rn
  | 0, _ => []
  | n + 1, s => s ++ reps n s
/-- Whose a leaf is. -/
def whose (x : Nd) : Int := if x.k = 2 then -1 else x.p
def one (x : Nd) (s : List Rn) : List Rn := if x.k = 3 then s else if x.k = 4 then reps x.n.toNat s else [⟨whose x, x.n.toNat⟩]
def F.lvs : F → List Rn
  | nil => []
  | cons x k r => one x (lvs k) ++ lvs r
def ticks : List Rn → Nat
  | [] => 0
  | r :: s => r.n + ticks s
theorem ticks_append (a b : List Rn) : ticks (a ++ b) = ticks a + ticks b := by
  induction a with
  | nil => simp [ticks]
  | cons x a ih => simp only [List.cons_append, ticks, ih]; omega
theorem ticks_reps (n : Nat) (s : List Rn) : ticks (reps n s) = n * ticks s := by
  induction n with
  | zero => simp [reps, ticks]
  | succ n ih => rw [reps, ticks_append, ih, Nat.succ_mul]; omega
theorem one_ticks (x : Nd) (s : List Rn) : ticks (one x s) = F.tick x (ticks s) := by
  unfold one F.tick
  split
  · rfl
  · split
    · rw [ticks_reps, Nat.mul_comm]
    · simp [ticks]
theorem lvs_ticks (f : F) : ticks f.lvs = f.len := by
  induction f with
  | nil => rfl
  | cons x k r hk hr => simp only [F.lvs, F.len, ticks_append, one_ticks, hk, hr]
theorem reps_mem {n : Nat} {s : List Rn} {r : Rn} (h : r ∈ reps n s) : r ∈ s := by
  induction n with
  | zero => simp [reps] at h
  | succ n ih =>
    rcases List.mem_append.1 h with h | h
    · exact h
    · exact ih h
theorem lvs_pos {f : F} (h : f.ok) : ∀ r ∈ f.lvs, 1 ≤ r.n := by
  induction f with
  | nil => intro r hr; simp [F.lvs] at hr
  | cons x k r hk hr =>
    intro q hq
    rcases List.mem_append.1 hq with hq | hq
    · unfold one at hq
      split at hq
      · exact hk h.2.2.1 q hq
      · split at hq
        · exact hk h.2.2.1 q (reps_mem hq)
        · simp at hq
          subst hq
          have := fine_one h.1
          show 1 ≤ x.n.toNat
          omega
    · exact hr h.2.2.2 q hq
theorem length_le_ticks {s : List Rn} (h : ∀ r ∈ s, 1 ≤ r.n) : s.length ≤ ticks s := by
  induction s with
  | nil => simp [ticks]
  | cons r s ih =>
    have h1 := h r (by simp)
    have h2 := ih fun q hq => h q (by simp [hq])
    simp only [List.length_cons, ticks]
    omega
theorem lvs_leaf {x : Nd} (h3 : ¬ x.k = 3) (h4 : ¬ x.k = 4) (s : List Rn) : one x s = [⟨whose x, x.n.toNat⟩] := by unfold one; rw [if_neg h3, if_neg h4]
theorem lvs_seq {x : Nd} (h3 : x.k = 3) (s : List Rn) : one x s = s := if_pos h3
theorem lvs_rep {x : Nd} (h4 : x.k = 4) (s : List Rn) : one x s = reps x.n.toNat s := by unfold one; rw [if_neg (by omega), if_pos h4]
theorem reps_one {n : Nat} (h : 1 ≤ n) (s : List Rn) : reps n s = s ++ reps (n - 1) s := by
  obtain ⟨m, rfl⟩ : ∃ m, n = m + 1 := ⟨n - 1, by omega⟩
  rfl

/-- What comes behind a table that ends ahead of place p, st being the levels above it, the innermost first: the leaves still to come. -/
inductive Beh (l : List Nd) : List (Nat × Nat) → Nat → List Rn → Prop
  | top : Beh l [] l.length []
  | seq {o : List (Nat × Nat)} {p : Nat} {f : F} {t : List Nd} {td : List Rn} (hok : f.ok) (hl : l.drop p = f.flat ++ t) (hd : o.length + 1 + f.dep ≤ 16) (h : Beh l o (p + f.sz) td) : Beh l ((f.cnt + 1, 0) :: o) p (f.lvs ++ td)
  | rep {o : List (Nat × Nat)} {a b : Nat} {y : Nd} {k : F} {t : List Nd} {td : List Rn} (hok : (F.cons y k .nil).ok) (ha : 1 ≤ a) (ha2 : a ≤ 9223372036854775807) (hb : 1 ≤ b) (hl : l.drop b = y :: (k.flat ++ t)) (hd : o.length + 1 + (k.dep + 1) ≤ 16)
      (h : Beh l o (b + 1 + k.sz) td) : Beh l ((a, b) :: o) (b + 1 + k.sz) (reps (a - 1) (one y k.lvs) ++ td)
/-- What comes from the place p on. -/
def Ats (l : List Nd) (st : List (Nat × Nat)) (p : Nat) (td : List Rn) : Prop :=
  (st = [] ∧ p = l.length ∧ td = []) ∨ ∃ (x : Nd) (k : F) (t : List Nd) (u : List Rn), (F.cons x k .nil).ok ∧ l.drop p = x :: (k.flat ++ t) ∧ st.length + (k.dep + 1) ≤ 16 ∧ Beh l st (p + 1 + k.sz) u ∧ td = one x k.lvs ++ u
/-- The same, at a leaf or behind all. -/
def AtL (l : List Nd) (st : List (Nat × Nat)) (p : Nat) (td : List Rn) : Prop :=
  (st = [] ∧ p = l.length ∧ td = []) ∨ ∃ (x : Nd) (u : List Rn), fine x = true ∧ ¬ x.k = 3 ∧ ¬ x.k = 4 ∧ l[p]? = some x ∧ st.length ≤ 15 ∧ Beh l st (p + 1) u ∧ td = ⟨whose x, x.n.toNat⟩ :: u

theorem drop_get {l : List Nd} {p : Nat} {x : Nd} {t : List Nd} (h : l.drop p = x :: t) : l[p]? = some x ∧ l.drop (p + 1) = t ∧ p < l.length := by
  have h1 : (l.drop p)[0]? = some x := by rw [h]; rfl
  have h2 : l[p]? = some x := by simpa using h1
  refine ⟨h2, ?_, (List.getElem?_eq_some_iff.1 h2).1⟩
  rw [← List.drop_drop, h]
  rfl
theorem Ats.out {l : List Nd} {st : List (Nat × Nat)} {p : Nat} {td : List Rn} (h : Ats l st p td) (hp : l.length ≤ p) : AtL l st p td := by
  rcases h with h | ⟨x, k, t, u, _, h2, _⟩
  · exact .inl h
  · have := (drop_get h2).2.2
    omega
theorem Ats.le {l : List Nd} {st : List (Nat × Nat)} {p : Nat} {td : List Rn} (h : Ats l st p td) : p ≤ l.length := by
  rcases h with ⟨_, h, _⟩ | ⟨x, k, t, u, _, h2, _⟩
  · omega
  · have := (drop_get h2).2.2
    omega
theorem Ats.leaf {l : List Nd} {st : List (Nat × Nat)} {p : Nat} {td : List Rn} (h : Ats l st p td) {x : Nd} (hx : l[p]? = some x) (h3 : ¬ x.k = 3) (h4 : ¬ x.k = 4) : AtL l st p td := by
  rcases h with h | ⟨y, k, t, u, h1, h2, h5, h6, h7⟩
  · exact .inl h
  · obtain ⟨e, _, _⟩ := drop_get h2
    rw [hx] at e
    injection e with e
    subst e
    have hk : k = .nil := F.cnt_zero (by rw [h1.2.1]; unfold kn; rw [if_neg h3, if_neg h4])
    subst hk
    exact .inr ⟨x, u, h1.1, h3, h4, hx, by omega, h6, by rw [h7, lvs_leaf h3 h4]; rfl⟩
theorem Ats.short {l : List Nd} {st : List (Nat × Nat)} {p : Nat} {td : List Rn} (h : Ats l st p td) (hp : p < l.length) : st.length ≤ 15 := by
  rcases h with h | ⟨y, k, t, u, h1, h2, h5, h6, h7⟩
  · omega
  · omega
theorem Ats.fine {l : List Nd} {st : List (Nat × Nat)} {p : Nat} {td : List Rn} (h : Ats l st p td) {x : Nd} (hx : l[p]? = some x) : Tab.fine x = true := by
  rcases h with h | ⟨y, k, t, u, h1, h2, h5, h6, h7⟩
  · have := (List.getElem?_eq_some_iff.1 hx).1
    omega
  · obtain ⟨e, _, _⟩ := drop_get h2
    rw [hx] at e
    injection e with e
    subst e
    exact h1.1
theorem Ats.seq {l : List Nd} {st : List (Nat × Nat)} {p : Nat} {td : List Rn} (h : Ats l st p td) {x : Nd} (hx : l[p]? = some x) (h3 : x.k = 3) : Ats l ((x.n.toNat, 0) :: st) (p + 1) td := by
  rcases h with h | ⟨y, k, t, u, h1, h2, h5, h6, h7⟩
  · have := (List.getElem?_eq_some_iff.1 hx).1
    omega
  · obtain ⟨e, e2, _⟩ := drop_get h2
    rw [hx] at e
    injection e with e
    subst e
    obtain ⟨hf, hc, hok, _⟩ := h1
    have hc' : k.cnt = x.n.toNat := by rw [hc]; unfold kn; rw [if_pos h3]
    have hn := fine_one hf
    cases k with
    | nil => simp only [F.cnt] at hc'; omega
    | cons y q r =>
      have e3 : x.n.toNat = r.cnt + 1 := by rw [← hc']; rfl
      have e4 : l.drop (p + 1) = y :: (q.flat ++ (r.flat ++ t)) := by rw [e2]; simp [F.flat]
      have e5 : l.drop (p + 1 + 1 + q.sz) = r.flat ++ t := by
        obtain ⟨_, e6, _⟩ := drop_get e4
        rw [← List.drop_drop, e6, List.drop_left' (F.flat_length q)]
      simp only [F.dep] at h5
      refine .inr ⟨y, q, r.flat ++ t, r.lvs ++ u, ⟨hok.1, hok.2.1, hok.2.2.1, trivial⟩, e4, by simp only [List.length_cons]; omega, ?_, ?_⟩
      · rw [e3]
        exact .seq hok.2.2.2 e5 (by omega) (by have : p + 1 + 1 + q.sz + r.sz = p + 1 + (F.cons y q r).sz := by simp only [F.sz]; omega
                                               rw [this]; exact h6)
      · rw [h7, lvs_seq h3, F.lvs, List.append_assoc]
theorem Ats.rep {l : List Nd} {st : List (Nat × Nat)} {p : Nat} {td : List Rn} (h : Ats l st p td) {x : Nd} (hx : l[p]? = some x) (h4 : x.k = 4) (hn2 : x.n ≤ 9223372036854775807) : Ats l ((x.n.toNat, p + 1) :: st) (p + 1) td := by
  rcases h with h | ⟨y, k, t, u, h1, h2, h5, h6, h7⟩
  · have := (List.getElem?_eq_some_iff.1 hx).1
    omega
  · obtain ⟨e, e2, _⟩ := drop_get h2
    rw [hx] at e
    injection e with e
    subst e
    obtain ⟨hf, hc, hok, _⟩ := h1
    have hc' : k.cnt = 1 := by rw [hc]; unfold kn; rw [if_neg (by omega), if_pos h4]
    have hn := fine_one hf
    cases k with
    | nil => simp [F.cnt] at hc'
    | cons y q r =>
      obtain rfl : r = .nil := F.cnt_zero (by simp only [F.cnt] at hc'; omega)
      have e4 : l.drop (p + 1) = y :: (q.flat ++ t) := by rw [e2]; simp [F.flat]
      have e6 : p + 1 + (F.cons y q .nil).sz = p + 1 + 1 + q.sz := by simp only [F.sz]; omega
      simp only [F.dep] at h5
      rw [e6] at h6
      refine .inr ⟨y, q, t, reps (x.n.toNat - 1) (one y q.lvs) ++ u, hok, e4, by simp only [List.length_cons]; omega, .rep hok (by omega) (by omega) (by omega) e4 (by omega) h6, ?_⟩
      rw [h7, lvs_rep h4, reps_one (by omega)]
      simp [F.lvs]
/-- The levels and the place behind a leaf that ends ahead of p. -/
def popm : List (Nat × Nat) → Nat → List (Nat × Nat) × Nat
  | [], p => ([], p)
  | (a, b) :: o, p => if 1 < a then ((a - 1, b) :: o, if 0 < b then b else p) else popm o p
theorem popm_more {a b : Nat} (o : List (Nat × Nat)) (p : Nat) (h : 1 < a) : popm ((a, b) :: o) p = ((a - 1, b) :: o, if 0 < b then b else p) := by simp only [popm]; rw [if_pos h]
theorem popm_less {a b : Nat} (o : List (Nat × Nat)) (p : Nat) (h : ¬ 1 < a) : popm ((a, b) :: o) p = popm o p := by simp only [popm]; rw [if_neg h]
theorem Beh.pop {l : List Nd} {st : List (Nat × Nat)} {p : Nat} {td : List Rn} (h : Beh l st p td) : Ats l (popm st p).1 (popm st p).2 td := by
  induction h with
  | top => exact .inl ⟨rfl, rfl, rfl⟩
  | @seq o p f t td hok hl hd h ih =>
    cases f with
    | nil =>
      rw [popm_less _ _ (by simp [F.cnt])]
      simpa [F.lvs, F.sz] using ih
    | cons y q r =>
      rw [popm_more _ _ (by simp [F.cnt])]
      show Ats l (((F.cons y q r).cnt + 1 - 1, 0) :: o) p _
      have e4 : l.drop p = y :: (q.flat ++ (r.flat ++ t)) := by rw [hl]; simp [F.flat]
      have e5 : l.drop (p + 1 + q.sz) = r.flat ++ t := by
        obtain ⟨_, e6, _⟩ := drop_get e4
        rw [← List.drop_drop, e6, List.drop_left' (F.flat_length q)]
      simp only [F.dep] at hd
      refine .inr ⟨y, q, r.flat ++ t, r.lvs ++ td, ⟨hok.1, hok.2.1, hok.2.2.1, trivial⟩, e4, by simp only [List.length_cons]; omega, ?_, by rw [F.lvs, List.append_assoc]⟩
      exact .seq hok.2.2.2 e5 (by omega) (by have : p + 1 + q.sz + r.sz = p + (F.cons y q r).sz := by simp only [F.sz]; omega
                                             rw [this]; exact h)
  | @rep o a b y k t td hok ha ha2 hb hl hd h ih =>
    by_cases h1 : 1 < a
    · rw [popm_more _ _ h1]
      dsimp only
      rw [if_pos (by omega)]
      refine .inr ⟨y, k, t, reps (a - 1 - 1) (one y k.lvs) ++ td, hok, hl, by simp only [List.length_cons]; omega, .rep hok (by omega) (by omega) hb hl hd h, ?_⟩
      rw [reps_one (n := a - 1) (by omega), List.append_assoc]
    · rw [popm_less _ _ h1]
      have : a - 1 = 0 := by omega
      rw [this]
      exact ih
/-- What the counts are. -/
theorem Beh.bound {l : List Nd} {st : List (Nat × Nat)} {p : Nat} {td : List Rn} (h : Beh l st p td) : ∀ e ∈ st, 1 ≤ e.1 ∧ e.1 ≤ max 9223372036854775807 (l.length + 1) ∧ e.2 ≤ l.length := by
  induction h with
  | top => simp
  | @seq o p f t td hok hl hd h ih =>
    intro e he
    rcases List.mem_cons.1 he with rfl | he
    · have h1 := congrArg List.length hl
      rw [List.length_drop, List.length_append, F.flat_length] at h1
      have h2 := F.cnt_le_sz f
      dsimp only
      omega
    · exact ih e he
  | @rep o a b y k t td hok ha ha2 hb hl hd h ih =>
    intro e he
    rcases List.mem_cons.1 he with rfl | he
    · have := (drop_get hl).2.2
      dsimp only
      omega
    · exact ih e he
/-- At the beginning. -/
theorem Ats.start {x : Nd} {k : F} (hok : (F.cons x k .nil).ok) (hd : k.dep + 1 ≤ 16) : Ats (x :: k.flat) [] 0 (one x k.lvs) := by
  refine .inr ⟨x, k, [], [], hok, by simp, by simpa using hd, ?_, by simp⟩
  have : (0 : Nat) + 1 + k.sz = (x :: k.flat).length := by simp only [List.length_cons, F.flat_length]; omega
  rw [this]
  exact .top

/-- Whose tick t of the runs is; -1 of none. -/
def whoAt : List Rn → Int → Int
  | [], _ => -1
  | r :: s, t => if t < 0 then -1 else if t < r.n then r.p else whoAt s (t - r.n)
theorem whoAt_neg (s : List Rn) (t : Int) (h : t < 0) : whoAt s t = -1 := by
  cases s with
  | nil => rfl
  | cons r s => simp only [whoAt]; rw [if_pos h]
theorem whoAt_at (a : List Rn) (r : Rn) (s : List Rn) (j : Nat) (h : j < r.n) : whoAt (a ++ r :: s) ((ticks a : Int) + j) = r.p := by
  induction a with
  | nil =>
    simp only [List.nil_append, ticks, whoAt]
    rw [if_neg (by omega), if_pos (by omega)]
  | cons x a ih =>
    simp only [List.cons_append, ticks, whoAt]
    rw [if_neg (by omega), if_neg (by omega)]
    rw [show ((x.n + ticks a : Nat) : Int) + j - x.n = (ticks a : Int) + j by omega]
    exact ih
theorem whoAt_out (s : List Rn) (t : Int) (h : (ticks s : Int) ≤ t) : whoAt s t = -1 := by
  induction s generalizing t with
  | nil => rfl
  | cons r s ih =>
    simp only [ticks] at h
    simp only [whoAt]
    split
    · rfl
    · rw [if_neg (by omega)]
      exact ih _ (by omega)
end Tab
end Go.Proofs.Ytknlhhbkahollaa

/- Rows of runs in memory; append in a region that draws. -/
namespace Go.Proofs.Ytknlhhbkahollaa
open Go.RowKit Tab
set_option linter.unusedSimpArgs false
set_option linter.unusedVariables false

theorem elR : Elt 73 88 2 16 (.agg #[.int .i64 0, .int .i64 0]) := ⟨Try.underlying73, by kernel_rfl, rfl, by omega⟩
/-- A row of runs as cells. -/
def rs : List Rn → List Value
  | [] => []
  | r :: l => .int .i64 r.p :: .int .i64 (r.n : Int) :: rs l
theorem rs_length (l : List Rn) : (rs l).length = l.length * 2 := by
  induction l with
  | nil => rfl
  | cons x l ih => simp only [rs, List.length_cons, ih]; omega
theorem rs_append (l m : List Rn) : rs (l ++ m) = rs l ++ rs m := by
  induction l with
  | nil => rfl
  | cons x l ih => simp [rs, ih]
theorem rs_one (l : List Rn) : ∀ u ∈ rs l, u.oneCell' = true := by
  induction l with
  | nil => simp [rs]
  | cons x l ih =>
    intro u hu
    simp only [rs, List.mem_cons] at hu
    rcases hu with rfl | rfl | hu
    · rfl
    · rfl
    · exact ih u hu
theorem rs_get (l : List Rn) (i : Nat) (h : i < l.length) : (rs l)[i * 2]? = some (.int .i64 l[i].p) ∧ (rs l)[i * 2 + 1]? = some (.int .i64 (l[i].n : Int)) := by
  induction l generalizing i with
  | nil => simp at h
  | cons x l ih =>
    cases i with
    | zero => simp [rs]
    | succ i =>
      have := ih i (by simpa using h)
      have e : (i + 1) * 2 = i * 2 + 1 + 1 := by omega
      rw [e]
      simp only [rs, List.getElem?_cons_succ, List.getElem_cons_succ]
      exact this
/-- A slice at A, n long, holds the runs l. -/
structure RdR (w : World) (B : Nat) (A : Option Addr) (n : Nat) (l : List Rn) : Prop where
  len : l.length = n
  rd : RdV w B A (rs l)
section
variable {w w' : World} {B B' n : Nat} {A : Option Addr} {l : List Rn}
theorem RdR.below (h : RdR w B A n l) (hb : Below B w w') : RdR w' B A n l := ⟨h.len, h.rd.below hb⟩
theorem RdR.more (h : RdR w B A n l) (hB : B ≤ B') : RdR w B' A n l := ⟨h.len, h.rd.more hB⟩
theorem RdR.on (h : RdR w w.heap.size A n l) (hb : Below w.heap.size w w') : RdR w' w'.heap.size A n l := (h.below hb).more hb.size
theorem RdR.gb {b : Nat} (h : RdR w b A n l) (hb : b ≤ w.heap.size) (hg : w.grownBy w' (some b)) : RdR w' b A n l :=
  ⟨h.len, h.rd.keep fun p hp => World.cell?_of_block (hg.block p.block (by omega) (fun e => by injection e with e; omega))⟩
theorem RdR.at_ (h : RdR w B A n l) {i : Nat} (hi : i < n) : ∃ (ad : Addr) (r : Rn), A = some ad ∧ ad.block < B ∧ l[i]? = some r ∧
    w.cell? (ad.add (i * 2)) = some (.int .i64 r.p) ∧ w.cell? ⟨(ad.add (i * 2)).block, (ad.add (i * 2)).off + 1, none⟩ = some (.int .i64 (r.n : Int)) := by
  have hl : i < l.length := by rw [h.len]; exact hi
  obtain ⟨ad, e, hb, hc⟩ := h.rd (by rw [rs_length]; omega)
  obtain ⟨h1, h2⟩ := rs_get l i hl
  have e1 : (⟨(ad.add (i * 2)).block, (ad.add (i * 2)).off + 1, none⟩ : Addr) = ad.add (i * 2 + 1) := by
    rw [← add_add]
    generalize ad.add (i * 2) = p
    unfold Addr.add
    rw [if_neg (by omega)]
  exact ⟨ad, l[i], e, hb, List.getElem?_eq_getElem hl, hc _ _ h1, by rw [e1]; exact hc _ _ h2⟩
end
/-- The block of a slice. -/
def obk (A : Option Addr) : Option Nat := A.map (·.block)
theorem ownBlock_obk (A : Option Addr) (n c : Nat) : (Value.slice A n c).ownBlock = obk A := by cases A <;> rfl
/-- No block has turned but A0's; A is A0's or newer. -/
structure Grew (A0 A : Option Addr) (w w' : World) : Prop where
  gb : w.grownBy w' (obk A0)
  at_ : obk A = obk A0 ∨ ∃ g, obk A = some g ∧ w.heap.size ≤ g
theorem Grew.refl (A : Option Addr) (w : World) : Grew A A w w := ⟨⟨rfl, rfl, rfl, Nat.le_refl _, fun _ _ _ => rfl⟩, .inl rfl⟩
theorem Grew.trans {A0 A1 A2 : Option Addr} {w w1 w2 : World} (h : Grew A0 A1 w w1) (k : Grew A1 A2 w1 w2) : Grew A0 A2 w w2 := by
  refine ⟨⟨k.gb.os.trans h.gb.os, k.gb.tape.trans h.gb.tape, k.gb.output.trans h.gb.output, Nat.le_trans h.gb.size k.gb.size, fun i hi hne => ?_⟩, ?_⟩
  · refine (k.gb.block i (Nat.lt_of_lt_of_le hi h.gb.size) ?_).trans (h.gb.block i hi hne)
    rcases h.at_ with e | ⟨g, e, hg⟩
    · rw [e]; exact hne
    · rw [e]; intro e2; injection e2 with e2; omega
  · rcases k.at_ with e | ⟨g, e, hg⟩
    · rw [e]; exact h.at_
    · exact .inr ⟨g, e, Nat.le_trans h.gb.size hg⟩
theorem Grew.bel {A0 : Option Addr} {w w' : World} (h : Below w.heap.size w w') : Grew A0 A0 w w' := ⟨⟨h.os, h.tape, h.output, h.size, fun i hi _ => h.block i hi⟩, .inl rfl⟩
theorem Grew.drew {A0 A : Option Addr} {w w' : World} (h : Grew A0 A w.drew w') : Grew A0 A w w' := ⟨⟨h.gb.os, h.gb.tape, h.gb.output, h.gb.size, h.gb.block⟩, h.at_⟩
/-- append onto a row of the call's own: where the new one lies, what stays. -/
theorem run_appX {T E s b : Nat} {z : Value} (L : Elt T E s b z) (w : World) (B : Nat) (A : Option Addr) (n c : Nat) (l0 : List Value) (h : OwnV E s w B A n c l0) (ad : Addr) (m d : Nat) (l : List Value) (Bs : Nat) (hr : RdV w Bs (some ad) l)
    (hl : l.length = m * s) (hm0 : 0 < m) (h1 : ∀ u ∈ l, u.oneCell' = true) (hb : (n + m) * b ≤ 140737488355328) (hm : n + m ≤ maxLen) (hB : B ≤ w.heap.size) :
    ∃ A' c' w', (Builtin.append_ #[T, T] T #[.slice A n c, .slice (some ad) m d]).run Try.prog w = .ok (.slice A' (n + m) c') w' ∧ OwnV E s w' B A' (n + m) c' (l0 ++ l) ∧ Below B w w' ∧ Grew A A' w w' := by
  obtain ⟨i, hi, hz, hs, hby⟩ := info_parts L.hi
  have hpos : 0 < l.length := by rw [hl]; exact Nat.mul_pos hm0 L.hs
  obtain ⟨ad', e, _, hc⟩ := hr hpos
  injection e with e
  subst e
  obtain ⟨v', w', hrun, hown, hgr, hnil, hat⟩ := run_append_own_at (P := Try.prog) w B T T E i z s b L.ht hi hz hs hby L.hz L.hs (.slice A n c) n l0 h ad m d l hl hc h1 hm hb hB
  have hbel : Below B w w' := (Below.refl _ _).grown hgr hB (fun k hk => by
    rcases h.2 with ⟨hv, _⟩ | ⟨g, cap, cur, hv, hbg, _⟩
    · rw [hv] at hk; simp [Value.ownBlock] at hk
    · rw [hv] at hk; simp [Value.ownBlock] at hk; omega)
  rcases hown.2 with ⟨hv, h0⟩ | ⟨g, cap, cur, hv, _⟩
  · omega
  · subst hv
    rw [ownBlock_obk] at hgr hat
    rw [ownBlock_obk] at hat
    exact ⟨_, _, w', hrun, hown, hbel, hgr, hat.imp id fun e => ⟨_, e, Nat.le_refl _⟩⟩
section
variable {T E s b : Nat} {z : Value}
theorem step_appX (L : Elt T E s b z) {ops : Array Oper} {o : Oper} {a : Act} {K : Act → World → Prop} {Q : Exit → Act → World → Prop} {w : World} {F : Prop} (hgd : o.guard = none) (x y : Operand)
    (ho : o.op = .call { callee := .builtin .append, args := #[x, y], argTypes := #[T, T] }) (hty : o.type = T)
    (B : Nat) (A : Option Addr) (n c : Nat) (l0 : List Value) (hx : a.eval x = .slice A n c) (h : OwnV E s w B A n c l0) (ad : Addr) (m d : Nat) (l : List Value) (Bs : Nat) (hy : a.eval y = .slice (some ad) m d) (hr : RdV w Bs (some ad) l)
    (hl : l.length = m * s) (hm0 : 0 < m) (h1 : ∀ u ∈ l, u.oneCell' = true) (hb : (n + m) * b ≤ 140737488355328) (hm : n + m ≤ maxLen) (hB : B ≤ w.heap.size)
    (N : Nat) (hN : n + m = N) (M : List Value) (hM : l0 ++ l = M)
    (hK : ∀ A' c' w', OwnV E s w' B A' N c' M → Below B w w' → Grew A A' w w' → K (a.put o.dst (.slice A' N c')) w') : if Region.wanted o (yielded ops a.tmps) = true then Oper.wp Try.prog o a w K Q else F := by
  have hw : Region.wanted o (yielded ops a.tmps) = true := by simp [Region.wanted, hgd]
  rw [if_pos hw]
  subst hN; subst hM
  obtain ⟨A', c', w', hrun, h1, h2, h3⟩ := run_appX L w B A n c l0 h ad m d l Bs hr hl hm0 h1 hb hm hB
  unfold Oper.wp execOp
  simp only [ho, hty, resolve, invoke, builtin, Sem.run_bind, Sem.run_pure, Result.andThen_ok, List.map_toArray, List.map_cons, List.map_nil, hx, hy, hrun]
  exact hK A' c' w' h1 h2 h3
theorem wpList_appX (L : Elt T E s b z) {ops : Array Oper} {rest : List Oper} {o : Oper} {a : Act} {Q : Exit → Act → World → Prop} {w : World} (hgd : o.guard = none) (x y : Operand)
    (ho : o.op = .call { callee := .builtin .append, args := #[x, y], argTypes := #[T, T] }) (hty : o.type = T)
    (B : Nat) (A : Option Addr) (n c : Nat) (l0 : List Value) (hx : a.eval x = .slice A n c) (h : OwnV E s w B A n c l0) (ad : Addr) (m d : Nat) (l : List Value) (Bs : Nat) (hy : a.eval y = .slice (some ad) m d) (hr : RdV w Bs (some ad) l)
    (hl : l.length = m * s) (hm0 : 0 < m) (h1 : ∀ u ∈ l, u.oneCell' = true) (hb : (n + m) * b ≤ 140737488355328) (hm : n + m ≤ maxLen) (hB : B ≤ w.heap.size)
    (N : Nat) (hN : n + m = N) (M : List Value) (hM : l0 ++ l = M)
    (hK : ∀ A' c' w', OwnV E s w' B A' N c' M → Below B w w' → Grew A A' w w' → wpList Try.prog ops Q rest (a.put o.dst (.slice A' N c')) w') : wpList Try.prog ops Q (o :: rest) a w := by
  subst hN; subst hM
  refine wpList_plain hgd fun K hk => ?_
  obtain ⟨A', c', w', hrun, h1, h2, h3⟩ := run_appX L w B A n c l0 h ad m d l Bs hr hl hm0 h1 hb hm hB
  unfold Oper.wp execOp
  simp only [ho, hty, resolve, invoke, builtin, Sem.run_bind, Sem.run_pure, Result.andThen_ok, List.map_toArray, List.map_cons, List.map_nil, hx, hy, hrun]
  exact hk _ _ (hK A' c' w' h1 h2 h3)
end
end Go.Proofs.Ytknlhhbkahollaa

/- Closing a matrix: Warshall's recurrence, what it is (the least that is closed), what grows with it; who depends on whom, who sways whom, out of partitions and channels: plain mathematics. -/
namespace Go.Proofs.Ytknlhhbkahollaa
namespace Tab

/-- What is reached by ways through those below k. -/
def War (m : Nat → Nat → Bool) : Nat → Nat → Nat → Bool
  | 0, a, b => m a b
  | k + 1, a, b => War m k a b || (War m k a k && War m k k b)
theorem war_ge (m : Nat → Nat → Bool) (k a b : Nat) (h : War m k a b = true) : War m (k + 1) a b = true := by
  simp only [War, h, Bool.true_or]
theorem war_up (m : Nat → Nat → Bool) (k d a b : Nat) (h : War m k a b = true) : War m (k + d) a b = true := by
  induction d with
  | zero => exact h
  | succ d ih => exact war_ge m (k + d) a b ih
theorem war_from (m : Nat → Nat → Bool) (n a b : Nat) (h : m a b = true) : War m n a b = true := by
  have := war_up m 0 n a b h
  rwa [Nat.zero_add] at this
/-- Row and column k stay in step k: so it may be done in place. -/
theorem war_col (m : Nat → Nat → Bool) (k a : Nat) : War m (k + 1) a k = War m k a k := by
  simp only [War]
  cases War m k a k <;> simp
theorem war_row (m : Nat → Nat → Bool) (k b : Nat) : War m (k + 1) k b = War m k k b := by
  simp only [War]
  cases War m k k k <;> cases War m k k b <;> simp
theorem war_step {m : Nat → Nat → Bool} {k a b : Nat} : War m (k + 1) a b = true ↔ War m k a b = true ∨ (War m k a k = true ∧ War m k k b = true) := by
  simp only [War, Bool.or_eq_true, Bool.and_eq_true]
theorem war_trans (m : Nat → Nat → Bool) (k : Nat) : ∀ a b c, c < k → War m k a c = true → War m k c b = true → War m k a b = true := by
  induction k with
  | zero => intro a b c h; omega
  | succ k ih =>
    intro a b c hc h1 h2
    by_cases hk : c = k
    · subst hk
      rw [war_col] at h1
      rw [war_row] at h2
      exact war_step.2 (.inr ⟨h1, h2⟩)
    · have hlt : c < k := by omega
      rw [war_step] at h1 h2 ⊢
      rcases h1 with h1 | ⟨h1, h1'⟩ <;> rcases h2 with h2 | ⟨h2, h2'⟩
      · exact .inl (ih a b c hlt h1 h2)
      · exact .inr ⟨ih a k c hlt h1 h2, h2'⟩
      · exact .inr ⟨h1, ih k b c hlt h1' h2⟩
      · exact .inr ⟨h1, h2'⟩
/-- Closed below n. -/
def Shut (n : Nat) (M : Nat → Nat → Bool) : Prop := ∀ a b c, a < n → b < n → c < n → M a c = true → M c b = true → M a b = true
theorem war_shut (m : Nat → Nat → Bool) (n : Nat) : Shut n (War m n) := fun a b c _ _ hc h1 h2 => war_trans m n a b c hc h1 h2
/-- No closed one that has m has less. -/
theorem war_least {m M : Nat → Nat → Bool} {n : Nat} (hM : Shut n M) (hm : ∀ a b, a < n → b < n → m a b = true → M a b = true) (k : Nat) (hk : k ≤ n) : ∀ a b, a < n → b < n → War m k a b = true → M a b = true := by
  induction k with
  | zero => intro a b ha hb h; exact hm a b ha hb h
  | succ k ih =>
    intro a b ha hb h
    rcases war_step.1 h with h | ⟨h1, h2⟩
    · exact ih (by omega) a b ha hb h
    · exact hM a b k ha hb (by omega) (ih (by omega) a k ha (by omega) h1) (ih (by omega) k b (by omega) hb h2)
/-- What is closed stays. -/
theorem war_stays {M : Nat → Nat → Bool} {n : Nat} (hM : Shut n M) (a b : Nat) (ha : a < n) (hb : b < n) : War M n a b = M a b := by
  rw [Bool.eq_iff_iff]
  exact ⟨war_least hM (fun _ _ _ _ h => h) n (Nat.le_refl _) a b ha hb, war_from M n a b⟩
/-- Whatever closes m to the least is this. -/
theorem war_is {m M : Nat → Nat → Bool} {n : Nat} (hM : Shut n M) (hm : ∀ a b, a < n → b < n → m a b = true → M a b = true) (hl : ∀ a b, a < n → b < n → M a b = true → War m n a b = true) (a b : Nat) (ha : a < n) (hb : b < n) : M a b = War m n a b := by
  rw [Bool.eq_iff_iff]
  exact ⟨hl a b ha hb, war_least hM hm n (Nat.le_refl _) a b ha hb⟩
/-- More is reached by more. -/
theorem war_more {m M : Nat → Nat → Bool} {n : Nat} (hm : ∀ a b, a < n → b < n → m a b = true → M a b = true) : ∀ a b, a < n → b < n → War m n a b = true → War M n a b = true :=
  war_least (war_shut M n) (fun a b ha hb h => war_from M n a b (hm a b ha hb h)) n (Nat.le_refl _)
/-- It hangs on what is below n alone. -/
theorem war_congr {m M : Nat → Nat → Bool} {n : Nat} (h : ∀ a b, a < n → b < n → m a b = M a b) (k : Nat) (hk : k ≤ n) : ∀ a b, a < n → b < n → War m k a b = War M k a b := by
  induction k with
  | zero => intro a b ha hb; exact h a b ha hb
  | succ k ih =>
    intro a b ha hb
    simp only [War]
    rw [ih (by omega) a b ha hb, ih (by omega) a k ha (by omega), ih (by omega) k b (by omega) hb]

/-- A partition: may it change the schedule, stop all. -/
structure Pt where
  sched : Bool
  stop : Bool
/-- A channel: from whom, to whom, is it a queue. -/
structure Ch where
  from_ : Int
  to_ : Int
  queue : Bool
def inP (n : Nat) (p : Int) : Bool := decide (0 ≤ p) && decide (p < n)
def schedOf (P : List Pt) (a : Nat) : Bool := (P[a]?.map (·.sched)).getD false
def stopOf (P : List Pt) (a : Nat) : Bool := (P[a]?.map (·.stop)).getD false
/-- Does a channel join a and b, this way? -/
def joins (n : Nat) (x : Ch) (a b : Nat) : Bool := inP n x.from_ && inP n x.to_ && decide (x.from_ = a) && decide (x.to_ = b)
def depF (P : List Pt) (C : List Ch) (a b : Nat) : Bool := decide (a = b) || (schedOf P a && schedOf P b) || C.any fun x => joins P.length x a b || joins P.length x b a
def swayF (P : List Pt) (C : List Ch) (a b : Nat) : Bool := decide (a = b) || schedOf P a || stopOf P a || C.any fun x => joins P.length x a b || (x.queue && joins P.length x b a)
theorem depF_sym (P : List Pt) (C : List Ch) (a b : Nat) : depF P C a b = depF P C b a := by
  unfold depF
  congr 1
  · congr 1
    · exact decide_eq_decide.2 eq_comm
    · exact Bool.and_comm _ _
  · congr 1
    funext x
    exact Bool.or_comm _ _
theorem depF_self (P : List Pt) (C : List Ch) (a : Nat) : depF P C a a = true := by simp [depF]
theorem swayF_self (P : List Pt) (C : List Ch) (a : Nat) : swayF P C a a = true := by simp [swayF]
theorem depF_chan {P : List Pt} {C : List Ch} {x : Ch} {a b : Nat} (hx : x ∈ C) (h : joins P.length x a b = true) : depF P C a b = true ∧ depF P C b a = true := by
  have h1 : depF P C a b = true := by
    unfold depF
    simp only [Bool.or_eq_true, List.any_eq_true]
    exact .inr ⟨x, hx, .inl h⟩
  exact ⟨h1, by rw [depF_sym]; exact h1⟩
theorem swayF_chan {P : List Pt} {C : List Ch} {x : Ch} {a b : Nat} (hx : x ∈ C) (h : joins P.length x a b = true) : swayF P C a b = true ∧ (x.queue = true → swayF P C b a = true) := by
  unfold swayF
  simp only [Bool.or_eq_true, List.any_eq_true, Bool.and_eq_true]
  exact ⟨.inr ⟨x, hx, .inl h⟩, fun hq => .inr ⟨x, hx, .inr ⟨hq, h⟩⟩⟩
/-- With a channel more nobody sways fewer. -/
theorem swayF_more (P : List Pt) (C D : List Ch) (a b : Nat) (h : swayF P C a b = true) : swayF P (C ++ D) a b = true := by
  unfold swayF at h ⊢
  rw [List.any_append]
  revert h
  cases decide (a = b) <;> cases schedOf P a <;> cases stopOf P a <;> cases (C.any fun x => joins P.length x a b || (x.queue && joins P.length x b a)) <;> simp
/-- The channels one by one, from the first on: what a loop over them has done. -/
theorem depF_snoc (P : List Pt) (C : List Ch) (x : Ch) (a b : Nat) : depF P (C ++ [x]) a b = (depF P C a b || (joins P.length x a b || joins P.length x b a)) := by
  unfold depF
  rw [List.any_append, List.any_cons, List.any_nil, Bool.or_false, Bool.or_assoc _ _ (joins P.length x a b || joins P.length x b a)]
theorem swayF_snoc (P : List Pt) (C : List Ch) (x : Ch) (a b : Nat) : swayF P (C ++ [x]) a b = (swayF P C a b || (joins P.length x a b || (x.queue && joins P.length x b a))) := by
  unfold swayF
  rw [List.any_append, List.any_cons, List.any_nil, Bool.or_false, Bool.or_assoc _ _ (joins P.length x a b || (x.queue && joins P.length x b a))]
/-- Who reaches p, rising. -/
def reachL (P : List Pt) (C : List Ch) (p : Nat) : List Nat := (List.range P.length).filter fun a => War (swayF P C) P.length a p
theorem reachL_self (P : List Pt) (C : List Ch) (p : Nat) (h : p < P.length) : p ∈ reachL P C p := by
  unfold reachL
  rw [List.mem_filter, List.mem_range]
  exact ⟨h, war_from _ _ _ _ (swayF_self P C p)⟩
theorem filter_sub {q r : Nat → Bool} (l : List Nat) (h : ∀ a ∈ l, q a = true → r a = true) : (l.filter q).Sublist (l.filter r) := by
  induction l with
  | nil => exact List.Sublist.refl _
  | cons x l ih =>
    have h1 := ih fun a ha => h a (by simp [ha])
    cases hq : q x with
    | true => rw [List.filter_cons_of_pos hq, List.filter_cons_of_pos (h x (by simp) hq)]; exact h1.cons_cons x
    | false =>
      rw [List.filter_cons_of_neg (by simp [hq])]
      cases hr : r x with
      | true => rw [List.filter_cons_of_pos hr]; exact h1.cons x
      | false => rw [List.filter_cons_of_neg (by simp [hr])]; exact h1
/-- With channels more it is reached by those, and others between them. -/
theorem reachL_more (P : List Pt) (C D : List Ch) (p : Nat) (hp : p < P.length) : (reachL P C p).Sublist (reachL P (C ++ D) p) := by
  unfold reachL
  refine filter_sub _ fun a ha h => ?_
  rw [List.mem_range] at ha
  exact war_more (fun x y _ _ h => swayF_more P C D x y h) a p ha hp h
end Tab
end Go.Proofs.Ytknlhhbkahollaa

/- Searching a graph by a list of things to do; closing by searches; who reaches by channels, back from one: plain mathematics. -/
namespace Go.Proofs.Ytknlhhbkahollaa
namespace Tab

/-- What is led to: the first ones, and whom a step leads to from there. -/
inductive Rch (S : Nat → List Nat) (F : List Nat) : Nat → Prop
  | base {a : Nat} : a ∈ F → Rch S F a
  | step {a b : Nat} : Rch S F b → a ∈ S b → Rch S F a
theorem Rch.from {S : Nat → List Nat} {F G : List Nat} (h : ∀ a ∈ F, Rch S G a) {a : Nat} (ha : Rch S F a) : Rch S G a := by
  induction ha with
  | base h1 => exact h _ h1
  | step _ h2 ih => exact .step ih h2
def put1 {α : Type} (f : Nat → α) (i : Nat) (v : α) : Nat → α := fun j => if j = i then v else f j
theorem put1_same {α : Type} (f : Nat → α) (i : Nat) (v : α) : put1 f i v i = v := if_pos rfl
theorem put1_other {α : Type} {f : Nat → α} {i j : Nat} {v : α} (h : j ≠ i) : put1 f i v j = f j := if_neg h
/-- Those below n that are not marked. -/
def un : Nat → (Nat → Bool) → Nat
  | 0, _ => 0
  | n + 1, M => un n M + if M n = true then 0 else 1
theorem un_congr {n : Nat} {M N : Nat → Bool} (h : ∀ j, j < n → M j = N j) : un n M = un n N := by
  induction n with
  | zero => rfl
  | succ n ih => simp only [un]; rw [ih fun j hj => h j (by omega), h n (by omega)]
theorem un_put {n : Nat} {M : Nat → Bool} {x : Nat} (hx : x < n) (h : M x = false) : un n (put1 M x true) + 1 = un n M := by
  induction n with
  | zero => omega
  | succ n ih =>
    simp only [un]
    by_cases e : x = n
    · subst e
      rw [put1_same, h, if_pos rfl, if_neg (by simp), un_congr (N := M) fun j hj => put1_other (by omega)]
    · have := ih (by omega)
      rw [put1_other (j := n) (by omega)]
      omega
/-- Whatever must be marked is, or is yet to come. -/
structure Cov (n : Nat) (S : Nat → List Nat) (F : List Nat) (M : Nat → Bool) (T : List (List Nat)) : Prop where
  first : ∀ x ∈ F, M x = true ∨ ∃ L ∈ T, x ∈ L
  next : ∀ b, b < n → M b = true → ∀ y ∈ S b, M y = true ∨ ∃ L ∈ T, y ∈ L
  snd : ∀ a, M a = true → Rch S F a
  todo : ∀ L ∈ T, ∀ x ∈ L, x < n ∧ Rch S F x
section
variable {n : Nat} {S : Nat → List Nat} {F : List Nat} {M : Nat → Bool} {T : List (List Nat)}
theorem Cov.start (hF : ∀ x ∈ F, x < n) : Cov n S F (fun _ => false) [F] :=
  ⟨fun x hx => .inr ⟨F, by simp, hx⟩, fun b _ h => by simp at h, fun a h => by simp at h, fun L hL x hx => by simp at hL; subst hL; exact ⟨hF x hx, .base hx⟩⟩
theorem Cov.pop {L : List Nat} (h : Cov n S F M (T ++ [L])) : Cov n S F M (L :: T) := by
  have e : ∀ K : List Nat, K ∈ T ++ [L] ↔ K ∈ L :: T := fun K => by simp [or_comm]
  refine ⟨fun x hx => (h.first x hx).imp id fun ⟨K, hK, h2⟩ => ⟨K, (e K).1 hK, h2⟩, fun b hb hm y hy => (h.next b hb hm y hy).imp id fun ⟨K, hK, h2⟩ => ⟨K, (e K).1 hK, h2⟩, h.snd, fun K hK => h.todo K ((e K).2 hK)⟩
theorem Cov.drop (h : Cov n S F M ([] :: T)) : Cov n S F M T := by
  refine ⟨fun x hx => (h.first x hx).imp id ?_, fun b hb hm y hy => (h.next b hb hm y hy).imp id ?_, h.snd, fun K hK => h.todo K (by simp [hK])⟩
  all_goals
    rintro ⟨K, hK, h2⟩
    rcases List.mem_cons.1 hK with e | hK
    · subst e; cases h2
    · exact ⟨K, hK, h2⟩
theorem Cov.skip {x : Nat} {L : List Nat} (h : Cov n S F M ((x :: L) :: T)) (hx : M x = true) : Cov n S F M (L :: T) := by
  have key : ∀ y, (M y = true ∨ ∃ K ∈ (x :: L) :: T, y ∈ K) → (M y = true ∨ ∃ K ∈ L :: T, y ∈ K) := by
    rintro y (h1 | ⟨K, hK, h2⟩)
    · exact .inl h1
    · rcases List.mem_cons.1 hK with e | hK
      · subst e
        rcases List.mem_cons.1 h2 with e | h2
        · subst e; exact .inl hx
        · exact .inr ⟨L, by simp, h2⟩
      · exact .inr ⟨K, by simp [hK], h2⟩
  refine ⟨fun y hy => key y (h.first y hy), fun b hb hm y hy => key y (h.next b hb hm y hy), h.snd, fun K hK y hy => ?_⟩
  rcases List.mem_cons.1 hK with e | hK
  · subst e; exact h.todo _ List.mem_cons_self y (List.mem_cons_of_mem _ hy)
  · exact h.todo K (by simp [hK]) y hy
theorem Cov.mark {x : Nat} {L : List Nat} (h : Cov n S F M ((x :: L) :: T)) (hS : ∀ b, b < n → ∀ y ∈ S b, y < n) : Cov n S F (put1 M x true) (L :: (T ++ [S x])) := by
  have hx := h.todo (x :: L) (by simp) x (by simp)
  have mono : ∀ y, M y = true → put1 M x true y = true := fun y hy => by
    by_cases e : y = x
    · subst e; exact put1_same _ _ _
    · rw [put1_other e]; exact hy
  have key : ∀ y, (M y = true ∨ ∃ K ∈ (x :: L) :: T, y ∈ K) → (put1 M x true y = true ∨ ∃ K ∈ L :: (T ++ [S x]), y ∈ K) := by
    rintro y (h1 | ⟨K, hK, h2⟩)
    · exact .inl (mono y h1)
    · rcases List.mem_cons.1 hK with e | hK
      · subst e
        rcases List.mem_cons.1 h2 with e | h2
        · subst e; exact .inl (put1_same _ _ _)
        · exact .inr ⟨L, by simp, h2⟩
      · exact .inr ⟨K, by simp [hK], h2⟩
  refine ⟨fun y hy => key y (h.first y hy), fun b hb hm y hy => ?_, fun a ha => ?_, fun K hK y hy => ?_⟩
  · by_cases e : b = x
    · subst e; exact .inr ⟨S b, by simp, hy⟩
    · rw [put1_other e] at hm
      exact key y (h.next b hb hm y hy)
  · by_cases e : a = x
    · subst e; exact hx.2
    · rw [put1_other e] at ha
      exact h.snd a ha
  · rcases List.mem_cons.1 hK with e | hK
    · subst e; exact h.todo _ List.mem_cons_self y (List.mem_cons_of_mem _ hy)
    · rcases List.mem_append.1 hK with hK | hK
      · exact h.todo K (by simp [hK]) y hy
      · simp at hK
        subst hK
        exact ⟨hS x hx.1 y hy, .step hx.2 hy⟩
theorem Cov.done (h : Cov n S F M []) (hF : ∀ x ∈ F, x < n) (hS : ∀ b, b < n → ∀ y ∈ S b, y < n) (a : Nat) : M a = true ↔ Rch S F a := by
  refine ⟨h.snd a, fun ha => ?_⟩
  have key : M a = true ∧ a < n := by
    induction ha with
    | base h1 =>
      rcases h.first _ h1 with h2 | ⟨K, hK, _⟩
      · exact ⟨h2, hF _ h1⟩
      · cases hK
    | step _ h2 ih =>
      rcases h.next _ ih.2 ih.1 _ h2 with h3 | ⟨K, hK, _⟩
      · exact ⟨h3, hS _ ih.2 _ h2⟩
      · cases hK
  exact key.1
end
/-- Where a row is true, rising. -/
def plcs (n : Nat) (r : Nat → Bool) : List Nat := (List.range n).filter r
theorem mem_plcs {n : Nat} {r : Nat → Bool} {a : Nat} : a ∈ plcs n r ↔ a < n ∧ r a = true := by simp [plcs, List.mem_filter]
theorem plcs_succ (n : Nat) (r : Nat → Bool) : plcs (n + 1) r = if r n = true then plcs n r ++ [n] else plcs n r := by
  unfold plcs
  rw [List.range_succ, List.filter_append]
  split <;> simp_all
theorem plcs_len (n : Nat) (r : Nat → Bool) : (plcs n r).length ≤ n := by
  unfold plcs
  have := List.length_filter_le r (List.range n)
  rwa [List.length_range] at this
theorem plcs_congr {n : Nat} {r s : Nat → Bool} (h : ∀ a, a < n → r a = s a) : plcs n r = plcs n s := by
  unfold plcs
  exact List.filter_congr fun a ha => h a (by simpa using ha)
/-- Searches from everywhere close a matrix. -/
theorem rch_war {n : Nat} {m M : Nat → Nat → Bool} (h : ∀ a, a < n → ∀ b, M a b = true ↔ Rch (fun x => plcs n (m x)) (plcs n (m a)) b) (a b : Nat) (ha : a < n) (hb : b < n) : M a b = War m n a b := by
  refine war_is (fun a b c ha hb hc h1 h2 => ?_) (fun a b ha hb h1 => ?_) (fun a b ha hb h1 => ?_) a b ha hb
  · rw [h a ha] at h1 ⊢
    rw [h c hc] at h2
    exact Rch.from (fun x hx => .step h1 hx) h2
  · rw [h a ha]
    exact .base (mem_plcs.2 ⟨hb, h1⟩)
  · rw [h a ha] at h1
    have key : b < n ∧ War m n a b = true := by
      clear hb
      induction h1 with
      | base h2 => exact ⟨(mem_plcs.1 h2).1, war_from m n _ _ (mem_plcs.1 h2).2⟩
      | step _ h2 ih =>
        have h3 := mem_plcs.1 h2
        exact ⟨h3.1, war_shut m n a _ _ ha h3.1 ih.1 ih.2 (war_from m n _ _ h3.2)⟩
    exact key.2
/-- The ways between partitions: what a loop over the channels gives. -/
def wayOf (n : Nat) (x : Ch) : List (Nat × Nat) := if inP n x.from_ && inP n x.to_ then (x.from_.toNat, x.to_.toNat) :: (if x.queue then [(x.to_.toNat, x.from_.toNat)] else []) else []
def wayL (n : Nat) (C : List Ch) : List (Nat × Nat) := C.flatMap (wayOf n)
theorem inP_iff {n : Nat} {p : Int} : inP n p = true ↔ 0 ≤ p ∧ p < n := by simp [inP]
theorem joins_iff {n : Nat} {x : Ch} {a b : Nat} : joins n x a b = true ↔ (inP n x.from_ = true ∧ inP n x.to_ = true) ∧ x.from_ = a ∧ x.to_ = b := by
  simp only [joins, Bool.and_eq_true, decide_eq_true_eq, and_assoc]
theorem mem_wayOf {n : Nat} {x : Ch} {a b : Nat} : (a, b) ∈ wayOf n x ↔ (joins n x a b || (x.queue && joins n x b a)) = true := by
  rw [Bool.or_eq_true, Bool.and_eq_true, joins_iff, joins_iff]
  unfold wayOf
  by_cases h1 : inP n x.from_ = true
  · by_cases h2 : inP n x.to_ = true
    · have k1 := inP_iff.1 h1
      have k2 := inP_iff.1 h2
      rw [h1, h2]
      simp only [Bool.and_self, if_true, List.mem_cons, Prod.mk.injEq, true_and]
      cases x.queue with
      | true =>
        simp only [if_true, List.mem_singleton, Prod.mk.injEq, true_and]
        omega
      | false =>
        simp only [Bool.false_eq_true, if_false, List.not_mem_nil, or_false, false_and]
        omega
    · simp only [Bool.not_eq_true] at h2
      rw [h2]
      simp
  · simp only [Bool.not_eq_true] at h1
    rw [h1]
    simp
theorem mem_wayL {n : Nat} {C : List Ch} {a b : Nat} : (a, b) ∈ wayL n C ↔ (C.any fun x => joins n x a b || (x.queue && joins n x b a)) = true := by
  unfold wayL
  rw [List.mem_flatMap, List.any_eq_true]
  exact ⟨fun ⟨x, h1, h2⟩ => ⟨x, h1, mem_wayOf.1 h2⟩, fun ⟨x, h1, h2⟩ => ⟨x, h1, mem_wayOf.2 h2⟩⟩
theorem wayL_lt {n : Nat} {C : List Ch} {a b : Nat} (h : (a, b) ∈ wayL n C) : a < n ∧ b < n := by
  rw [mem_wayL, List.any_eq_true] at h
  obtain ⟨x, _, h⟩ := h
  rw [Bool.or_eq_true, Bool.and_eq_true, joins_iff, joins_iff, inP_iff, inP_iff] at h
  omega
theorem swayF_iff {P : List Pt} {C : List Ch} {a b : Nat} : swayF P C a b = true ↔ a = b ∨ schedOf P a = true ∨ stopOf P a = true ∨ (a, b) ∈ wayL P.length C := by
  unfold swayF
  rw [mem_wayL]
  simp only [Bool.or_eq_true, decide_eq_true_eq, or_assoc]
theorem depF_iff {P : List Pt} {C : List Ch} {a b : Nat} : depF P C a b = true ↔ a = b ∨ (schedOf P a = true ∧ schedOf P b = true) ∨ (a, b) ∈ wayL P.length C ∨ (b, a) ∈ wayL P.length C := by
  unfold depF
  rw [mem_wayL, mem_wayL]
  simp only [Bool.or_eq_true, Bool.and_eq_true, decide_eq_true_eq, List.any_eq_true, or_assoc]
  constructor
  · rintro (h | h | ⟨x, hx, h | h⟩)
    · exact .inl h
    · exact .inr (.inl h)
    · exact .inr (.inr (.inl ⟨x, hx, .inl h⟩))
    · exact .inr (.inr (.inr ⟨x, hx, .inl h⟩))
  · rintro (h | h | ⟨x, hx, h | h⟩ | ⟨x, hx, h | h⟩)
    · exact .inl h
    · exact .inr (.inl h)
    · exact .inr (.inr ⟨x, hx, .inl h⟩)
    · exact .inr (.inr ⟨x, hx, .inr h.2⟩)
    · exact .inr (.inr ⟨x, hx, .inr h⟩)
    · exact .inr (.inr ⟨x, hx, .inl h.2⟩)
/-- The partitions that sway all. -/
def rulL (P : List Pt) : List Nat := plcs P.length fun a => schedOf P a || stopOf P a
/-- From whom a way leads to x, in the order of the ways. -/
def backL (W : List (Nat × Nat)) (x : Nat) : List Nat := (W.filter fun y => decide (y.2 = x)).map (·.1)
theorem mem_backL {W : List (Nat × Nat)} {x a : Nat} : a ∈ backL W x ↔ (a, x) ∈ W := by
  unfold backL
  rw [List.mem_map]
  constructor
  · rintro ⟨⟨p, q⟩, h1, rfl⟩
    rw [List.mem_filter] at h1
    simp only [decide_eq_true_eq] at h1
    obtain ⟨h1, rfl⟩ := h1
    exact h1
  · intro h
    exact ⟨(a, x), by rw [List.mem_filter]; exact ⟨h, by simp⟩, rfl⟩
theorem backL_snoc (W : List (Nat × Nat)) (y : Nat × Nat) (x : Nat) : backL (W ++ [y]) x = if y.2 = x then backL W x ++ [y.1] else backL W x := by
  unfold backL
  rw [List.filter_append, List.map_append]
  by_cases h : y.2 = x
  · simp [h]
  · simp [h]
/-- Back from p by the ways, and from those that sway all. -/
theorem rch_reach (P : List Pt) (C : List Ch) (p : Nat) (hp : p < P.length) (a : Nat) (ha : a < P.length) : Rch (backL (wayL P.length C)) (rulL P ++ [p]) a ↔ War (swayF P C) P.length a p = true := by
  constructor
  · intro h
    have key : a < P.length ∧ War (swayF P C) P.length a p = true := by
      induction h with
      | base h1 =>
        rename_i x
        rcases List.mem_append.1 h1 with h1 | h1
        · obtain ⟨h2, h3⟩ := mem_plcs.1 h1
          refine ⟨h2, war_from _ _ _ _ (swayF_iff.2 ?_)⟩
          rw [Bool.or_eq_true] at h3
          exact .inr (h3.imp id .inl)
        · simp at h1
          subst h1
          exact ⟨hp, war_from _ _ _ _ (swayF_self P C _)⟩
      | step _ h2 ih =>
        rw [mem_backL] at h2
        have h3 := wayL_lt h2
        have h4 := ih h3.2
        exact ⟨h3.1, war_shut _ _ _ _ _ h3.1 hp h3.2 (war_from _ _ _ _ (swayF_iff.2 (.inr (.inr (.inr h2))))) h4.2⟩
    exact key.2
  · intro h
    have key := war_least (m := swayF P C) (n := P.length) (M := fun x y => @decide (Rch (backL (wayL P.length C)) (rulL P ++ [p]) y → Rch (backL (wayL P.length C)) (rulL P ++ [p]) x) (Classical.propDecidable _)) ?_ ?_ P.length (Nat.le_refl _) a p ha hp h
    · simp only [decide_eq_true_eq] at key
      exact key (.base (by simp))
    · intro x y z _ _ _ h1 h2
      simp only [decide_eq_true_eq] at h1 h2 ⊢
      exact fun h => h1 (h2 h)
    · intro x y hx hy h1
      simp only [decide_eq_true_eq]
      intro h2
      rcases swayF_iff.1 h1 with h3 | h3 | h3 | h3
      · subst h3; exact h2
      · exact .base (List.mem_append.2 (.inl (mem_plcs.2 ⟨hx, by rw [h3]; rfl⟩)))
      · exact .base (List.mem_append.2 (.inl (mem_plcs.2 ⟨hx, by rw [h3, Bool.or_true]⟩)))
      · exact .step h2 (mem_backL.2 h3)
end Tab
end Go.Proofs.Ytknlhhbkahollaa

/- Rows of cells that a call owns, as functions; matrices in memory; rows of numbers in rows. -/
namespace Go.Proofs.Ytknlhhbkahollaa
open Go.RowKit Tab
set_option linter.unusedSimpArgs false
set_option linter.unusedVariables false

theorem elB : Elt 40 4 1 1 (.bool false) := ⟨Try.underlying40, by kernel_rfl, rfl, by omega⟩
theorem elBB : Elt 38 40 1 24 (.slice none 0 0) := ⟨Try.underlying38, by kernel_rfl, rfl, by omega⟩
theorem elII : Elt 62 28 1 24 (.slice none 0 0) := ⟨Try.underlying62, by kernel_rfl, rfl, by omega⟩
theorem elW : Elt 66 69 2 16 (.agg #[.int .i64 0, .int .i64 0]) := ⟨Try.underlying66, by kernel_rfl, rfl, by omega⟩
/-- Block g, n cells, holds f. -/
structure Vec (w : World) (g n : Nat) (f : Nat → Value) : Prop where
  cell : ∀ j, j < n → w.cell? ⟨g, j, none⟩ = some (f j)
  thaw : ∀ j, w.frozen? ⟨g, j, none⟩ = false
  lt : g < w.heap.size
section
variable {w w' : World} {g n B : Nat} {f f' : Nat → Value}
theorem Vec.keep (h : Vec w g n f) (hk : w'.heap[g]? = w.heap[g]?) (hs : w.heap.size ≤ w'.heap.size) : Vec w' g n f :=
  ⟨fun j hj => (World.cell?_of_block hk).trans (h.cell j hj), fun j => (World.frozen?_of_block hk).trans (h.thaw j), Nat.lt_of_lt_of_le h.lt hs⟩
theorem Vec.below (h : Vec w g n f) (hb : Below B w w') (hg : g < B) : Vec w' g n f := h.keep (hb.block g hg) hb.size
theorem Vec.on (h : Vec w g n f) (hb : Below w.heap.size w w') : Vec w' g n f := h.below hb h.lt
theorem Vec.congr (h : Vec w g n f) (e : ∀ j, j < n → f j = f' j) : Vec w g n f' := ⟨fun j hj => by rw [← e j hj]; exact h.cell j hj, h.thaw, h.lt⟩
theorem Vec.set (h : Vec w g n f) (i : Nat) (v : Value) : Vec (w.setCell ⟨g, i, none⟩ v) g n (put1 f i v) := by
  refine ⟨fun j hj => ?_, fun j => by simpa using h.thaw j, by simpa using h.lt⟩
  by_cases e : j = i
  · subst e
    rw [put1_same]
    exact World.cell?_setCell_same _ _ _ (h.cell j hj)
  · rw [put1_other e, World.cell?_setCell_other _ _ _ _ (by intro e2; injection e2 with _ e3; omega)]
    exact h.cell j hj
theorem Vec.other (h : Vec w g n f) (p : Addr) (v : Value) (hp : g ≠ p.block) : Vec (w.setCell p v) g n f :=
  h.keep (Below.heap_setCell w p v g hp) (by simp)
theorem Vec.drewN (h : Vec w g n f) (q : Nat) : Vec (w.drewN q) g n f := ⟨h.cell, h.thaw, h.lt⟩
theorem Vec.lit (w : World) (C : Array Value) (t : TypeId) (n : Nat) (f : Nat → Value) (h : ∀ j, j < n → C[j]? = some (f j)) : Vec (w.alloc (.cells C t)) w.heap.size n f :=
  ⟨fun j hj => (World.cell?_alloc_mark _ _ _ _ _).trans (h j hj), fun j => by simp, by simp⟩
theorem Vec.rdc (h : Vec w g n f) : RdC w w.heap.size (some ⟨g, 0, none⟩) n f := fun _ => ⟨_, rfl, h.lt, fun j hj => by
  have e : (⟨g, 0, none⟩ : Addr).add j = ⟨g, j, none⟩ := by unfold Addr.add; split <;> simp_all
  rw [e]; exact h.cell j hj⟩
end
theorem made_get (z : Value) (n j : Nat) (h : j < n) : (madeCells #[z] n)[j]? = some z := by
  rw [← Array.getElem?_toList, toList_madeCells_one]
  simp [h]
theorem run_makeB (m : Nat) (hm : m ≤ 1048576) (W : World) : (Instr.makeSlice 40 (.int .i64 (m : Int)) (.int .i64 (m : Int))).run Try.prog W = .ok (.slice (some ⟨W.heap.size, 0, none⟩) m m) (W.alloc (.cells (madeCells #[.bool false] m) 4)) := by
  obtain ⟨i, hi, hz, hs, hby⟩ := info_parts elB.hi
  have hr := run_make (P := Try.prog) W 40 4 i _ elB.ht hi hz .i64 .i64 m m (by omega) (by omega) (by rw [hby]; omega) (by omega)
  rw [hs] at hr
  simp only [Int.toNat_natCast, Nat.mul_one] at hr
  exact hr
theorem run_makeBB (m : Nat) (hm : m ≤ 1048576) (W : World) : (Instr.makeSlice 38 (.int .i64 (m : Int)) (.int .i64 (m : Int))).run Try.prog W = .ok (.slice (some ⟨W.heap.size, 0, none⟩) m m) (W.alloc (.cells (madeCells #[.slice none 0 0] m) 40)) := by
  obtain ⟨i, hi, hz, hs, hby⟩ := info_parts elBB.hi
  have hr := run_make (P := Try.prog) W 38 40 i _ elBB.ht hi hz .i64 .i64 m m (by omega) (by omega) (by rw [hby]; omega) (by omega)
  rw [hs] at hr
  simp only [Int.toNat_natCast, Nat.mul_one] at hr
  exact hr
theorem run_makeII (m : Nat) (hm : m ≤ 1048576) (W : World) : (Instr.makeSlice 62 (.int .i64 (m : Int)) (.int .i64 (m : Int))).run Try.prog W = .ok (.slice (some ⟨W.heap.size, 0, none⟩) m m) (W.alloc (.cells (madeCells #[.slice none 0 0] m) 28)) := by
  obtain ⟨i, hi, hz, hs, hby⟩ := info_parts elII.hi
  have hr := run_make (P := Try.prog) W 62 28 i _ elII.ht hi hz .i64 .i64 m m (by omega) (by omega) (by rw [hby]; omega) (by omega)
  rw [hs] at hr
  simp only [Int.toNat_natCast, Nat.mul_one] at hr
  exact hr

/-- A matrix of n by n in blocks of its own, B or behind: k rows are laid. -/
structure Mat (w : World) (B g n k : Nat) (G : Nat → Nat) (m : Nat → Nat → Bool) : Prop where
  outer : ∃ f, Vec w g n f ∧ ∀ i, i < k → f i = .slice (some ⟨G i, 0, none⟩) n n
  rows : ∀ i, i < k → Vec w (G i) n fun j => .bool (m i j)
  low : B ≤ g
  ge : ∀ i, i < k → B ≤ G i
  ne : ∀ i, i < k → G i ≠ g
  inj : ∀ i j, i < k → j < k → G i = G j → i = j
def put2 (m : Nat → Nat → Bool) (i j : Nat) (v : Bool) : Nat → Nat → Bool := fun a b => if a = i ∧ b = j then v else m a b
theorem put2_same (m : Nat → Nat → Bool) (i j : Nat) (v : Bool) : put2 m i j v i j = v := if_pos ⟨rfl, rfl⟩
section
variable {w w' : World} {g n k B : Nat} {G : Nat → Nat} {m m' : Nat → Nat → Bool}
theorem Mat.on (h : Mat w B g n k G m) (hb : Below w.heap.size w w') : Mat w' B g n k G m := by
  obtain ⟨f, h1, h2⟩ := h.outer
  exact ⟨⟨f, h1.on hb, h2⟩, fun i hi => (h.rows i hi).on hb, h.low, h.ge, h.ne, h.inj⟩
theorem Mat.drewN (h : Mat w B g n k G m) (q : Nat) : Mat (w.drewN q) B g n k G m := h.on (by
  exact ⟨rfl, rfl, rfl, Nat.le_refl _, fun _ _ => rfl⟩)
theorem Mat.congr (h : Mat w B g n k G m) (e : ∀ i j, i < k → j < n → m i j = m' i j) : Mat w B g n k G m' :=
  ⟨h.outer, fun i hi => (h.rows i hi).congr fun j hj => by rw [e i j hi hj], h.low, h.ge, h.ne, h.inj⟩
theorem Mat.start (w : World) (B n : Nat) (hB : B ≤ w.heap.size) (t : TypeId) (m : Nat → Nat → Bool) (G : Nat → Nat) : Mat (w.alloc (.cells (madeCells #[.slice none 0 0] n) t)) B w.heap.size n 0 G m :=
  ⟨⟨fun _ => .slice none 0 0, Vec.lit w _ t n _ fun j hj => made_get _ n j hj, fun i hi => by omega⟩, fun i hi => by omega, hB, fun i hi => by omega, fun i hi => by omega, fun i j hi => by omega⟩
/-- A row more. -/
theorem Mat.push (h : Mat w B g n k G m) {x : Nat} {b : Nat → Bool} (hx : Vec w x n fun j => .bool (b j)) (hB : B ≤ x) (hg : x ≠ g) (hG : ∀ i, i < k → G i ≠ x) (hk : k < n) :
    Mat (w.setCell ⟨g, k, none⟩ (.slice (some ⟨x, 0, none⟩) n n)) B g n (k + 1) (put1 G k x) (fun i j => if i = k then b j else m i j) := by
  obtain ⟨f, h1, h2⟩ := h.outer
  have hlt : ∀ i, i < k + 1 → i ≠ k → i < k := fun i _ _ => by omega
  refine ⟨⟨_, h1.set k _, fun i hi => ?_⟩, fun i hi => ?_, h.low, fun i hi => ?_, fun i hi => ?_, fun i j hi hj e => ?_⟩
  · by_cases e : i = k
    · subst e; rw [put1_same, put1_same]
    · rw [put1_other e, put1_other e]; exact h2 i (hlt i hi e)
  · by_cases e : i = k
    · subst e
      simp only [put1_same, if_true]
      exact hx.other _ _ hg
    · rw [put1_other e]
      simp only [e, if_false]
      exact (h.rows i (hlt i hi e)).other _ _ (h.ne i (hlt i hi e))
  · by_cases e : i = k
    · subst e; rw [put1_same]; exact hB
    · rw [put1_other e]; exact h.ge i (hlt i hi e)
  · by_cases e : i = k
    · subst e; rw [put1_same]; exact hg
    · rw [put1_other e]; exact h.ne i (hlt i hi e)
  · by_cases e1 : i = k
    · by_cases e2 : j = k
      · omega
      · subst e1
        rw [put1_same, put1_other e2] at e
        exact absurd e.symm (hG j (hlt j hj e2))
    · by_cases e2 : j = k
      · subst e2
        rw [put1_same, put1_other e1] at e
        exact absurd e (hG i (hlt i hi e1))
      · rw [put1_other e1, put1_other e2] at e
        exact h.inj i j (hlt i hi e1) (hlt j hj e2) e
/-- One place of it, and a store there. -/
theorem Mat.at_ (h : Mat w B g n k G m) {i j : Nat} (hi : i < k) (hk : k ≤ n) (hj : j < n) : ∃ x, G i = x ∧ x ≠ g ∧ B ≤ x ∧ g < w.heap.size ∧ x < w.heap.size ∧ w.cell? ⟨g, i, none⟩ = some (.slice (some ⟨x, 0, none⟩) n n) ∧ w.cell? ⟨x, j, none⟩ = some (.bool (m i j)) ∧ w.frozen? ⟨x, j, none⟩ = false ∧
    ∀ v, Mat (w.setCell ⟨x, j, none⟩ (.bool v)) B g n k G (put2 m i j v) ∧ ∀ V, Below B V w → Below B V (w.setCell ⟨x, j, none⟩ (.bool v)) := by
  obtain ⟨f, h1, h2⟩ := h.outer
  refine ⟨G i, rfl, h.ne i hi, h.ge i hi, h1.lt, (h.rows i hi).lt, (h1.cell i (by omega)).trans (by rw [h2 i hi]), (h.rows i hi).cell j hj, (h.rows i hi).thaw j, fun v => ⟨⟨⟨f, h1.other _ _ (h.ne i hi).symm, h2⟩, fun a ha => ?_, h.low, h.ge, h.ne, h.inj⟩, fun V hV => hV.setCell (p := ⟨G i, j, none⟩) (h.ge i hi) _⟩⟩
  by_cases e : a = i
  · subst e
    refine ((h.rows a ha).set j (.bool v)).congr fun b _ => ?_
    unfold put1 put2
    by_cases e2 : b = j <;> simp [e2]
  · refine ((h.rows a ha).other _ _ fun e2 => e (h.inj a i ha hi e2)).congr fun b _ => ?_
    unfold put2
    simp [e]
/-- A row of it, to be read. -/
theorem Mat.row (h : Mat w B g n k G m) {i : Nat} (hi : i < k) (hk : k ≤ n) : ∃ x, G i = x ∧ x ≠ g ∧ w.cell? ⟨g, i, none⟩ = some (.slice (some ⟨x, 0, none⟩) n n) ∧ Vec w x n fun j => .bool (m i j) := by
  obtain ⟨f, h1, h2⟩ := h.outer
  exact ⟨G i, rfl, h.ne i hi, (h1.cell i (by omega)).trans (by rw [h2 i hi]), h.rows i hi⟩
end
/-- A slice at A, of n rows, row i of l i bools: m. -/
def RdM (w : World) (B : Nat) (A : Option Addr) (n : Nat) (l : Nat → Nat) (m : Nat → Nat → Bool) : Prop :=
  ∃ R : Nat → Option Addr × Nat, RdC w B A n (fun i => .slice (R i).1 (l i) (R i).2) ∧ ∀ i, i < n → l i ≤ (R i).2 ∧ RdC w B (R i).1 (l i) fun j => .bool (m i j)
section
variable {w w' : World} {n B B' : Nat} {A : Option Addr} {l : Nat → Nat} {m m' : Nat → Nat → Bool}
theorem RdM.below (h : RdM w B A n l m) (hb : Below B w w') : RdM w' B A n l m := by
  obtain ⟨R, h1, h2⟩ := h
  exact ⟨R, h1.below hb, fun i hi => ⟨(h2 i hi).1, (h2 i hi).2.below hb⟩⟩
theorem RdM.more (h : RdM w B A n l m) (hB : B ≤ B') : RdM w B' A n l m := by
  obtain ⟨R, h1, h2⟩ := h
  exact ⟨R, h1.more hB, fun i hi => ⟨(h2 i hi).1, (h2 i hi).2.more hB⟩⟩
theorem RdM.on (h : RdM w w.heap.size A n l m) (hb : Below w.heap.size w w') : RdM w' w'.heap.size A n l m := (h.below hb).more hb.size
theorem RdM.drewN (h : RdM w B A n l m) (q : Nat) : RdM (w.drewN q) B A n l m := h
theorem RdC.congr {f f' : Nat → Value} (h : RdC w B A n f) (e : ∀ j, j < n → f j = f' j) : RdC w B A n f' := fun hn => by
  obtain ⟨ad, h1, h2, h3⟩ := h hn
  exact ⟨ad, h1, h2, fun j hj => by rw [← e j hj]; exact h3 j hj⟩
theorem RdM.congr (h : RdM w B A n l m) (e : ∀ i j, i < n → j < l i → m i j = m' i j) : RdM w B A n l m' := by
  obtain ⟨R, h1, h2⟩ := h
  exact ⟨R, h1, fun i hi => ⟨(h2 i hi).1, (h2 i hi).2.congr fun j hj => by rw [e i j hi hj]⟩⟩
theorem RdM.at_ (h : RdM w B A n l m) {i : Nat} (hi : i < n) : ∃ ad R c, A = some ad ∧ ad.block < B ∧ w.cell? (ad.add i) = some (.slice R (l i) c) ∧ l i ≤ c ∧ RdC w B R (l i) fun j => .bool (m i j) := by
  obtain ⟨R, h1, h2⟩ := h
  obtain ⟨ad, e, hb, hc⟩ := h1.at_ hi
  exact ⟨ad, _, _, e, hb, hc, (h2 i hi).1, (h2 i hi).2⟩
theorem RdM.front (h : RdM w B A n l m) (k : Nat) (hk : k ≤ n) : RdM w B A k l m := by
  obtain ⟨R, h1, h2⟩ := h
  refine ⟨R, fun h0 => ?_, fun i hi => h2 i (by omega)⟩
  obtain ⟨ad, e, hb, hc⟩ := h1 (by omega)
  exact ⟨ad, e, hb, fun j hj => hc j (by omega)⟩
theorem RdM.none (w : World) (B : Nat) (l : Nat → Nat) (m : Nat → Nat → Bool) : RdM w B .none 0 l m := ⟨fun _ => (.none, 0), fun h => by omega, fun i hi => by omega⟩
theorem Mat.rdm {g : Nat} {G : Nat → Nat} (h : Mat w B g n n G m) : RdM w w.heap.size (some ⟨g, 0, .none⟩) n (fun _ => n) m := by
  obtain ⟨f, h1, h2⟩ := h.outer
  exact ⟨fun i => (some ⟨G i, 0, .none⟩, n), (h1.congr h2).rdc, fun i hi => ⟨Nat.le_refl _, (h.rows i hi).rdc⟩⟩
end
/-- It answers a square matrix, new. -/
def MadM (n : Nat) (m : Nat → Nat → Bool) (w : World) (e : Ending) (w' : World) : Prop := ∃ A c, e = .returned (.slice A n c) ∧ n ≤ c ∧ RdM w' w'.heap.size A n (fun _ => n) m ∧ Below w.heap.size w w'
/-- It answers a square matrix in blocks of its own. -/
def MadG (n : Nat) (m : Nat → Nat → Bool) (w : World) (e : Ending) (w' : World) : Prop := ∃ g G, e = .returned (.slice (some ⟨g, 0, none⟩) n n) ∧ Mat w' w.heap.size g n n G m ∧ Below w.heap.size w w'
theorem MadG.m {n : Nat} {m : Nat → Nat → Bool} {w w' : World} {e : Ending} (h : MadG n m w e w') : MadM n m w e w' := by
  obtain ⟨g, G, rfl, h1, h2⟩ := h
  exact ⟨_, _, rfl, Nat.le_refl _, h1.rdm, h2⟩
/-- Rows of numbers in a row. -/
def RdS (w : World) (B : Nat) (A : Option Addr) (n : Nat) (S : Nat → List Nat) : Prop :=
  ∃ R : Nat → Option Addr × Nat, RdC w B A n (fun i => .slice (R i).1 (S i).length (R i).2) ∧ ∀ i, i < n → (S i).length ≤ (R i).2 ∧ RdI w B (R i).1 (S i).length ((S i).map fun x : Nat => (x : Int))
section
variable {w w' : World} {n B B' : Nat} {A : Option Addr} {S : Nat → List Nat}
theorem RdS.below (h : RdS w B A n S) (hb : Below B w w') : RdS w' B A n S := by
  obtain ⟨R, h1, h2⟩ := h
  exact ⟨R, h1.below hb, fun i hi => ⟨(h2 i hi).1, (h2 i hi).2.below hb⟩⟩
theorem RdS.more (h : RdS w B A n S) (hB : B ≤ B') : RdS w B' A n S := by
  obtain ⟨R, h1, h2⟩ := h
  exact ⟨R, h1.more hB, fun i hi => ⟨(h2 i hi).1, (h2 i hi).2.more hB⟩⟩
theorem RdS.on (h : RdS w w.heap.size A n S) (hb : Below w.heap.size w w') : RdS w' w'.heap.size A n S := (h.below hb).more hb.size
theorem RdS.at_ (h : RdS w B A n S) {i : Nat} (hi : i < n) : ∃ ad R c, A = some ad ∧ ad.block < B ∧ w.cell? (ad.add i) = some (.slice R (S i).length c) ∧ (S i).length ≤ c ∧ RdI w B R (S i).length ((S i).map fun x : Nat => (x : Int)) := by
  obtain ⟨R, h1, h2⟩ := h
  obtain ⟨ad, e, hb, hc⟩ := h1.at_ hi
  exact ⟨ad, _, _, e, hb, hc, (h2 i hi).1, (h2 i hi).2⟩
end
theorem OwnV.frontC {E s B n c : Nat} {w : World} {A : Option Addr} {l : List Value} (h : OwnV E s w B A n c l) (k : Nat) (hk : k ≤ n) : OwnV E s w B A k c (l.take (k * s)) := by
  have hl := h.1
  have hle : k * s ≤ n * s := Nat.mul_le_mul_right _ hk
  refine ⟨by rw [List.length_take]; omega, ?_⟩
  rcases h.2 with ⟨hv, h0⟩ | ⟨g, cap, cur, hv, hbg, hg, hnc, hcm, hcs, htake⟩
  · injection hv with h1 h2 h3
    subst h1; subst h3
    exact .inl ⟨by rw [show k = 0 by omega], by omega⟩
  · injection hv with h1 h2 h3
    subst h1; subst h3
    exact .inr ⟨g, c, cur, rfl, hbg, hg, by omega, hcm, hcs, by rw [← htake, List.take_take, Nat.min_eq_left hle]⟩
end Go.Proofs.Ytknlhhbkahollaa

/- A region that draws its order, by what each of its operations yields: whatever order is drawn. Named here: the model's regions alone, no program. -/
namespace Go.Proofs.Ytknlhhbkahollaa
open Go Go.RowKit
namespace Reg
set_option linter.unusedSimpArgs false

def dstN (ops : Array Oper) (j : Nat) : Tmp := ((ops[j]?).bind (·.dst)).getD 0
def waits (o : Oper) (j : Nat) : Bool := o.after.toList.any fun e => e.on == j && Region.binds .any e
def writes (ops : Array Oper) (t : Tmp) : Bool := ops.toList.any fun o => o.dst == some t
/-- Every operation has a slot of its own, and waits for earlier ones alone. -/
def good (ops : Array Oper) (n : Nat) : Bool :=
  (List.range ops.size).all fun i => match ops[i]? with
    | some o => (match o.dst with
        | some d => decide (d < n) && (List.range ops.size).all fun j => j == i || (match ops[j]? with | some p => !(p.dst == some d) | none => true)
        | none => false) && o.after.toList.all fun e => decide (e.on < i)
    | none => false

theorem good_at {ops : Array Oper} {n : Nat} (h : good ops n = true) {i : Nat} {o : Oper} (hi : ops[i]? = some o) :
    ∃ d, o.dst = some d ∧ d < n ∧ (∀ j p, ops[j]? = some p → j ≠ i → p.dst ≠ some d) ∧ ∀ e ∈ o.after, e.on < i := by
  have hlt : i < ops.size := (Array.getElem?_eq_some_iff.1 hi).1
  have h1 := List.all_eq_true.1 h i (List.mem_range.2 hlt)
  rw [hi] at h1
  simp only [Bool.and_eq_true] at h1
  obtain ⟨h2, h3⟩ := h1
  cases hd : o.dst with
  | none => rw [hd] at h2; cases h2
  | some d =>
    rw [hd] at h2
    simp only [Bool.and_eq_true, decide_eq_true_iff] at h2
    refine ⟨d, rfl, h2.1, fun j p hj hne => ?_, fun e he => ?_⟩
    · have hjl : j < ops.size := (Array.getElem?_eq_some_iff.1 hj).1
      have h4 := List.all_eq_true.1 h2.2 j (List.mem_range.2 hjl)
      rw [hj] at h4
      simp only [Bool.or_eq_true, beq_iff_eq, Bool.not_eq_true', beq_eq_false_iff_ne] at h4
      exact h4.resolve_left hne
    · have := List.all_eq_true.1 h3 e (Array.mem_toList_iff.2 he)
      simpa using this

theorem dst_of {ops : Array Oper} {i : Nat} {o : Oper} {d : Tmp} (hi : ops[i]? = some o) (hd : o.dst = some d) : dstN ops i = d := by
  simp [dstN, hi, hd]

/-- Whoever has come up, those that it waits for have. -/
def Closed (ops : Array Oper) (live : Nat → Bool) : Prop := ∀ j p, ops[j]? = some p → live j = true → ∀ k, waits p k = true → live k = true
structure Inv (ops : Array Oper) (a0 : Act) (V : Nat → Value → World → Prop) (W : World → Prop) (listed : Array Bool) (a : Act) (w : World) : Prop where
  size : a.tmps.size = a0.tmps.size
  defers : a.defers = a0.defers
  env : ∀ t, writes ops t = false → a.eval (.tmp t) = a0.eval (.tmp t)
  val : ∀ j, j < ops.size → listed.getD j false = true → V j (a.eval (.tmp (dstN ops j))) w
  world : W w
  closed : Closed ops fun j => listed.getD j false

theorem eval_same (a : Act) (d : Tmp) (v : Value) (h : d < a.tmps.size) : (a.put (some d) v).eval (.tmp d) = v := by
  simp [Act.eval, Act.put, h]
theorem eval_other (a : Act) (d t : Tmp) (v : Value) (h : d ≠ t) : (a.put (some d) v).eval (.tmp t) = a.eval (.tmp t) := by
  simp [Act.eval, Act.put, Array.getElem?_setIfInBounds_ne h]

/-- What a step owes; live: who has come up. -/
def Owes (live : Nat → Bool) (V : Nat → Value → World → Prop) (W : World → Prop) (i : Nat) (o : Oper) (a : Act) (w : World) (a' : Act) (w' : World) : Prop :=
  ∃ v, a' = a.put o.dst v ∧ V i v w' ∧ W w' ∧ ∀ j v, live j = true → V j v w → V j v w'

theorem Inv.step {ops : Array Oper} {a0 : Act} {V : Nat → Value → World → Prop} {W : World → Prop} {listed : Array Bool} {a a' : Act} {w w' : World} (hg : good ops a0.tmps.size = true)
    {i : Nat} {o : Oper} (hi : ops[i]? = some o) (h : Inv ops a0 V W listed a w) (hr : ∀ k, waits o k = true → listed.getD k false = true) (hs : Owes (fun j => listed.getD j false) V W i o a w a' w') : Inv ops a0 V W (listed.setIfInBounds i true) a' w' := by
  obtain ⟨v, rfl, hv, hw, hm⟩ := hs
  obtain ⟨d, hd, hdn, hdist, _⟩ := good_at hg hi
  have hsz : d < a.tmps.size := by rw [h.size]; exact hdn
  rw [hd]
  refine ⟨by simp [Act.put, h.size], by simp [Act.put, h.defers], fun t ht => ?_, fun j hj hl => ?_, hw, fun j p hj hl k hk => ?_⟩
  · have hne : d ≠ t := by
      rintro rfl
      have : writes ops d = true := List.any_eq_true.2 ⟨o, Array.mem_toList_iff.2 (Array.mem_of_getElem? hi), by simp [hd]⟩
      rw [this] at ht; cases ht
    rw [eval_other _ _ _ _ hne]; exact h.env t ht
  · by_cases hji : j = i
    · subst hji
      rw [dst_of hi hd, eval_same _ _ _ hsz]; exact hv
    · obtain ⟨p, hp⟩ : ∃ p, ops[j]? = some p := ⟨_, Array.getElem?_eq_getElem hj⟩
      obtain ⟨e, he, _⟩ := good_at hg hp
      have hne : d ≠ dstN ops j := by
        rw [dst_of hp he]
        rintro rfl
        exact hdist j p hp hji he
      rw [eval_other _ _ _ _ hne]
      rw [getD_set_ne false (Ne.symm hji)] at hl
      exact hm j _ hl (h.val j hj hl)
  · by_cases hji : j = i
    · subst hji
      rw [hi] at hj
      injection hj with hj
      subst hj
      exact getD_set_true (hr k hk)
    · have hl' : (listed.setIfInBounds i true).getD j false = true := hl
      rw [getD_set_ne false (Ne.symm hji)] at hl'
      exact getD_set_true (h.closed j p hj hl' k hk)

/-- How many have not come up. -/
def left (listed : Array Bool) : Nat := listed.toList.countP (· == false)

theorem left_set {listed : Array Bool} {i : Nat} (h : listed.getD i true = false) : left (listed.setIfInBounds i true) + 1 = left listed := by
  have hlt : i < listed.size := by
    rcases Nat.lt_or_ge i listed.size with h' | h'
    · exact h'
    · simp [Array.getElem?_eq_none h'] at h
  have hi : listed.toList[i]'(by simpa using hlt) = false := by
    simpa [hlt] using h
  unfold left
  rw [Array.toList_setIfInBounds, List.countP_set (by simpa using hlt), hi]
  have : 0 < listed.toList.countP (· == false) := List.countP_pos_iff.2 ⟨false, by rw [← hi]; exact List.getElem_mem _, rfl⟩
  rw [if_pos (by decide), if_neg (by decide)]
  omega

theorem all_listed {ops : Array Oper} {n : Nat} (hg : good ops n = true) {listed : Array Bool} (hs : listed.size = ops.size) (hr : Region.ready .any ops listed = []) :
    ∀ j, j < ops.size → listed.getD j false = true := by
  intro j
  induction j using Nat.strongRecOn with
  | ind j ih =>
    intro hj
    have hjl : j < listed.size := by omega
    cases hb : listed.getD j false with
    | true => rfl
    | false =>
      have hb' : listed.getD j true = false := by
        simpa [hjl] using hb
      obtain ⟨o, ho⟩ : ∃ o, ops[j]? = some o := ⟨_, Array.getElem?_eq_getElem hj⟩
      obtain ⟨_, _, _, _, hacy⟩ := good_at hg ho
      have : j ∈ Region.ready .any ops listed := mem_ready.2 ⟨hb', o, ho, fun e he _ => ih e.on (hacy e he) (by have := hacy e he; omega)⟩
      rw [hr] at this; cases this

/-- What is asked of one operation. -/
def Goal (P : Program) (ops : Array Oper) (Q : Exit → Act → World → Prop) (V : Nat → Value → World → Prop) (W : World → Prop) (i : Nat) (o : Oper) (a : Act) (w : World) : Prop :=
  ∀ live : Nat → Bool, Closed ops live → live i = false → wpOp P ops Q i (Owes live V W i o a w) a w
/-- The whole obligation. -/
def Steps (P : Program) (ops : Array Oper) (Q : Exit → Act → World → Prop) (a0 : Act) (V : Nat → Value → World → Prop) (W : World → Prop) : Prop :=
  ∀ i o, ops[i]? = some o → ∀ (a : Act) (w : World), (∀ t, writes ops t = false → a.eval (.tmp t) = a0.eval (.tmp t)) →
    (∀ j, waits o j = true → V j (a.eval (.tmp (dstN ops j))) w) → W w → Goal P ops Q V W i o a w

theorem any_of {P : Program} {ops : Array Oper} {Q : Exit → Act → World → Prop} {a0 : Act} {V : Nat → Value → World → Prop} {W : World → Prop} (hg : good ops a0.tmps.size = true) (hst : Steps P ops Q a0 V W)
    (hend : ∀ listed a w, Inv ops a0 V W listed a w → (∀ j, j < ops.size → listed.getD j false = true) → Q .normal a w) :
    ∀ (fuel : Nat) (listed : Array Bool) (a : Act) (w : World), listed.size = ops.size → left listed ≤ fuel → Inv ops a0 V W listed a w → wpAny P .any ops Q fuel listed a w := by
  intro fuel
  induction fuel with
  | zero =>
    intro listed a w hs hl h
    have hr : Region.ready .any ops listed = [] := by
      cases hc : Region.ready .any ops listed with
      | nil => rfl
      | cons i r =>
        have hi : i ∈ Region.ready .any ops listed := by rw [hc]; exact List.mem_cons_self
        have := left_set (mem_ready.1 hi).1
        omega
    exact ⟨hr, hend listed a w h (all_listed hg hs hr)⟩
  | succ fuel ih =>
    intro listed a w hs hl h
    refine ⟨fun hr => hend listed a w h (all_listed hg hs hr), fun i hi => ?_⟩
    obtain ⟨h0, o, ho, hall⟩ := mem_ready.1 hi
    have hi' : i < ops.size := (Array.getElem?_eq_some_iff.1 ho).1
    have hwait : ∀ k, waits o k = true → k < i ∧ listed.getD k false = true := fun k hk => by
      obtain ⟨e, he, heq⟩ := List.any_eq_true.1 hk
      have he := Array.mem_toList_iff.1 he
      simp only [Bool.and_eq_true, beq_iff_eq] at heq
      obtain ⟨rfl, hb⟩ := heq
      obtain ⟨_, _, _, _, hacy⟩ := good_at hg ho
      exact ⟨hacy e he, hall e he hb⟩
    have hstep := hst i o ho a w h.env (fun j hj => h.val j (by have := (hwait j hj).1; omega) (hwait j hj).2) h.world (fun j => listed.getD j false) h.closed (by
      have hlt : i < listed.size := by omega
      simpa [hlt] using h0)
    refine wpOp_mono (fun a' w' hw => ?_) hstep
    refine ih _ a' w' (by simpa using hs) ?_ (h.step hg ho (fun k hk => (hwait k hk).2) hw)
    have := left_set h0
    omega

theorem region {P : Program} {id : Nat} {ops : Array Oper} {Q : Exit → Act → World → Prop} {a0 : Act} {w0 : World} (hm : P.follows .mixedOrders = true) (hg : good ops a0.tmps.size = true) (V : Nat → Value → World → Prop) (W : World → Prop)
    (hW : W w0.drew) (hst : Steps P ops Q a0 V W)
    (hend : ∀ a w, a.tmps.size = a0.tmps.size → a.defers = a0.defers → (∀ t, writes ops t = false → a.eval (.tmp t) = a0.eval (.tmp t)) → (∀ j, j < ops.size → V j (a.eval (.tmp (dstN ops j))) w) → W w → Q .normal a w) :
    (Code.region id ops true).wp P Q a0 w0 := by
  refine wp_region_any hm ?_
  refine any_of hg hst (fun listed a w h hall => hend a w h.size h.defers h.env (fun j hj => h.val j hj (hall j hj)) h.world) ops.size (Array.replicate ops.size false) a0 w0.drew (by simp) ?_ ?_
  · unfold left
    have := List.countP_le_length (p := (· == false)) (l := (Array.replicate ops.size false).toList)
    simpa using this
  · refine ⟨rfl, rfl, fun _ _ => rfl, fun j hj hl => ?_, hW, fun j p hj hl k hk => ?_⟩
    · simp [hj] at hl
    · have hjl : j < ops.size := (Array.getElem?_eq_some_iff.1 hj).1
      have hl' : (Array.replicate ops.size false).getD j false = true := hl
      simp [hjl] at hl'

/-- The obligations one by one. -/
def All (F : Nat → Oper → Prop) : Nat → List Oper → Prop
  | _, [] => True
  | i, o :: l => F i o ∧ All F (i + 1) l
theorem All.get {F : Nat → Oper → Prop} (l : List Oper) : ∀ (i : Nat), All F i l → ∀ j o, l[j]? = some o → F (i + j) o := by
  induction l with
  | nil => intro i _ j o hp; simp at hp
  | cons q l ih =>
    intro i h j o hp
    cases j with
    | zero => simp at hp; subst hp; exact h.1
    | succ j =>
      have := ih (i + 1) h.2 j o (by simpa using hp)
      rwa [Nat.add_assoc, Nat.add_comm 1] at this
theorem steps_of {P : Program} {l : List Oper} {Q : Exit → Act → World → Prop} {a0 : Act} {V : Nat → Value → World → Prop} {W : World → Prop}
    (h : All (fun i o => ∀ (a : Act) (w : World), (∀ t, writes l.toArray t = false → a.eval (.tmp t) = a0.eval (.tmp t)) →
      (∀ j, waits o j = true → V j (a.eval (.tmp (dstN l.toArray j))) w) → W w → Goal P l.toArray Q V W i o a w) 0 l) : Steps P l.toArray Q a0 V W := by
  intro i o hi
  have := All.get l 0 h i o (by simpa using hi)
  rwa [Nat.zero_add] at this

section
variable {P : Program} {ops : Array Oper} {Q : Exit → Act → World → Prop} {V : Nat → Value → World → Prop} {W : World → Prop} {i : Nat} {o : Oper} {a : Act} {w : World}
/-- An operation that yields a value, and does nothing else. -/
theorem val (hi : ops[i]? = some o) (hw : Region.wanted o (yielded ops a.tmps) = true) (hW : W w) (v : Value) (hr : (execOp a.eval o).run P w = .ok (.value v) w) (hv : V i v w) : Goal P ops Q V W i o a w := by
  intro live _ _
  unfold wpOp
  rw [hi]
  simp only [hw, if_true]
  refine .inl ?_
  unfold Oper.wp
  rw [hr]
  exact ⟨v, rfl, hv, hW, fun _ _ _ h => h⟩
/-- An operation that yields a value, in another world; what those that have come up yielded is to stand. -/
theorem growL (hi : ops[i]? = some o) (hw : Region.wanted o (yielded ops a.tmps) = true) (v : Value) (w' : World) (hr : (execOp a.eval o).run P w = .ok (.value v) w') (hv : V i v w') (hW : W w')
    (hm : ∀ live : Nat → Bool, Closed ops live → live i = false → ∀ j v, live j = true → V j v w → V j v w') : Goal P ops Q V W i o a w := by
  intro live hc h0
  unfold wpOp
  rw [hi]
  simp only [hw, if_true]
  refine .inl ?_
  unfold Oper.wp
  rw [hr]
  exact ⟨v, rfl, hv, hW, hm live hc h0⟩
theorem grow (hi : ops[i]? = some o) (hw : Region.wanted o (yielded ops a.tmps) = true) (v : Value) (w' : World) (hr : (execOp a.eval o).run P w = .ok (.value v) w') (hv : V i v w') (hW : W w') (hm : ∀ j v, j ≠ i → V j v w → V j v w') : Goal P ops Q V W i o a w :=
  growL hi hw v w' hr hv hW fun live _ h0 j v hj h => hm j v (fun e => by rw [e, h0] at hj; cases hj) h
/-- A call of a Go function. -/
theorem call (hi : ops[i]? = some o) (hw : Region.wanted o (yielded ops a.tmps) = true) (f : FuncId) (args : Array Value) (hr : (execOp a.eval o).run P w = .ok (.enter f args) w)
    (hc : Calls P f args w fun e w' => ∃ v, e = .returned v ∧ V i v w' ∧ W w' ∧ ∀ j v, V j v w → V j v w') : Goal P ops Q V W i o a w := by
  intro live _ _
  unfold wpOp
  rw [hi]
  simp only [hw, if_true]
  refine .inl ?_
  unfold Oper.wp
  rw [hr]
  refine hc.mono fun e w' he => ?_
  obtain ⟨v, rfl, h1, h2, h3⟩ := he
  exact ⟨v, rfl, h1, h2, fun j v _ => h3 j v⟩
/-- An operation whose guard says no. -/
theorem skip (hi : ops[i]? = some o) (hw : Region.wanted o (yielded ops a.tmps) = false) (hW : W w) (hv : V i undef w) : Goal P ops Q V W i o a w := by
  intro live _ _
  unfold wpOp
  rw [hi]
  simp only [hw]
  exact ⟨undef, rfl, hv, hW, fun _ _ _ h => h⟩
/-- Whoever waits for one that has not come up has not either. -/
theorem not_live {live : Nat → Bool} (hc : Closed ops live) {k : Nat} (h : live k = false) {j : Nat} {p : Oper} (hj : ops[j]? = some p) (hw : waits p k = true) : live j = false := by
  cases e : live j with
  | false => rfl
  | true => rw [hc j p hj e k hw] at h; cases h
theorem wanted_free (h : o.guard = none) : Region.wanted o (yielded ops a.tmps) = true := by simp [Region.wanted, h]
theorem wanted_if {g : Nat} {want b : Bool} (h : o.guard = some (g, want)) {t : Tmp} (ht : (ops[g]?).bind (·.dst) = some t) (hv : a.eval (.tmp t) = .bool b) (hb : (b == want) = true) : Region.wanted o (yielded ops a.tmps) = true := by
  have hlt : t < a.tmps.size := by
    rcases Nat.lt_or_ge t a.tmps.size with h' | h'
    · exact h'
    · simp [Act.eval, Array.getElem?_eq_none h', undef] at hv
  have h2 : a.tmps[t]? = some (.bool b) := by
    simpa [Act.eval, hlt] using hv
  simp only [Region.wanted, h, yielded, ht, Option.bind_some, h2]
  have : b = want := by simpa using hb
  simp [this]
end

/-- What a frame says of constants and functions. -/
theorem consts (a : Act) : (∀ v, a.eval (.const v) = v) ∧ (∀ f, a.eval (.func f) = .func (.func f) #[] #[]) := ⟨fun _ => rfl, fun _ => rfl⟩

/-- A frame by its slots. -/
theorem act_lit (a : Act) (n : Nat) (h : a.tmps.size = n) : a = ⟨((List.range n).map fun t => a.eval (.tmp t)).toArray, a.defers⟩ := by
  cases a with
  | mk tmps defers =>
    simp only at h
    congr 1
    apply Array.ext
    · simp [h]
    · intro i h1 h2
      simp [Act.eval, h1]
end Reg
end Go.Proofs.Ytknlhhbkahollaa

/- Partitions and channels in memory; whether one of them may be, by the document's own answer (that it answers). -/
namespace Go.Proofs.Ytknlhhbkahollaa
open Go.RowKit Tab
set_option linter.unusedSimpArgs false
set_option linter.unusedVariables false

/-- A channel, whole. -/
structure ChV where
  from_ : Int
  to_ : Int
  queue : Bool
  cap : Int
  max : Int
  late : Int
/-- A partition, whole; its processes as the slice that holds them. -/
structure PtV where
  name : ByteArray
  bud : Int
  per : Int
  sched : Bool
  stop : Bool
  pa : Option Addr
  pn : Nat
  pc : Nat
  h0 : Int
  h1 : Int
  h2 : Int
  h3 : Int
  h4 : Int
abbrev cv (x : ChV) : Value := .agg #[.int .i64 x.from_, .int .i64 x.to_, .bool x.queue, .int .i64 x.cap, .int .u32 x.max, .int .i64 x.late]
abbrev pv (x : PtV) : Value := .agg #[.string x.name, .int .i64 x.bud, .int .i64 x.per, .bool x.sched, .bool x.stop, .slice x.pa x.pn x.pc, .int .i64 x.h0, .int .i64 x.h1, .int .i64 x.h2, .int .i64 x.h3, .int .i64 x.h4]
/-- It answers yes or no, and leaves what was there. -/
def SomB (w : World) (e : Ending) (w' : World) : Prop := ∃ b, e = .returned (.bool b) ∧ Below w.heap.size w w'
set_option maxRecDepth 100000 in
set_option maxHeartbeats 4000000 in
theorem chanRight_any (x : ChV) (n : Int) (w : World) : Calls Try.prog 57 #[cv x, .int .i64 n] w (SomB w) := by
  obtain ⟨f, t, q, c, m, l⟩ := x
  go_enter Try.func57, Try.ntmps57
  cases q <;> go_wp2 <;> (go_ret; exact ⟨_, rfl, bl1 _ _⟩)
end Go.Proofs.Ytknlhhbkahollaa

/- A square in which each has itself alone; whether a matrix is square; where a row is true; is it a partition. -/
namespace Go.Proofs.Ytknlhhbkahollaa
open Go.RowKit Tab
set_option linter.unusedSimpArgs false
set_option linter.unusedVariables false

set_option maxRecDepth 100000 in
set_option maxHeartbeats 1600000 in
theorem alone_any (n : Nat) (w : World) (hn : n ≤ 1024) : Calls Try.prog 33 #[.int .i64 (n : Int)] w (MadG n (fun i j => decide (i = j)) w) := by
  have hmk := run_makeBB n (by omega)
  have hmb := run_makeB n (by omega)
  obtain ⟨B, hB⟩ : ∃ B, B = w.heap.size := ⟨_, rfl⟩
  have hb0 : Below B w (w.alloc (.cells (madeCells #[.slice none 0 0] n) 40)) := by rw [hB]; exact bl1 w _
  have hM0 := Mat.start w B n (by omega) 40 (fun i j => decide (i = j)) (fun _ => 0)
  have HB := Lib.hid hB
  clear hB
  go_enter Try.func33, Try.ntmps33
  go_wp2_with fail
  generalize w.alloc (.cells (madeCells #[.slice none 0 0] n) 40) = W0 at hb0 hM0 ⊢
  generalize w.heap.size = g at hM0 ⊢
  clear hmk
  go_loopw [4, 9] (fun _ s wr => ∃ (i : Nat) (G : Nat → Nat), i ≤ n ∧ s = .int .i64 i ∧ Mat wr B g n i G (fun i j => decide (i = j)) ∧ Below B w wr) (fun _ s _ => n - (intOf s).toNat)
  case atStart => exact ⟨0, _, by omega, rfl, hM0, hb0⟩
  case round =>
    obtain ⟨i, G, hi, rfl, hM, hb⟩ := hrel
    by_cases hlt : i < n
    · have hbl := bl1 wr (.cells (madeCells #[.bool false] n) 4)
      have hM1 := hM.on hbl
      have hV : Vec (wr.alloc (.cells (madeCells #[.bool false] n) 4)) wr.heap.size n fun _ => .bool false := Vec.lit wr _ _ n _ fun j hj => made_get _ n j hj
      have hgl : g < wr.heap.size := by
        obtain ⟨f, h1, _⟩ := hM.outer
        exact h1.lt
      have hBg := hM.low
      have hb1 := hb.trans (hbl.mono (by omega))
      have hxG : ∀ j, j < i → G j ≠ wr.heap.size := fun j hj => by
        have := (hM.rows j hj).lt
        omega
      obtain ⟨f, hf, _⟩ := hM1.outer
      have d0 := hf.cell i hlt
      have d1 := hf.thaw i
      have hM2 := hM1.push hV (by omega) (by omega) hxG hlt
      have hb2 := hb1.setCell (p := ⟨g, i, none⟩) hBg (.slice (some ⟨wr.heap.size, 0, none⟩) n n)
      obtain ⟨x, hx, _, _, _, _, k0, k1, k2, hst⟩ := hM2.at_ (i := i) (j := i) (by omega) (by omega) hlt
      rw [put1_same] at hx
      subst hx
      have HS := Lib.hid (hst true)
      have HB2 := Lib.hid hb2
      clear hM hM1 hV hb1 hb2 hM2 hst hf hbl hgl hxG hBg
      go_wp2_with fail
      obtain ⟨hM3, hb3⟩ := HS.out
      go_roundw
      case rel => exact ⟨i + 1, _, by omega, by go_num, hM3.congr (fun a b ha hb => by
        unfold put2
        by_cases e : a = i
        · subst e
          by_cases e2 : b = a
          · subst e2; simp
          · simp [e2]; exact fun e => e2 e.symm
        · simp [e]), hb3 _ HB2.out⟩
      case measure => simp [intOf]; omega
    · have hge : n ≤ i := by omega
      obtain rfl : i = n := by omega
      go_wp2_with fail
      go_ret
      exact ⟨g, G, rfl, by rw [← HB.out]; exact hM, by rw [← HB.out]; exact hb⟩
set_option maxRecDepth 100000 in
set_option maxHeartbeats 1600000 in
theorem rsquare_any (n : Nat) (w : World) (hn : n ≤ 1024) : Calls Try.prog 44 #[.int .i64 (n : Int)] w (MadG n (fun i j => decide (i = j)) w) := by
  have hmk := run_makeBB n (by omega)
  have hmb := run_makeB n (by omega)
  obtain ⟨B, hB⟩ : ∃ B, B = w.heap.size := ⟨_, rfl⟩
  have hb0 : Below B w (w.alloc (.cells (madeCells #[.slice none 0 0] n) 40)) := by rw [hB]; exact bl1 w _
  have hM0 := Mat.start w B n (by omega) 40 (fun i j => decide (i = j)) (fun _ => 0)
  have HB := Lib.hid hB
  clear hB
  go_enter Try.func44, Try.ntmps44
  go_wp2_with fail
  generalize w.alloc (.cells (madeCells #[.slice none 0 0] n) 40) = W0 at hb0 hM0 ⊢
  generalize w.heap.size = g at hM0 ⊢
  clear hmk
  go_loopw [4, 9] (fun _ s wr => ∃ (i : Nat) (G : Nat → Nat), i ≤ n ∧ s = .int .i64 i ∧ Mat wr B g n i G (fun i j => decide (i = j)) ∧ Below B w wr) (fun _ s _ => n - (intOf s).toNat)
  case atStart => exact ⟨0, _, by omega, rfl, hM0, hb0⟩
  case round =>
    obtain ⟨i, G, hi, rfl, hM, hb⟩ := hrel
    by_cases hlt : i < n
    · have hbl := bl1 wr (.cells (madeCells #[.bool false] n) 4)
      have hM1 := hM.on hbl
      have hV : Vec (wr.alloc (.cells (madeCells #[.bool false] n) 4)) wr.heap.size n fun _ => .bool false := Vec.lit wr _ _ n _ fun j hj => made_get _ n j hj
      have hgl : g < wr.heap.size := by
        obtain ⟨f, h1, _⟩ := hM.outer
        exact h1.lt
      have hBg := hM.low
      have hb1 := hb.trans (hbl.mono (by omega))
      have hxG : ∀ j, j < i → G j ≠ wr.heap.size := fun j hj => by
        have := (hM.rows j hj).lt
        omega
      obtain ⟨f, hf, _⟩ := hM1.outer
      have d0 := hf.cell i hlt
      have d1 := hf.thaw i
      have hM2 := hM1.push hV (by omega) (by omega) hxG hlt
      have hb2 := hb1.setCell (p := ⟨g, i, none⟩) hBg (.slice (some ⟨wr.heap.size, 0, none⟩) n n)
      obtain ⟨x, hx, _, _, _, _, k0, k1, k2, hst⟩ := hM2.at_ (i := i) (j := i) (by omega) (by omega) hlt
      rw [put1_same] at hx
      subst hx
      have HS := Lib.hid (hst true)
      have HB2 := Lib.hid hb2
      clear hM hM1 hV hb1 hb2 hM2 hst hf hbl hgl hxG hBg
      go_wp2_with fail
      obtain ⟨hM3, hb3⟩ := HS.out
      go_roundw
      case rel => exact ⟨i + 1, _, by omega, by go_num, hM3.congr (fun a b ha hb => by
        unfold put2
        by_cases e : a = i
        · subst e
          by_cases e2 : b = a
          · subst e2; simp
          · simp [e2]; exact fun e => e2 e.symm
        · simp [e]), hb3 _ HB2.out⟩
      case measure => simp [intOf]; omega
    · have hge : n ≤ i := by omega
      obtain rfl : i = n := by omega
      go_wp2_with fail
      go_ret
      exact ⟨g, G, rfl, by rw [← HB.out]; exact hM, by rw [← HB.out]; exact hb⟩
/-- Is each row as long as there are rows? -/
def sqB (n : Nat) (l : Nat → Nat) : Bool := (List.range n).all fun i => decide (l i = n)
theorem sqB_iff {n : Nat} {l : Nat → Nat} : sqB n l = true ↔ ∀ i, i < n → l i = n := by simp [sqB]
set_option maxRecDepth 100000 in
set_option maxHeartbeats 1600000 in
theorem square_any (A : Option Addr) (n c : Nat) (l : Nat → Nat) (m : Nat → Nat → Bool) (w : World) (h : RdM w w.heap.size A n l m) (hn : n ≤ 1024) : Calls Try.prog 30 #[.slice A n c] w (Ans (.bool (sqB n l)) w) := by
  obtain ⟨q, hq⟩ : ∃ q, q = sqB n l := ⟨_, rfl⟩
  have HQ := Lib.hid hq
  rw [← hq]
  clear hq
  go_enter Try.func30, Try.ntmps30
  go_wp2_with fail
  go_loopw [4, 7] (fun _ s wr => ∃ i : Nat, i ≤ n ∧ s = .int .i64 i ∧ wr = w ∧ ∀ j, j < i → l j = n) (fun _ s _ => n - (intOf s).toNat)
  case atStart => exact ⟨0, by omega, rfl, rfl, fun j hj => by omega⟩
  case round =>
    obtain ⟨i, hi, rfl, rfl, hs⟩ := hrel
    have HS := Lib.hid hs
    clear hs
    by_cases hlt : i < n
    · obtain ⟨ad, R, c2, rfl, had, c0, hle, _⟩ := h.at_ hlt
      by_cases hli : l i = n
      · have hli2 : ((l i : Int) != (n : Int)) = false := by rw [hli]; simp
        have HLI := Lib.hid hli
        obtain ⟨z, hz⟩ : ∃ z, z = l i := ⟨_, rfl⟩
        rw [← hz] at c0 hle hli2
        clear hli hz
        go_wp2_with fail
        go_roundw
        case rel => exact ⟨i + 1, by omega, by go_num, by trivial, fun j hj => by
          by_cases e : j = i
          · subst e; exact HLI.out
          · exact HS.out j (by omega)⟩
        case measure => simp [intOf]; omega
      · have hli2 : ((l i : Int) != (n : Int)) = true := bne_iff_ne.2 (by omega)
        have HLI := Lib.hid hli
        obtain ⟨z, hz⟩ : ∃ z, z = l i := ⟨_, rfl⟩
        rw [← hz] at c0 hle hli2
        clear hli hz
        go_wp2_with fail
        go_ret
        refine Ans.mk (congrArg Value.bool ?_) (Below.refl _ _)
        rw [HQ.out, Bool.eq_false_iff]
        intro e
        exact HLI.out (sqB_iff.1 e i hlt)
    · have hge : n ≤ i := by omega
      go_wp2_with fail
      go_ret
      refine Ans.mk (congrArg Value.bool ?_) (Below.refl _ _)
      rw [HQ.out, sqB_iff]
      exact fun j hj => HS.out j (by omega)
/-- It answers a row of numbers of its own. -/
def MadN (l : List Nat) (w : World) (e : Ending) (w' : World) : Prop := ∃ A c, e = .returned (.slice A l.length c) ∧ OwnV 3 1 w' w.heap.size A l.length c (is (l.map fun x : Nat => (x : Int))) ∧ Below w.heap.size w w'
set_option maxRecDepth 100000 in
set_option maxHeartbeats 1600000 in
theorem places_any (A : Option Addr) (n c : Nat) (r : Nat → Bool) (w : World) (h : RdC w w.heap.size A n fun j => .bool (r j)) (hn : n ≤ 1024) : Calls Try.prog 31 #[.slice A n c] w (MadN (plcs n r) w) := by
  go_enter Try.func31, Try.ntmps31
  go_wp2_with fail
  go_loopw [3, 4, 5, 8] (fun q _ _ s wr => ∃ (i k c2 : Nat) (A2 : Option Addr), i ≤ n ∧ s = .int .i64 i ∧ q = .slice A2 k c2 ∧ k ≤ i ∧ OwnV 3 1 wr w.heap.size A2 k c2 (is ((plcs i r).map fun x : Nat => (x : Int))) ∧ Below w.heap.size w wr) (fun _ _ _ s _ => n - (intOf s).toNat)
  case atStart => exact ⟨0, 0, 0, none, by omega, rfl, rfl, by omega, by simpa [plcs, is] using OwnV.nil _ _ _ _, Below.refl _ _⟩
  case round =>
    obtain ⟨i, k, c2, A2, hi, rfl, rfl, hk, how, hb⟩ := hrel
    by_cases hlt : i < n
    · obtain ⟨ad, rfl, had, c0⟩ := h.at_ hlt
      rw [← hb.cell (p := ad.add i) (by rw [add_block]; exact had)] at c0
      have hsz := hb.size
      have hps := plcs_succ i r
      cases hr : r i with
      | false =>
        rw [hr] at c0
        rw [hr, if_neg (by simp)] at hps
        have how2 := how
        rw [← hps] at how2
        have HOW := Lib.hid how2
        clear how how2 hps hr
        go_wp2_with fail
        go_roundw
        case rel => exact ⟨i + 1, k, c2, A2, by omega, by go_num, rfl, by omega, HOW.out, hb⟩
        case measure => simp [intOf]; omega
      | true =>
        rw [hr] at c0
        rw [hr, if_pos rfl] at hps
        have hbl := bl1 wr (.cells #[.int .i64 (i : Int)] 3)
        have how2 := how.below rfl hbl
        have hrd := rdV_new wr #[.int .i64 (i : Int)] 3 (is [(i : Int)]) rfl
        have hb2 := hb.trans (hbl.mono hb.size)
        have HPS := Lib.hid hps
        clear hps hr how hbl
        go_wp2_with (at_builtin; go_loud (refine wpList_appX elI rfl (.tmp 14) (.tmp 16) rfl rfl w.heap.size A2 k c2 _ rfl how2 _ 1 1 _ _ rfl hrd rfl Nat.one_pos (is_one _) (by omega) (by unfold maxLen; omega) hb2.size (k + 1) rfl (is ((plcs (i + 1) r).map fun x : Nat => (x : Int))) (by rw [HPS.out, List.map_append]; exact (is_append _ _).symm) ?_; intro A4 c4 w4 hw4 hb4 hot))
        go_roundw
        case rel => exact ⟨i + 1, k + 1, c4, A4, by omega, by go_num, rfl, by omega, hw4, hb2.trans hb4⟩
        case measure => simp [intOf]; omega
    · have hge : n ≤ i := by omega
      obtain rfl : i = n := by omega
      have hl := how.len
      rw [is_length, List.length_map, Nat.mul_one] at hl
      go_wp2_with fail
      go_ret
      exact ⟨A2, c2, by rw [hl]; rfl, by rw [hl]; exact how, hb⟩
set_option maxHeartbeats 400000 in
theorem has_any (A1 A2 A3 : Option Addr) (n1 n2 n3 c1 c2 c3 : Nat) (p : Int) (w : World) : Calls Try.prog 36 #[.agg #[.slice A1 n1 c1, .slice A2 n2 c2, .slice A3 n3 c3], .int .i64 p] w (Ans (.bool (inP n1 p)) w) := by
  go_enter Try.func36, Try.ntmps36
  go_wp2
  all_goals
    go_ret
    refine Ans.mk (congrArg Value.bool ?_) (bl1 _ _)
    rw [Bool.eq_iff_iff, inP_iff]
    simp only [decide_eq_true_eq, Bool.false_eq_true, iff_false] at *
    omega
set_option maxHeartbeats 400000 in
theorem in_any (A1 A2 A3 : Option Addr) (n1 n2 n3 c1 c2 c3 : Nat) (p : Int) (w : World) : Calls Try.prog 45 #[.agg #[.slice A1 n1 c1, .slice A2 n2 c2, .slice A3 n3 c3], .int .i64 p] w (Ans (.bool (inP n1 p)) w) := by
  go_enter Try.func45, Try.ntmps45
  go_wp2
  all_goals
    go_ret
    refine Ans.mk (congrArg Value.bool ?_) (bl1 _ _)
    rw [Bool.eq_iff_iff, inP_iff]
    simp only [decide_eq_true_eq, Bool.false_eq_true, iff_false] at *
    omega
end Go.Proofs.Ytknlhhbkahollaa
