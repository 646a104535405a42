/- Contracts and mathematics that the texts behind it stand on: Path, Kids, Ya, More, Leaf, Tidy, Runs, KidsM, Rkids. -/
import Derived.Test.YtgoeikihjffeoaaGreatLow1
import Derived.Laws.MakeOwn
import Derived.BigQuiet
import Derived.Deep.QuietTactic
import Derived.Deep.Cut
import Derived.Deep.AppendLies
import Derived.Deep.RegionLaw
/- Walking a row of nodes with a path of open ones: plain mathematics. -/
namespace Go.Proofs.YtgoeikihjffeoaaGreat
namespace Tab

/-- Where the j-th of the tables lies that begin at p. -/
def pos (l : List Nd) (p : Nat) : Nat → Nat
  | 0 => p
  | j + 1 => pos l p j + size l (pos l p j : Nat)
/-- The tables behind the first j. -/
def F.dr : Nat → F → F
  | 0, f => f
  | _ + 1, .nil => .nil
  | j + 1, .cons _ _ r => F.dr j r
theorem dr_nil (j : Nat) : F.dr j .nil = .nil := by cases j <;> rfl
theorem dr_succ {f : F} {j : Nat} {y : Nd} {k r : F} (h : F.dr j f = .cons y k r) : F.dr (j + 1) f = r := by
  induction j generalizing f with
  | zero => subst h; rfl
  | succ j ih =>
    cases f with
    | nil => simp [F.dr] at h
    | cons x k' r' => exact ih (f := r') h
theorem dr_ok {f : F} (h : f.ok) (j : Nat) : (F.dr j f).ok := by
  induction j generalizing f with
  | zero => exact h
  | succ j ih =>
    cases f with
    | nil => trivial
    | cons x k r => exact ih h.2.2.2
theorem dr_cnt (f : F) (j : Nat) : (F.dr j f).cnt = f.cnt - j := by
  induction j generalizing f with
  | zero => rfl
  | succ j ih =>
    cases f with
    | nil => simp [F.dr, F.cnt]
    | cons x k r => simp only [F.dr, F.cnt]; rw [ih]; omega
theorem dr_cons {f : F} {j : Nat} (h : j < f.cnt) : ∃ y k r, F.dr j f = .cons y k r := by
  cases hd : F.dr j f with
  | nil =>
    have := dr_cnt f j
    rw [hd] at this
    simp only [F.cnt] at this
    omega
  | cons y k r => exact ⟨y, k, r, rfl⟩
theorem dr_all (f : F) : F.dr f.cnt f = .nil := F.cnt_zero (by rw [dr_cnt]; omega)
theorem dr_dep_le (f : F) (j : Nat) : (F.dr j f).dep ≤ f.dep := by
  induction j generalizing f with
  | zero => exact Nat.le_refl _
  | succ j ih =>
    cases f with
    | nil => exact Nat.le_refl _
    | cons x k r => have := ih r; simp only [F.dr, F.dep]; omega
/-- What lies at the j-th table's place. -/
theorem pos_dr {l t : List Nd} {p : Nat} {f : F} (h : f.ok) (hl : l.drop p = f.flat ++ t) (hp : p ≤ l.length) (j : Nat) (hj : j ≤ f.cnt) :
    l.drop (pos l p j) = (F.dr j f).flat ++ t ∧ pos l p j + (F.dr j f).sz = p + f.sz ∧ p ≤ pos l p j ∧ pos l p j ≤ l.length := by
  induction j with
  | zero => exact ⟨hl, rfl, Nat.le_refl _, hp⟩
  | succ j ih =>
    obtain ⟨h1, h2, h3, h4⟩ := ih (by omega)
    obtain ⟨y, k, r, e⟩ := dr_cons (f := f) (j := j) (by omega)
    have hok := dr_ok h j
    rw [e] at h1 h2 hok
    have hs : size l (pos l p j : Nat) = 1 + k.sz := size_at hok h1
    have e2 := dr_succ e
    have hlen := congrArg List.length h1
    rw [List.length_drop, List.length_append, F.flat_length] at hlen
    simp only [F.sz] at h2 hlen
    simp only [pos]
    rw [hs, e2]
    refine ⟨?_, by omega, by omega, by omega⟩
    rw [← List.drop_drop, h1]
    simp only [F.flat, List.cons_append]
    rw [show 1 + k.sz = k.sz + 1 by omega, List.drop_succ_cons, List.append_assoc, List.drop_left' (F.flat_length k)]
/-- The places of the children of the node at a place. -/
def kids (l : List Nd) (a : Int) : List Int :=
  if size l a = 0 then [] else (List.range (((l[a.toNat]?).map kn).getD 0)).map fun j => (pos l (a.toNat + 1) j : Int)

/-- Above a place: how many are still to come, and how often it is gone through; the innermost first. -/
def Path := List (Nat × Nat)
def times : List (Nat × Nat) → Nat
  | [] => 1
  | (_, t) :: _ => t
theorem times_cons (a t : Nat) (o : List (Nat × Nat)) : times ((a, t) :: o) = t := rfl
/-- A product, held. -/
def hold (a b : Nat) : Nat := if 4096 < a * b then 4097 else a * b
def pops : List (Nat × Nat) → List (Nat × Nat)
  | [] => []
  | (a, t) :: o => if 1 < a then (a - 1, t) :: o else pops o
def behind (st : List (Nat × Nat)) (x : Nd) : List (Nat × Nat) :=
  if x.k = 3 then (x.n.toNat, times st) :: st else if x.k = 4 then (1, hold x.n.toNat (times st)) :: st else pops st
/-- The outer ones, each with what stands behind the table that is gone through there. -/
def Outer : List (Nat × Nat) → List F → Prop
  | [], [] => True
  | (a, t) :: o, f :: fs => a = f.cnt + 1 ∧ 1 ≤ t ∧ t ≤ 4097 ∧ f.ok ∧ Outer o fs
  | _, _ => False
def InvP (st : List (Nat × Nat)) (cur : F) (fs : List F) : Prop :=
  cur.ok ∧ match st with
  | [] => fs = [] ∧ cur.cnt ≤ 1
  | (a, t) :: o => a = cur.cnt ∧ 1 ≤ a ∧ 1 ≤ t ∧ t ≤ 4097 ∧ Outer o fs
def flats : List F → List Nd
  | [] => []
  | f :: fs => f.flat ++ flats fs
/-- Ticks still to come in the outer ones. -/
def remO : List (Nat × Nat) → List F → Nat
  | (_, t) :: o, f :: fs => t * f.len + remO o fs
  | _, _ => 0
def rem (st : List (Nat × Nat)) (cur : F) (fs : List F) : Nat := times st * cur.len + remO st.tail fs
/-- How deep it still goes in the outer ones. -/
def deepO : List (Nat × Nat) → List F → Nat
  | (_, _) :: o, f :: fs => max (if f.cnt = 0 then 0 else o.length + 1 + f.dep) (deepO o fs)
  | _, _ => 0
def deepR (st : List (Nat × Nat)) (cur : F) (fs : List F) : Nat := max (if cur.cnt = 0 then 0 else st.length + cur.dep) (deepO st.tail fs)

theorem hold_le (a b : Nat) : hold a b ≤ 4097 := by unfold hold; split <;> omega
theorem hold_pos {a b : Nat} (ha : 1 ≤ a) (hb : 1 ≤ b) : 1 ≤ hold a b := by
  have : 0 < a * b := Nat.mul_pos (by omega) (by omega)
  unfold hold; split <;> omega
theorem pops_spec (o : List (Nat × Nat)) (fs : List F) (h : Outer o fs) :
    ∃ (cur : F) (fs' : List F), InvP (pops o) cur fs' ∧ flats fs = cur.flat ++ flats fs' ∧ rem (pops o) cur fs' = remO o fs ∧ deepR (pops o) cur fs' = deepO o fs ∧ (pops o = [] → cur = .nil) := by
  induction o generalizing fs with
  | nil =>
    cases fs with
    | nil => exact ⟨.nil, [], ⟨trivial, rfl, by simp [F.cnt]⟩, rfl, rfl, rfl, fun _ => rfl⟩
    | cons f fs => exact h.elim
  | cons e o ih =>
    obtain ⟨a, t⟩ := e
    cases fs with
    | nil => exact h.elim
    | cons f fs =>
      obtain ⟨h1, h2, h3, h4, h5⟩ := h
      simp only [pops]
      by_cases ha : 1 < a
      · rw [if_pos ha]
        refine ⟨f, fs, ⟨h4, by omega, by omega, h2, h3, h5⟩, rfl, rfl, ?_, fun h => by cases h⟩
        simp only [deepR, deepO, List.tail_cons, List.length_cons]
      · rw [if_neg ha]
        obtain rfl : f = .nil := F.cnt_zero (by omega)
        obtain ⟨cur, fs', i1, i2, i3, i4, i5⟩ := ih fs h5
        refine ⟨cur, fs', i1, by simpa [flats, F.flat] using i2, by simp [remO, F.len, i3], by simp [deepO, F.cnt, i4], i5⟩

theorem InvP.times {st : List (Nat × Nat)} {cur : F} {fs : List F} (h : InvP st cur fs) : 1 ≤ times st ∧ times st ≤ 4097 := by
  cases st with
  | nil => exact ⟨Nat.le_refl _, by simp [Tab.times]⟩
  | cons e o => exact ⟨h.2.2.2.1, h.2.2.2.2.1⟩
theorem InvP.pos {st : List (Nat × Nat)} {cur : F} {fs : List F} (h : InvP st cur fs) : st = [] ∧ fs = [] ∨ 0 < cur.cnt := by
  cases st with
  | nil => exact .inl ⟨rfl, h.2.1⟩
  | cons e o => exact .inr (by have := h.2.1; have := h.2.2.1; omega)
theorem hold_min (s a b c : Nat) : min 4097 (s + hold a b + c) = min 4097 (s + a * b + c) := by
  unfold hold
  split <;> omega
theorem hold_mul (s a b m c : Nat) (hm : 1 ≤ m) : min 4097 (s + hold a b * m + c) = min 4097 (s + a * b * m + c) := by
  unfold hold
  split
  · have h1 : 4097 * 1 ≤ 4097 * m := Nat.mul_le_mul_left _ hm
    have h2 : 4097 * m ≤ a * b * m := Nat.mul_le_mul_right _ (by omega)
    omega
  · rfl
/-- What a walk still has to see, on the way into a node. -/
theorem down {st : List (Nat × Nat)} {x : Nd} {k r : F} {fs : List F} (h : InvP st (.cons x k r) fs) :
    ∃ fs', Outer st fs' ∧ r.flat ++ flats fs = flats fs' ∧ remO st fs' = times st * r.len + remO st.tail fs ∧ deepO st fs' = max (if r.cnt = 0 then 0 else st.length + r.dep) (deepO st.tail fs) := by
  obtain ⟨⟨_, _, _, hrok⟩, h2⟩ := h
  cases st with
  | nil =>
    obtain ⟨rfl, hc⟩ := h2
    obtain rfl : r = .nil := F.cnt_zero (by simp only [F.cnt] at hc; omega)
    exact ⟨[], trivial, rfl, by simp [remO, F.len], by simp [deepO, F.cnt]⟩
  | cons e o =>
    obtain ⟨a, t⟩ := e
    obtain ⟨h3, h4, h5, h6, h7⟩ := h2
    exact ⟨r :: fs, ⟨h3, h5, h6, hrok, h7⟩, rfl, rfl, by simp [deepO]⟩
theorem deepR_cons (st : List (Nat × Nat)) (y : Nd) (k r : F) (fs : List F) : deepR st (.cons y k r) fs = max (st.length + max (k.dep + 1) r.dep) (deepO st.tail fs) := by
  unfold deepR
  rw [if_neg (show ¬ (F.cons y k r).cnt = 0 from Nat.succ_ne_zero _)]
  rfl
theorem deepR_in (a t : Nat) (st : List (Nat × Nat)) (k : F) (fs : List F) (h : ¬ k.cnt = 0) : deepR ((a, t) :: st) k fs = max (st.length + 1 + k.dep) (deepO st fs) := by
  unfold deepR
  rw [if_neg h]
  rfl
/-- One node on: leaves give their ticks. -/
theorem step {st : List (Nat × Nat)} {cur : F} {fs : List F} (h : InvP st cur fs) {x : Nd} {tl : List Nd} (hr : cur.flat ++ flats fs = x :: tl) :
    fine x = true ∧ ∃ (cur' : F) (fs' : List F), InvP (behind st x) cur' fs' ∧ tl = cur'.flat ++ flats fs' ∧
      (∀ s, min 4097 (s + (if kn x = 0 then hold x.n.toNat (times st) else 0) + rem (behind st x) cur' fs') = min 4097 (s + rem st cur fs)) ∧
      max (st.length + 1) (deepR (behind st x) cur' fs') = max (st.length + 1) (deepR st cur fs) := by
  have hc : 0 < cur.cnt := by
    rcases h.pos with ⟨_, rfl⟩ | h0
    · rcases Nat.eq_zero_or_pos cur.cnt with h0 | h0
      · rw [F.cnt_zero h0] at hr; simp [F.flat, flats] at hr
      · exact h0
    · exact h0
  cases cur with
  | nil => simp [F.cnt] at hc
  | cons y k r =>
    simp only [F.flat, List.cons_append, List.cons.injEq, List.append_assoc] at hr
    obtain ⟨rfl, rfl⟩ := hr
    have hok := h.1
    obtain ⟨hf, hk, hkok, hrok⟩ := hok
    have hn1 := fine_one hf
    refine ⟨hf, ?_⟩
    obtain ⟨ht1, ht2⟩ := h.times
    obtain ⟨fs', d1, d2, d3, d4⟩ := down h
    by_cases h3 : y.k = 3
    · have ek : kn y = y.n.toNat := if_pos h3
      have eb : behind st y = (y.n.toNat, times st) :: st := if_pos h3
      have hkc : 0 < k.cnt := by omega
      have et : F.tick y k.len = k.len := if_pos h3
      rw [eb]
      refine ⟨k, fs', ⟨hkok, by omega, by omega, ht1, ht2, d1⟩, by rw [d2], fun s => ?_, ?_⟩
      · rw [if_neg (by omega)]
        simp only [rem, times_cons, List.tail_cons, d3, F.len, et, Nat.mul_add]
        congr 1
        omega
      · rw [deepR_cons, deepR_in _ _ _ _ _ (by omega), d4]
        split
        · rename_i h0
          rw [F.cnt_zero h0]
          simp only [F.dep]
          omega
        · omega
    · by_cases h4 : y.k = 4
      · have ek : kn y = 1 := by unfold kn; rw [if_neg h3, if_pos h4]
        have eb : behind st y = (1, hold y.n.toNat (times st)) :: st := by unfold behind; rw [if_neg h3, if_pos h4]
        have et : F.tick y k.len = k.len * y.n.toNat := by unfold F.tick; rw [if_neg h3, if_pos h4]
        have hl : 1 ≤ k.len := F.len_pos hkok (by omega)
        rw [eb]
        refine ⟨k, fs', ⟨hkok, by omega, by omega, hold_pos (by omega) ht1, hold_le _ _, d1⟩, by rw [d2], fun s => ?_, ?_⟩
        · rw [if_neg (by omega)]
          simp only [rem, times_cons, List.tail_cons, d3, F.len, et, Nat.add_zero]
          rw [← Nat.add_assoc, hold_mul _ _ _ _ _ hl, Nat.mul_add]
          have : times st * (k.len * y.n.toNat) = y.n.toNat * times st * k.len := by
            rw [← Nat.mul_assoc, Nat.mul_comm (times st) k.len, Nat.mul_assoc, Nat.mul_comm k.len, Nat.mul_comm (times st)]
          rw [this]
          congr 1
          omega
        · rw [deepR_cons, deepR_in _ _ _ _ _ (by omega), d4]
          split
          · rename_i h0
            rw [F.cnt_zero h0]
            simp only [F.dep]
            omega
          · omega
      · have ek : kn y = 0 := by unfold kn; rw [if_neg h3, if_neg h4]
        have eb : behind st y = pops st := by unfold behind; rw [if_neg h3, if_neg h4]
        have et : F.tick y k.len = y.n.toNat := by unfold F.tick; rw [if_neg h3, if_neg h4]
        obtain rfl : k = .nil := F.cnt_zero (by omega)
        -- behind a leaf
        obtain ⟨cur', fs'', p1, p2, p3, p4⟩ : ∃ (cur' : F) (fs'' : List F), InvP (pops st) cur' fs'' ∧ r.flat ++ flats fs = cur'.flat ++ flats fs'' ∧ rem (pops st) cur' fs'' = remO st fs' ∧ deepR (pops st) cur' fs'' = deepO st fs' := by
          obtain ⟨c, f, q1, q2, q3, q4, _⟩ := pops_spec st fs' d1
          exact ⟨c, f, q1, by rw [d2, q2], q3, q4⟩
        rw [eb]
        refine ⟨cur', fs'', p1, by simpa [F.flat] using p2, fun s => ?_, ?_⟩
        · rw [if_pos ek, p3, d3, hold_min]
          have et' : F.tick y 0 = y.n.toNat := et
          simp only [rem, F.len, et', Nat.mul_add]
          rw [Nat.mul_comm (times st) y.n.toNat]
          congr 1
          omega
        · rw [p4, d4, deepR_cons]
          simp only [F.dep]
          split
          · rename_i h0
            rw [F.cnt_zero h0]
            simp only [F.dep]
            omega
          · omega
theorem deep_ge {st : List (Nat × Nat)} {cur : F} {fs : List F} (h : InvP st cur fs) {x : Nd} {tl : List Nd} (hr : cur.flat ++ flats fs = x :: tl) : st.length + 1 ≤ deepR st cur fs := by
  cases cur with
  | nil =>
    rcases h.pos with ⟨_, rfl⟩ | h0
    · simp [F.flat, flats] at hr
    · simp [F.cnt] at h0
  | cons y k r => rw [deepR_cons]; omega
/-- Behind the last node nothing is open. -/
theorem InvP.done {st : List (Nat × Nat)} {cur : F} {fs : List F} (h : InvP st cur fs) (hr : cur.flat ++ flats fs = []) : rem st cur fs = 0 ∧ deepR st cur fs = 0 := by
  rcases h.pos with ⟨rfl, rfl⟩ | h0
  · cases cur with
    | nil => exact ⟨rfl, rfl⟩
    | cons x k r => simp [F.flat] at hr
  · cases cur with
    | nil => simp [F.cnt] at h0
    | cons x k r => simp [F.flat] at hr
theorem InvP.start {f : F} (h : f.ok) (hc : f.cnt = 1) : InvP [] f [] ∧ f.flat ++ flats [] = f.flat ∧ rem [] f [] = f.len ∧ deepR [] f [] = f.dep :=
  ⟨⟨h, rfl, by omega⟩, by simp [flats], by simp [rem, show Tab.times [] = 1 from rfl, remO], by simp [deepR, deepO, hc]⟩
end Tab
end Go.Proofs.YtgoeikihjffeoaaGreat

/- A table that is whole; the places of a node's children. -/
namespace Go.Proofs.YtgoeikihjffeoaaGreat
open Go.RowKit Tab
set_option linter.unusedSimpArgs false
set_option linter.unusedVariables false

def wholeB (l : List Nd) : Bool := decide (0 < l.length) && decide (size l 0 = l.length)
set_option maxHeartbeats 400000 in
theorem whole_any (A : Option Addr) (n cap : Nat) (l : List Nd) (w : World) (h : RdN w w.heap.size A n l) (hc : n ≤ cap) (hn : n ≤ 1099511627776) :
    Calls Tryz.prog 88 #[.slice A n cap] w (Ans (.bool (wholeB l)) w) := by
  generalize hb : wholeB l = b
  have HL := Lib.hid h.len
  have HB := Lib.hid hb
  clear hb
  by_cases h0 : 0 < n
  · generalize hS : size l 0 = S
    have HS := Lib.hid hS
    clear hS
    go_enter Tryz.func88, Tryz.ntmps88
    go_wp2_with fail
    refine (size_any A n cap l 0 w h hc hn).mono ?_
    rw [HS.out]
    rintro e w1 ⟨rfl, hb1⟩
    go_wp2_with fail
    go_ret
    refine Ans.mk (congrArg Value.bool (a₂ := ((S : Int) == (n : Int))) ?_) hb1
    rw [← HB.out, wholeB, HL.out, HS.out, Bool.eq_iff_iff]
    simp
    omega
  · have h0' : n ≤ 0 := by omega
    go_enter Tryz.func88, Tryz.ntmps88
    go_wp2_with fail
    go_ret
    refine Ans.mk ?_ (Below.refl _ _)
    rw [← HB.out, wholeB, HL.out, show n = 0 by omega]
    rfl
/-- A whole table is a tree. -/
theorem whole_tree {l : List Nd} (h : wholeB l = true) : ∃ (x : Nd) (k : F), (F.cons x k .nil).ok ∧ l = x :: k.flat := by
  unfold wholeB at h
  simp only [Bool.and_eq_true, decide_eq_true_eq] at h
  obtain ⟨x, k, t, h1, _, _, h4, h5⟩ := size_tree (l := l) (a := 0) (by omega)
  have hlen := congrArg List.length h4
  simp only [Int.toNat_zero, List.drop_zero, List.length_cons, List.length_append, F.flat_length] at hlen
  have ht : t = [] := List.eq_nil_of_length_eq_zero (by omega)
  subst ht
  exact ⟨x, k, h1, by simpa using h4⟩
theorem tree_whole {x : Nd} {k : F} (h : (F.cons x k .nil).ok) : wholeB (x :: k.flat) = true := by
  have h1 : size (x :: k.flat) 0 = 1 + k.sz := size_at (l := x :: k.flat) (a := 0) (t := []) h (by simp [F.flat])
  unfold wholeB
  simp only [Bool.and_eq_true, decide_eq_true_eq]
  exact ⟨by simp, by rw [h1]; simp only [List.length_cons, F.flat_length]; omega⟩

def lenOf : Value → Nat
  | .slice _ n _ => n
  | _ => 0
/-- Numbers as cells. -/
def is (l : List Int) : List Value := l.map (.int .i64)
theorem is_length (l : List Int) : (is l).length = l.length := by simp [is]
theorem is_append (l m : List Int) : is (l ++ m) = is l ++ is m := by simp [is]
theorem is_one (l : List Int) : ∀ u ∈ is l, u.oneCell' = true := by
  intro u hu
  obtain ⟨z, _, rfl⟩ := List.mem_map.1 hu
  rfl
/-- A slice at A, n long, holds the numbers l. -/
structure RdI (w : World) (B : Nat) (A : Option Addr) (n : Nat) (l : List Int) : Prop where
  len : l.length = n
  rd : RdV w B A (is l)
section
variable {w w' : World} {B B' n : Nat} {A : Option Addr} {l : List Int}
theorem RdI.below (h : RdI w B A n l) (hb : Below B w w') : RdI w' B A n l := ⟨h.len, h.rd.below hb⟩
theorem RdI.more (h : RdI w B A n l) (hB : B ≤ B') : RdI w B' A n l := ⟨h.len, h.rd.more hB⟩
theorem RdI.on (h : RdI w w.heap.size A n l) (hb : Below w.heap.size w w') : RdI w' w'.heap.size A n l := (h.below hb).more hb.size
theorem RdI.at_ (h : RdI w B A n l) {i : Nat} (hi : i < n) : ∃ (ad : Addr) (x : Int), A = some ad ∧ ad.block < B ∧ l[i]? = some x ∧ w.cell? (ad.add i) = some (.int .i64 x) := by
  have hl : i < l.length := by rw [h.len]; exact hi
  obtain ⟨ad, e, hb, hc⟩ := h.rd (by rw [is_length]; omega)
  exact ⟨ad, l[i], e, hb, List.getElem?_eq_getElem hl, hc _ _ (by simp [is, hl])⟩
end
/-- It answers a row of numbers, new. -/
def MadeI (l : List Int) (w : World) (e : Ending) (w' : World) : Prop := ∃ A n c, e = .returned (.slice A n c) ∧ RdI w' w'.heap.size A n l ∧ n ≤ c ∧ Below w.heap.size w w'
theorem MadeI.mk {l : List Int} {w w' : World} {A : Option Addr} {n c : Nat} {B : Nat} (h : OwnV 3 1 w' B A n c (is l)) (hb : Below w.heap.size w w') : MadeI l w (.returned (.slice A n c)) w' :=
  ⟨A, n, c, rfl, ⟨by have := h.len; rw [is_length] at this; omega, h.rd⟩, h.cap, hb⟩

/-- The first j places. -/
def plc (l : List Nd) (p j : Nat) : List Int := (List.range j).map fun j => (pos l p j : Int)
theorem plc_succ (l : List Nd) (p j : Nat) : plc l p (j + 1) = plc l p j ++ [(pos l p j : Int)] := by simp [plc, List.range_succ]
theorem plc_set (l : List Nd) (p m i : Nat) (hi : i < m) : (is (plc l p i ++ List.replicate (m - i) 0)).set i (.int .i64 (pos l p i : Int)) = is (plc l p (i + 1) ++ List.replicate (m - (i + 1)) 0) := by
  have e : m - i = (m - (i + 1)) + 1 := by omega
  have el : (is (plc l p i)).length = i := by rw [is_length]; simp [plc]
  rw [plc_succ, e, List.replicate_succ]
  rw [is_append, List.set_append_right _ _ (by omega), el, Nat.sub_self]
  simp [is, List.map_append]
theorem made_ints (n : Nat) : (madeCells #[Value.int .i64 0] n).toList = is (List.replicate n 0) := by
  apply List.ext_getElem
  · simp [size_madeCells, is]
  · intro i h1 h2
    simp [madeCells, is]
    rw [Nat.mod_one]
    simp
theorem run_makeI (m : Nat) (hm : m ≤ 1048576) (W : World) : (Instr.makeSlice 28 (.int .i64 (m : Int)) (.int .i64 (m : Int))).run Tryz.prog W = .ok (.slice (some ⟨W.heap.size, 0, none⟩) m m) (W.alloc (.cells (madeCells #[.int .i64 0] m) 3)) := by
  obtain ⟨i, hi, hz, hs, hby⟩ := info_parts elI.hi
  have hr := run_make (P := Tryz.prog) W 28 3 i _ elI.ht hi hz .i64 .i64 m m (by omega) (by omega) (by rw [hby]; omega) (by omega)
  rw [hs] at hr
  simp only [Int.toNat_natCast, Nat.mul_one] at hr
  exact hr
end Go.Proofs.YtgoeikihjffeoaaGreat

/- Whether a name is one, whether a partition, a channel may be: by the document's own answer, exactly. -/
namespace Go.Proofs.YtgoeikihjffeoaaGreat
open Go.RowKit Tab
set_option linter.unusedSimpArgs false
set_option linter.unusedVariables false

def chB (i b : Nat) : Bool := (decide (97 ≤ b) && decide (b ≤ 122)) || ((decide (48 ≤ b) && decide (b ≤ 57) || decide (b = 95)) && decide (i ≠ 0))
def byteN (s : ByteArray) (j : Nat) : Nat := if h : j < s.size then s[j].toNat else 0
/-- Is it a name? -/
def nameF (s : ByteArray) : Bool := (List.range s.size).all (fun j => chB j (byteN s j)) && (decide (1 ≤ s.size) && decide (s.size ≤ 12))
theorem nameF_bad {s : ByteArray} {i : Nat} (hi : i < s.size) (h : chB i (byteN s i) = false) : nameF s = false := by
  unfold nameF
  have : (List.range s.size).all (fun j => chB j (byteN s j)) = false := by
    rw [List.all_eq_false]
    exact ⟨i, List.mem_range.2 hi, by rw [h]; simp⟩
  rw [this]
  rfl
theorem nameF_end {s : ByteArray} (h : ∀ j, j < s.size → chB j (byteN s j) = true) : nameF s = (decide (1 ≤ s.size) && decide (s.size ≤ 12)) := by
  unfold nameF
  have : (List.range s.size).all (fun j => chB j (byteN s j)) = true := by
    rw [List.all_eq_true]
    exact fun j hj => h j (List.mem_range.1 hj)
  rw [this]
  rfl
set_option maxRecDepth 100000 in
set_option maxHeartbeats 2000000 in
theorem xname_any (s : ByteArray) (w : World) (hs : s.size ≤ 140737488351232) : Calls Tryz.prog 12 #[.string s] w (fun e w' => e = .returned (.bool (nameF s)) ∧ w = w') := by
  have HBAD := Lib.hid fun i (hi : i < s.size) (h : chB i (byteN s i) = false) => nameF_bad hi h
  have HEND := Lib.hid fun (h : ∀ j, j < s.size → chB j (byteN s j) = true) => nameF_end h
  generalize nameF s = v at HBAD HEND
  go_enter Tryz.func12, Tryz.ntmps12
  go_wp2_with fail
  go_loopw [3, 4] (fun q _ wr => ∃ i : Nat, i ≤ s.size ∧ q = .int .i64 i ∧ (∀ j, j < i → chB j (byteN s j) = true) ∧ w = wr) (fun q _ _ => s.size - (intOf q).toNat)
  case atStart => exact ⟨0, by omega, rfl, fun j h => by omega, rfl⟩
  case round =>
    obtain ⟨i, hi, rfl, hok, rfl⟩ := hrel
    have HOK := Lib.hid hok
    clear hok
    by_cases hlt : i < s.size
    · have hlti : (i : Int) < (s.size : Int) := by omega
      have hb : byteN s i = s[i].toNat := dif_pos hlt
      have HB := Lib.hid hb
      have HNX : Hid (chB i (byteN s i) = true → ∀ j, j < i + 1 → chB j (byteN s j) = true) := Lib.hid fun h j hj => by
        rcases Nat.lt_or_ge j i with h1 | h1
        · exact HOK.out j h1
        · obtain rfl : j = i := by omega
          exact h
      rw [hb] at HNX
      have HBD := Lib.hid (HBAD.out i hlt)
      rw [hb] at HBD
      clear hb HB HBAD HEND HOK
      have HC : Hid (∀ b : Nat, b = s[i].toNat → chB i b = (decide (97 ≤ b) && decide (b ≤ 122) || (decide (48 ≤ b) && decide (b ≤ 57) || decide (b = 95)) && decide (i ≠ 0))) := Lib.hid fun b _ => rfl
      obtain ⟨b, hb⟩ : ∃ b, b = s[i].toNat := ⟨_, rfl⟩
      have hc := HC.out b hb
      rw [← hb] at HNX HBD
      have hix : (Instr.index 9 (.string s) (.int .i64 (i : Int))).run Tryz.prog w = .ok (.int .u8 (b : Int)) w := by
        rw [hb]
        rw [run_index_string (h := Tryz.underlying9)]
        simp [hlt]
      have HCC := Lib.hid hc
      clear HC hc hb
      rcases (by omega : (97 ≤ b ∧ b ≤ 122) ∨ (48 ≤ b ∧ b ≤ 57 ∧ i < 1) ∨ (48 ≤ b ∧ b ≤ 57 ∧ 1 ≤ i) ∨ (95 ≤ b ∧ b ≤ 95 ∧ i < 1) ∨ (95 ≤ b ∧ b ≤ 95 ∧ 1 ≤ i) ∨ (b < 48) ∨ (57 < b ∧ b < 95) ∨ (95 < b ∧ b < 97) ∨ (122 < b)) with h | h | h | h | h | h | h | h | h
      all_goals
        first
        | (have k5 : chB i b = true := by rw [HCC.out]; simp; omega)
        | (have k5 : chB i b = false := by rw [HCC.out]; simp; omega)
        have K5 := Lib.hid k5
        clear k5
        first
        | have i1 : (48 : Int) ≤ (b : Int) := by omega
        | have i1 : ¬ (48 : Int) ≤ (b : Int) := by omega
        first
        | have i2 : (b : Int) ≤ 57 := by omega
        | have i2 : ¬ (b : Int) ≤ 57 := by omega
        first
        | have i3 : ((b : Int) == 95) = true := by simp; omega
        | have i3 : ((b : Int) == 95) = false := by simp; omega
        first
        | have i4 : (b : Int) < 97 := by omega
        | have i4 : ¬ (b : Int) < 97 := by omega
        first
        | have i5 : (122 : Int) < (b : Int) := by omega
        | have i5 : ¬ (122 : Int) < (b : Int) := by omega
        try first
          | have i6 : ((i : Int) == 0) = true := by simp; omega
          | have i6 : ((i : Int) == 0) = false := by simp; omega
        go_wp2_with fail
        first
        | (go_ret; exact ⟨by rw [HBD.out K5.out]; rfl, by first | rfl | trivial⟩)
        | (go_roundw
           case rel => exact ⟨i + 1, by omega, by go_num, HNX.out K5.out, by first | rfl | trivial⟩
           case measure => simp [intOf]; omega)
    · have hlti : ¬ (i : Int) < (s.size : Int) := by omega
      have hv := HEND.out fun j hj => HOK.out j (by omega)
      have HV := Lib.hid hv
      clear hv HBAD HEND
      have hf : ∀ (p : Prop) [Decidable p], (p ∨ ¬ p) := fun p _ => Decidable.em p
      rcases hf (1 ≤ s.size) with h1 | h1 <;> rcases hf (s.size ≤ 12) with h2 | h2 <;> (try (exfalso; omega))
      all_goals
        first
        | have i1 : (1 : Int) ≤ (s.size : Int) := by omega
        | have i1 : ¬ (1 : Int) ≤ (s.size : Int) := by omega
        first
        | have i2 : (s.size : Int) ≤ 12 := by omega
        | have i2 : ¬ (s.size : Int) ≤ 12 := by omega
        go_wp2_with fail
        go_ret
        exact ⟨by rw [HV.out]; simp [h1, h2], by first | rfl | trivial⟩
/-- May a channel be, of so many partitions? -/
def chanF (x : ChV) (n : Int) : Bool := (decide (0 ≤ x.from_) && (decide (x.from_ < n) && (decide (0 ≤ x.to_) && (decide (x.to_ < n) && (decide (x.from_ ≠ x.to_) && (decide (0 ≤ x.late) && decide (x.late ≤ 4096))))))) &&
  (x.queue && (decide (1 ≤ x.cap) && decide (x.cap ≤ 8)) || !x.queue && decide (x.cap = 0))
set_option maxRecDepth 100000 in
set_option maxHeartbeats 4000000 in
theorem xchan_any (x : ChV) (n : Int) (w : World) : Calls Tryz.prog 55 #[cv x, .int .i64 n] w (Ans (.bool (chanF x n)) w) := by
  obtain ⟨f, t, q, c, m, l⟩ := x
  have HV : Hid (∀ v, v = chanF ⟨f, t, q, c, m, l⟩ n → v = ((decide (0 ≤ f) && (decide (f < n) && (decide (0 ≤ t) && (decide (t < n) && (decide (f ≠ t) && (decide (0 ≤ l) && decide (l ≤ 4096))))))) && (q && (decide (1 ≤ c) && decide (c ≤ 8)) || !q && decide (c = 0)))) := Lib.hid fun v h => h
  obtain ⟨v, hv⟩ : ∃ v, v = chanF ⟨f, t, q, c, m, l⟩ n := ⟨_, rfl⟩
  have HVV := Lib.hid (HV.out v hv)
  rw [← hv]
  clear hv HV
  go_enter Tryz.func55, Tryz.ntmps55
  have hf : ∀ (p : Prop) [Decidable p], (p ∨ ¬ p) := fun p _ => Decidable.em p
  rcases (by omega : f < 0 ∨ (0 ≤ f ∧ n ≤ f) ∨ (0 ≤ f ∧ f < n ∧ t < 0) ∨ (0 ≤ f ∧ f < n ∧ 0 ≤ t ∧ n ≤ t) ∨ (0 ≤ f ∧ f < n ∧ 0 ≤ t ∧ t < n ∧ f ≤ t ∧ t ≤ f) ∨ (0 ≤ f ∧ f < n ∧ 0 ≤ t ∧ t < n ∧ (f < t ∨ t < f) ∧ l < 0) ∨ (0 ≤ f ∧ f < n ∧ 0 ≤ t ∧ t < n ∧ (f < t ∨ t < f) ∧ 4096 < l) ∨ (0 ≤ f ∧ f < n ∧ 0 ≤ t ∧ t < n ∧ (f < t ∨ t < f) ∧ 0 ≤ l ∧ l ≤ 4096)) with h | h | h | h | h | h | h | h
  case inr.inr.inr.inr.inr.inr.inr =>
    have hv2 : v = (q && (decide (1 ≤ c) && decide (c ≤ 8)) || !q && decide (c = 0)) := by
      rw [HVV.out, decide_eq_true (show 0 ≤ f by omega), decide_eq_true (show f < n by omega), decide_eq_true (show 0 ≤ t by omega), decide_eq_true (show t < n by omega), decide_eq_true (show f ≠ t by omega), decide_eq_true (show 0 ≤ l by omega), decide_eq_true (show l ≤ 4096 by omega)]
      rfl
    have HV2 := Lib.hid hv2
    clear hv2
    have i1 : ¬ f < 0 := by omega
    have i2 : ¬ n ≤ f := by omega
    have i3 : ¬ t < 0 := by omega
    have i4 : ¬ n ≤ t := by omega
    have i5 : (f == t) = false := beq_eq_false_iff_ne.2 (by omega)
    have i6 : ¬ l < 0 := by omega
    have i7 : ¬ 4096 < l := by omega
    clear h
    cases q with
    | false =>
      rcases hf (c = 0) with hc | hc
      · have i8 : (c == 0) = true := by rw [hc]; rfl
        have hv3 : v = true := by rw [HV2.out, hc]; rfl
        have HV3 := Lib.hid hv3
        clear hc hv3
        go_wp2_with fail
        go_ret
        exact Ans.mk (by rw [HV3.out]; rfl) (bl1 _ _)
      · have i8 : (c == 0) = false := beq_eq_false_iff_ne.2 hc
        have hv3 : v = false := by rw [HV2.out, decide_eq_false hc]; rfl
        have HV3 := Lib.hid hv3
        clear hc hv3
        go_wp2_with fail
        go_ret
        exact Ans.mk (by rw [HV3.out]; rfl) (bl1 _ _)
    | true =>
      rcases hf (1 ≤ c) with hc | hc <;> rcases hf (c ≤ 8) with hd | hd <;> (try (exfalso; omega))
      all_goals
        have hv0 : v = (decide (1 ≤ c) && decide (c ≤ 8)) := by rw [HV2.out]; simp
        first
        | have hv3 : v = true := by rw [hv0, decide_eq_true hc, decide_eq_true hd]; rfl
        | have hv3 : v = false := by rw [hv0, decide_eq_false hc]; rfl
        | have hv3 : v = false := by rw [hv0, decide_eq_false hd, Bool.and_false]
        have HV3 := Lib.hid hv3
        clear hv3 hv0
        go_wp2_with fail
        go_ret
        exact Ans.mk (by rw [HV3.out]; rfl) (bl1 _ _)
  all_goals
    have hv2 : v = false := by
      rw [HVV.out]
      first
      | rw [decide_eq_false (show ¬ 0 ≤ f by omega)]; rfl
      | rw [decide_eq_false (show ¬ f < n by omega)]; simp
      | rw [decide_eq_false (show ¬ 0 ≤ t by omega)]; simp
      | rw [decide_eq_false (show ¬ t < n by omega)]; simp
      | rw [decide_eq_false (show ¬ f ≠ t by omega)]; simp
      | rw [decide_eq_false (show ¬ 0 ≤ l by omega)]; simp
      | rw [decide_eq_false (show ¬ l ≤ 4096 by omega)]; simp
    have HV2 := Lib.hid hv2
    clear hv2
    try first
      | have i1 : f < 0 := by omega
      | have i1 : ¬ (f < 0) := by omega
    try first
      | have i2 : n ≤ f := by omega
      | have i2 : ¬ (n ≤ f) := by omega
    try first
      | have i3 : t < 0 := by omega
      | have i3 : ¬ (t < 0) := by omega
    try first
      | have i4 : n ≤ t := by omega
      | have i4 : ¬ (n ≤ t) := by omega
    try first
      | have i5 : (f == t) = true := beq_iff_eq.2 (by omega)
      | have i5 : (f == t) = false := beq_eq_false_iff_ne.2 (by omega)
    try first
      | have i6 : l < 0 := by omega
      | have i6 : ¬ (l < 0) := by omega
    try first
      | have i7 : 4096 < l := by omega
      | have i7 : ¬ (4096 < l) := by omega
    clear h
    go_wp2_with fail
    go_ret
    exact Ans.mk (by rw [HV2.out]; rfl) (bl1 _ _)
end Go.Proofs.YtgoeikihjffeoaaGreat

/- Ticks together. -/
namespace Go.Proofs.YtgoeikihjffeoaaGreat
open Go.RowKit Tab
set_option linter.unusedSimpArgs false
set_option linter.unusedVariables false

theorem more_any (s n S N : Int) (w : World) (hs : 0 ≤ s) (hn : 0 ≤ n) (h : s + n ≤ 4611686018427387904) (hS : S = s) (hN : N = n) :
    Calls Tryz.prog 91 #[.int .i64 S, .int .i64 N] w fun e w' => e = .returned (.int .i64 (s + n)) ∧ w' = w := by
  subst hS; subst hN
  by_cases h0 : N < 1
  · have e : N = 0 := by omega
    subst e
    go_enter Tryz.func91, Tryz.ntmps91
    go_wp2
    go_ret
    exact ⟨by simp, rfl⟩
  · have h1 : ¬ 9223372036854775807 - N < S := by omega
    go_enter Tryz.func91, Tryz.ntmps91
    go_wp2
    go_ret
    exact ⟨rfl, rfl⟩
theorem sum_any (s n S N : Int) (w : World) (hs : 0 ≤ s) (hn : 0 ≤ n) (h : s + n ≤ 4611686018427387904) (hS : S = s) (hN : N = n) :
    Calls Tryz.prog 65 #[.int .i64 S, .int .i64 N] w fun e w' => e = .returned (.int .i64 (s + n)) ∧ w' = w := by
  subst hS; subst hN
  have h1 : ¬ 9223372036854775807 - N < S := by omega
  have m1 : max S 0 = S := by omega
  have m2 : max N 0 = N := by omega
  go_enter Tryz.func65, Tryz.ntmps65
  go_wp2
  go_ret
  exact ⟨rfl, rfl⟩
end Go.Proofs.YtgoeikihjffeoaaGreat

/- The leaves of a table in the order of time; a walk over it with a stack of its own: plain mathematics. -/
namespace Go.Proofs.YtgoeikihjffeoaaGreat
namespace Tab

/-- A run: whose it is, how many ticks. -/
structure Rn where
  p : Int
  n : Nat
def reps : Nat → List Rn → List Rn
  | 0, _ => []
  | n + 1, s => s ++ reps n s
/-- Whose a leaf is. -/
def whose (x : Nd) : Int := if x.k = 2 then -1 else x.p
def one (x : Nd) (s : List Rn) : List Rn := if x.k = 3 then s else if x.k = 4 then reps x.n.toNat s else [⟨whose x, x.n.toNat⟩]
def F.lvs : F → List Rn
  | nil => []
  | cons x k r => one x (lvs k) ++ lvs r
def ticks : List Rn → Nat
  | [] => 0
  | r :: s => r.n + ticks s
theorem ticks_append (a b : List Rn) : ticks (a ++ b) = ticks a + ticks b := by
  induction a with
  | nil => simp [ticks]
  | cons x a ih => simp only [List.cons_append, ticks, ih]; omega
theorem ticks_reps (n : Nat) (s : List Rn) : ticks (reps n s) = n * ticks s := by
  induction n with
  | zero => simp [reps, ticks]
  | succ n ih => rw [reps, ticks_append, ih, Nat.succ_mul]; omega
theorem one_ticks (x : Nd) (s : List Rn) : ticks (one x s) = F.tick x (ticks s) := by
  unfold one F.tick
  split
  · rfl
  · split
    · rw [ticks_reps, Nat.mul_comm]
    · simp [ticks]
theorem lvs_ticks (f : F) : ticks f.lvs = f.len := by
  induction f with
  | nil => rfl
  | cons x k r hk hr => simp only [F.lvs, F.len, ticks_append, one_ticks, hk, hr]
theorem reps_mem {n : Nat} {s : List Rn} {r : Rn} (h : r ∈ reps n s) : r ∈ s := by
  induction n with
  | zero => simp [reps] at h
  | succ n ih =>
    rcases List.mem_append.1 h with h | h
    · exact h
    · exact ih h
theorem lvs_pos {f : F} (h : f.ok) : ∀ r ∈ f.lvs, 1 ≤ r.n := by
  induction f with
  | nil => intro r hr; simp [F.lvs] at hr
  | cons x k r hk hr =>
    intro q hq
    rcases List.mem_append.1 hq with hq | hq
    · unfold one at hq
      split at hq
      · exact hk h.2.2.1 q hq
      · split at hq
        · exact hk h.2.2.1 q (reps_mem hq)
        · simp at hq
          subst hq
          have := fine_one h.1
          show 1 ≤ x.n.toNat
          omega
    · exact hr h.2.2.2 q hq
theorem length_le_ticks {s : List Rn} (h : ∀ r ∈ s, 1 ≤ r.n) : s.length ≤ ticks s := by
  induction s with
  | nil => simp [ticks]
  | cons r s ih =>
    have h1 := h r (by simp)
    have h2 := ih fun q hq => h q (by simp [hq])
    simp only [List.length_cons, ticks]
    omega
theorem lvs_leaf {x : Nd} (h3 : ¬ x.k = 3) (h4 : ¬ x.k = 4) (s : List Rn) : one x s = [⟨whose x, x.n.toNat⟩] := by unfold one; rw [if_neg h3, if_neg h4]
theorem lvs_seq {x : Nd} (h3 : x.k = 3) (s : List Rn) : one x s = s := if_pos h3
theorem lvs_rep {x : Nd} (h4 : x.k = 4) (s : List Rn) : one x s = reps x.n.toNat s := by unfold one; rw [if_neg (by omega), if_pos h4]
theorem reps_one {n : Nat} (h : 1 ≤ n) (s : List Rn) : reps n s = s ++ reps (n - 1) s := by
  obtain ⟨m, rfl⟩ : ∃ m, n = m + 1 := ⟨n - 1, by omega⟩
  rfl

/-- What comes behind a table that ends ahead of place p, st being the levels above it, the innermost first: the leaves still to come. -/
inductive Beh (l : List Nd) : List (Nat × Nat) → Nat → List Rn → Prop
  | top : Beh l [] l.length []
  | seq {o : List (Nat × Nat)} {p : Nat} {f : F} {t : List Nd} {td : List Rn} (hok : f.ok) (hl : l.drop p = f.flat ++ t) (hd : o.length + 1 + f.dep ≤ 16) (h : Beh l o (p + f.sz) td) : Beh l ((f.cnt + 1, 0) :: o) p (f.lvs ++ td)
  | rep {o : List (Nat × Nat)} {a b : Nat} {y : Nd} {k : F} {t : List Nd} {td : List Rn} (hok : (F.cons y k .nil).ok) (ha : 1 ≤ a) (ha2 : a ≤ 9223372036854775807) (hb : 1 ≤ b) (hl : l.drop b = y :: (k.flat ++ t)) (hd : o.length + 1 + (k.dep + 1) ≤ 16)
      (h : Beh l o (b + 1 + k.sz) td) : Beh l ((a, b) :: o) (b + 1 + k.sz) (reps (a - 1) (one y k.lvs) ++ td)
/-- What comes from the place p on. -/
def Ats (l : List Nd) (st : List (Nat × Nat)) (p : Nat) (td : List Rn) : Prop :=
  (st = [] ∧ p = l.length ∧ td = []) ∨ ∃ (x : Nd) (k : F) (t : List Nd) (u : List Rn), (F.cons x k .nil).ok ∧ l.drop p = x :: (k.flat ++ t) ∧ st.length + (k.dep + 1) ≤ 16 ∧ Beh l st (p + 1 + k.sz) u ∧ td = one x k.lvs ++ u
/-- The same, at a leaf or behind all. -/
def AtL (l : List Nd) (st : List (Nat × Nat)) (p : Nat) (td : List Rn) : Prop :=
  (st = [] ∧ p = l.length ∧ td = []) ∨ ∃ (x : Nd) (u : List Rn), fine x = true ∧ ¬ x.k = 3 ∧ ¬ x.k = 4 ∧ l[p]? = some x ∧ st.length ≤ 15 ∧ Beh l st (p + 1) u ∧ td = ⟨whose x, x.n.toNat⟩ :: u

theorem drop_get {l : List Nd} {p : Nat} {x : Nd} {t : List Nd} (h : l.drop p = x :: t) : l[p]? = some x ∧ l.drop (p + 1) = t ∧ p < l.length := by
  have h1 : (l.drop p)[0]? = some x := by rw [h]; rfl
  have h2 : l[p]? = some x := by simpa using h1
  refine ⟨h2, ?_, (List.getElem?_eq_some_iff.1 h2).1⟩
  rw [← List.drop_drop, h]
  rfl
theorem Ats.out {l : List Nd} {st : List (Nat × Nat)} {p : Nat} {td : List Rn} (h : Ats l st p td) (hp : l.length ≤ p) : AtL l st p td := by
  rcases h with h | ⟨x, k, t, u, _, h2, _⟩
  · exact .inl h
  · have := (drop_get h2).2.2
    omega
theorem Ats.le {l : List Nd} {st : List (Nat × Nat)} {p : Nat} {td : List Rn} (h : Ats l st p td) : p ≤ l.length := by
  rcases h with ⟨_, h, _⟩ | ⟨x, k, t, u, _, h2, _⟩
  · omega
  · have := (drop_get h2).2.2
    omega
theorem Ats.leaf {l : List Nd} {st : List (Nat × Nat)} {p : Nat} {td : List Rn} (h : Ats l st p td) {x : Nd} (hx : l[p]? = some x) (h3 : ¬ x.k = 3) (h4 : ¬ x.k = 4) : AtL l st p td := by
  rcases h with h | ⟨y, k, t, u, h1, h2, h5, h6, h7⟩
  · exact .inl h
  · obtain ⟨e, _, _⟩ := drop_get h2
    rw [hx] at e
    injection e with e
    subst e
    have hk : k = .nil := F.cnt_zero (by rw [h1.2.1]; unfold kn; rw [if_neg h3, if_neg h4])
    subst hk
    exact .inr ⟨x, u, h1.1, h3, h4, hx, by omega, h6, by rw [h7, lvs_leaf h3 h4]; rfl⟩
theorem Ats.short {l : List Nd} {st : List (Nat × Nat)} {p : Nat} {td : List Rn} (h : Ats l st p td) (hp : p < l.length) : st.length ≤ 15 := by
  rcases h with h | ⟨y, k, t, u, h1, h2, h5, h6, h7⟩
  · omega
  · omega
theorem Ats.fine {l : List Nd} {st : List (Nat × Nat)} {p : Nat} {td : List Rn} (h : Ats l st p td) {x : Nd} (hx : l[p]? = some x) : Tab.fine x = true := by
  rcases h with h | ⟨y, k, t, u, h1, h2, h5, h6, h7⟩
  · have := (List.getElem?_eq_some_iff.1 hx).1
    omega
  · obtain ⟨e, _, _⟩ := drop_get h2
    rw [hx] at e
    injection e with e
    subst e
    exact h1.1
theorem Ats.seq {l : List Nd} {st : List (Nat × Nat)} {p : Nat} {td : List Rn} (h : Ats l st p td) {x : Nd} (hx : l[p]? = some x) (h3 : x.k = 3) : Ats l ((x.n.toNat, 0) :: st) (p + 1) td := by
  rcases h with h | ⟨y, k, t, u, h1, h2, h5, h6, h7⟩
  · have := (List.getElem?_eq_some_iff.1 hx).1
    omega
  · obtain ⟨e, e2, _⟩ := drop_get h2
    rw [hx] at e
    injection e with e
    subst e
    obtain ⟨hf, hc, hok, _⟩ := h1
    have hc' : k.cnt = x.n.toNat := by rw [hc]; unfold kn; rw [if_pos h3]
    have hn := fine_one hf
    cases k with
    | nil => simp only [F.cnt] at hc'; omega
    | cons y q r =>
      have e3 : x.n.toNat = r.cnt + 1 := by rw [← hc']; rfl
      have e4 : l.drop (p + 1) = y :: (q.flat ++ (r.flat ++ t)) := by rw [e2]; simp [F.flat]
      have e5 : l.drop (p + 1 + 1 + q.sz) = r.flat ++ t := by
        obtain ⟨_, e6, _⟩ := drop_get e4
        rw [← List.drop_drop, e6, List.drop_left' (F.flat_length q)]
      simp only [F.dep] at h5
      refine .inr ⟨y, q, r.flat ++ t, r.lvs ++ u, ⟨hok.1, hok.2.1, hok.2.2.1, trivial⟩, e4, by simp only [List.length_cons]; omega, ?_, ?_⟩
      · rw [e3]
        exact .seq hok.2.2.2 e5 (by omega) (by have : p + 1 + 1 + q.sz + r.sz = p + 1 + (F.cons y q r).sz := by simp only [F.sz]; omega
                                               rw [this]; exact h6)
      · rw [h7, lvs_seq h3, F.lvs, List.append_assoc]
theorem Ats.rep {l : List Nd} {st : List (Nat × Nat)} {p : Nat} {td : List Rn} (h : Ats l st p td) {x : Nd} (hx : l[p]? = some x) (h4 : x.k = 4) (hn2 : x.n ≤ 9223372036854775807) : Ats l ((x.n.toNat, p + 1) :: st) (p + 1) td := by
  rcases h with h | ⟨y, k, t, u, h1, h2, h5, h6, h7⟩
  · have := (List.getElem?_eq_some_iff.1 hx).1
    omega
  · obtain ⟨e, e2, _⟩ := drop_get h2
    rw [hx] at e
    injection e with e
    subst e
    obtain ⟨hf, hc, hok, _⟩ := h1
    have hc' : k.cnt = 1 := by rw [hc]; unfold kn; rw [if_neg (by omega), if_pos h4]
    have hn := fine_one hf
    cases k with
    | nil => simp [F.cnt] at hc'
    | cons y q r =>
      obtain rfl : r = .nil := F.cnt_zero (by simp only [F.cnt] at hc'; omega)
      have e4 : l.drop (p + 1) = y :: (q.flat ++ t) := by rw [e2]; simp [F.flat]
      have e6 : p + 1 + (F.cons y q .nil).sz = p + 1 + 1 + q.sz := by simp only [F.sz]; omega
      simp only [F.dep] at h5
      rw [e6] at h6
      refine .inr ⟨y, q, t, reps (x.n.toNat - 1) (one y q.lvs) ++ u, hok, e4, by simp only [List.length_cons]; omega, .rep hok (by omega) (by omega) (by omega) e4 (by omega) h6, ?_⟩
      rw [h7, lvs_rep h4, reps_one (by omega)]
      simp [F.lvs]
/-- The levels and the place behind a leaf that ends ahead of p. -/
def popm : List (Nat × Nat) → Nat → List (Nat × Nat) × Nat
  | [], p => ([], p)
  | (a, b) :: o, p => if 1 < a then ((a - 1, b) :: o, if 0 < b then b else p) else popm o p
theorem popm_more {a b : Nat} (o : List (Nat × Nat)) (p : Nat) (h : 1 < a) : popm ((a, b) :: o) p = ((a - 1, b) :: o, if 0 < b then b else p) := by simp only [popm]; rw [if_pos h]
theorem popm_less {a b : Nat} (o : List (Nat × Nat)) (p : Nat) (h : ¬ 1 < a) : popm ((a, b) :: o) p = popm o p := by simp only [popm]; rw [if_neg h]
theorem Beh.pop {l : List Nd} {st : List (Nat × Nat)} {p : Nat} {td : List Rn} (h : Beh l st p td) : Ats l (popm st p).1 (popm st p).2 td := by
  induction h with
  | top => exact .inl ⟨rfl, rfl, rfl⟩
  | @seq o p f t td hok hl hd h ih =>
    cases f with
    | nil =>
      rw [popm_less _ _ (by simp [F.cnt])]
      simpa [F.lvs, F.sz] using ih
    | cons y q r =>
      rw [popm_more _ _ (by simp [F.cnt])]
      show Ats l (((F.cons y q r).cnt + 1 - 1, 0) :: o) p _
      have e4 : l.drop p = y :: (q.flat ++ (r.flat ++ t)) := by rw [hl]; simp [F.flat]
      have e5 : l.drop (p + 1 + q.sz) = r.flat ++ t := by
        obtain ⟨_, e6, _⟩ := drop_get e4
        rw [← List.drop_drop, e6, List.drop_left' (F.flat_length q)]
      simp only [F.dep] at hd
      refine .inr ⟨y, q, r.flat ++ t, r.lvs ++ td, ⟨hok.1, hok.2.1, hok.2.2.1, trivial⟩, e4, by simp only [List.length_cons]; omega, ?_, by rw [F.lvs, List.append_assoc]⟩
      exact .seq hok.2.2.2 e5 (by omega) (by have : p + 1 + q.sz + r.sz = p + (F.cons y q r).sz := by simp only [F.sz]; omega
                                             rw [this]; exact h)
  | @rep o a b y k t td hok ha ha2 hb hl hd h ih =>
    by_cases h1 : 1 < a
    · rw [popm_more _ _ h1]
      dsimp only
      rw [if_pos (by omega)]
      refine .inr ⟨y, k, t, reps (a - 1 - 1) (one y k.lvs) ++ td, hok, hl, by simp only [List.length_cons]; omega, .rep hok (by omega) (by omega) hb hl hd h, ?_⟩
      rw [reps_one (n := a - 1) (by omega), List.append_assoc]
    · rw [popm_less _ _ h1]
      have : a - 1 = 0 := by omega
      rw [this]
      exact ih
/-- What the counts are. -/
theorem Beh.bound {l : List Nd} {st : List (Nat × Nat)} {p : Nat} {td : List Rn} (h : Beh l st p td) : ∀ e ∈ st, 1 ≤ e.1 ∧ e.1 ≤ max 9223372036854775807 (l.length + 1) ∧ e.2 ≤ l.length := by
  induction h with
  | top => simp
  | @seq o p f t td hok hl hd h ih =>
    intro e he
    rcases List.mem_cons.1 he with rfl | he
    · have h1 := congrArg List.length hl
      rw [List.length_drop, List.length_append, F.flat_length] at h1
      have h2 := F.cnt_le_sz f
      dsimp only
      omega
    · exact ih e he
  | @rep o a b y k t td hok ha ha2 hb hl hd h ih =>
    intro e he
    rcases List.mem_cons.1 he with rfl | he
    · have := (drop_get hl).2.2
      dsimp only
      omega
    · exact ih e he
/-- At the beginning. -/
theorem Ats.start {x : Nd} {k : F} (hok : (F.cons x k .nil).ok) (hd : k.dep + 1 ≤ 16) : Ats (x :: k.flat) [] 0 (one x k.lvs) := by
  refine .inr ⟨x, k, [], [], hok, by simp, by simpa using hd, ?_, by simp⟩
  have : (0 : Nat) + 1 + k.sz = (x :: k.flat).length := by simp only [List.length_cons, F.flat_length]; omega
  rw [this]
  exact .top

/-- Whose tick t of the runs is; -1 of none. -/
def whoAt : List Rn → Int → Int
  | [], _ => -1
  | r :: s, t => if t < 0 then -1 else if t < r.n then r.p else whoAt s (t - r.n)
theorem whoAt_neg (s : List Rn) (t : Int) (h : t < 0) : whoAt s t = -1 := by
  cases s with
  | nil => rfl
  | cons r s => simp only [whoAt]; rw [if_pos h]
theorem whoAt_at (a : List Rn) (r : Rn) (s : List Rn) (j : Nat) (h : j < r.n) : whoAt (a ++ r :: s) ((ticks a : Int) + j) = r.p := by
  induction a with
  | nil =>
    simp only [List.nil_append, ticks, whoAt]
    rw [if_neg (by omega), if_pos (by omega)]
  | cons x a ih =>
    simp only [List.cons_append, ticks, whoAt]
    rw [if_neg (by omega), if_neg (by omega)]
    rw [show ((x.n + ticks a : Nat) : Int) + j - x.n = (ticks a : Int) + j by omega]
    exact ih
theorem whoAt_out (s : List Rn) (t : Int) (h : (ticks s : Int) ≤ t) : whoAt s t = -1 := by
  induction s generalizing t with
  | nil => rfl
  | cons r s ih =>
    simp only [ticks] at h
    simp only [whoAt]
    split
    · rfl
    · rw [if_neg (by omega)]
      exact ih _ (by omega)
end Tab
end Go.Proofs.YtgoeikihjffeoaaGreat

/- Runs side by side of one as one; whose ticks they are: plain mathematics. -/
namespace Go.Proofs.YtgoeikihjffeoaaGreat
namespace Tab

/-- One run more behind a tidy row. -/
def tpush (out : List Rn) (x : Rn) : List Rn := if x.n = 0 then out else match out.getLast? with
  | some y => if y.p = x.p then out.dropLast ++ [⟨y.p, y.n + x.n⟩] else out ++ [x]
  | none => [x]
def tidyOn (out l : List Rn) : List Rn := l.foldl tpush out
def tidy (l : List Rn) : List Rn := tidyOn [] l
/-- How many ticks are of p. -/
def tkOf (p : Int) : List Rn → Nat
  | [] => 0
  | r :: s => (if r.p = p then r.n else 0) + tkOf p s
/-- No run without ticks, no two side by side of one. -/
def Apart : List Rn → Prop
  | [] => True
  | [r] => 1 ≤ r.n
  | r :: q :: s => 1 ≤ r.n ∧ r.p ≠ q.p ∧ Apart (q :: s)

theorem tpush_none {out : List Rn} {x : Rn} (h : x.n = 0) : tpush out x = out := if_pos h
theorem tpush_nil {x : Rn} (h : x.n ≠ 0) : tpush [] x = [x] := by unfold tpush; rw [if_neg h]; rfl
theorem tpush_one {o : List Rn} {y x : Rn} (h : x.n ≠ 0) (hp : y.p = x.p) : tpush (o ++ [y]) x = o ++ [⟨y.p, y.n + x.n⟩] := by
  unfold tpush
  rw [if_neg h]
  simp [hp]
theorem tpush_new {o : List Rn} {y x : Rn} (h : x.n ≠ 0) (hp : y.p ≠ x.p) : tpush (o ++ [y]) x = o ++ [y] ++ [x] := by
  unfold tpush
  rw [if_neg h]
  simp [hp]
/-- The cases of one run more. -/
theorem tpush_cases (out : List Rn) (x : Rn) : (x.n = 0 ∧ tpush out x = out) ∨ (x.n ≠ 0 ∧ out = [] ∧ tpush out x = [x]) ∨ (∃ o y, x.n ≠ 0 ∧ out = o ++ [y] ∧ y.p = x.p ∧ tpush out x = o ++ [⟨y.p, y.n + x.n⟩]) ∨
    ∃ o y, x.n ≠ 0 ∧ out = o ++ [y] ∧ y.p ≠ x.p ∧ tpush out x = out ++ [x] := by
  by_cases h : x.n = 0
  · exact .inl ⟨h, tpush_none h⟩
  · rcases List.eq_nil_or_concat out with rfl | ⟨o, y, rfl⟩
    · exact .inr (.inl ⟨h, rfl, tpush_nil h⟩)
    · simp only [List.concat_eq_append]
      by_cases hp : y.p = x.p
      · exact .inr (.inr (.inl ⟨o, y, h, rfl, hp, tpush_one h hp⟩))
      · exact .inr (.inr (.inr ⟨o, y, h, rfl, hp, tpush_new h hp⟩))

theorem tidyOn_append (out a b : List Rn) : tidyOn out (a ++ b) = tidyOn (tidyOn out a) b := List.foldl_append
theorem tidy_more {l : List Rn} {i : Nat} {r : Rn} (h : l[i]? = some r) : tidy (l.take (i + 1)) = tpush (tidy (l.take i)) r := by
  obtain ⟨hi, e⟩ := List.getElem?_eq_some_iff.1 h
  unfold tidy tidyOn
  rw [List.take_succ_eq_append_getElem hi, List.foldl_append, e]
  rfl

theorem tkOf_append (p : Int) (a b : List Rn) : tkOf p (a ++ b) = tkOf p a + tkOf p b := by
  induction a with
  | nil => simp [tkOf]
  | cons x a ih => simp only [List.cons_append, tkOf, ih]; omega
theorem tkOf_le (p : Int) (l : List Rn) : tkOf p l ≤ ticks l := by
  induction l with
  | nil => simp [tkOf, ticks]
  | cons x a ih => simp only [tkOf, ticks]; split <;> omega
theorem tkOf_push (p : Int) (out : List Rn) (x : Rn) : tkOf p (tpush out x) = tkOf p out + if x.p = p then x.n else 0 := by
  rcases tpush_cases out x with ⟨h, e⟩ | ⟨h, rfl, e⟩ | ⟨o, y, h, rfl, hp, e⟩ | ⟨o, y, h, rfl, hp, e⟩
  · rw [e, h]; split <;> rfl
  · rw [e]; simp [tkOf]
  · rw [e, tkOf_append, tkOf_append]
    simp only [tkOf, hp]
    split <;> omega
  · rw [e, tkOf_append _ (o ++ [y])]
    simp only [tkOf]
    omega
theorem tkOf_tidyOn (p : Int) (l : List Rn) : ∀ out, tkOf p (tidyOn out l) = tkOf p out + tkOf p l := by
  induction l with
  | nil => intro out; simp [tidyOn, tkOf]
  | cons x l ih =>
    intro out
    have := ih (tpush out x)
    unfold tidyOn at this ⊢
    rw [List.foldl_cons, this, tkOf_push]
    simp only [tkOf]
    omega
theorem tkOf_tidy (p : Int) (l : List Rn) : tkOf p (tidy l) = tkOf p l := by
  unfold tidy
  rw [tkOf_tidyOn]
  simp [tkOf]
theorem ticks_push (out : List Rn) (x : Rn) : ticks (tpush out x) = ticks out + x.n := by
  rcases tpush_cases out x with ⟨h, e⟩ | ⟨h, rfl, e⟩ | ⟨o, y, h, rfl, hp, e⟩ | ⟨o, y, h, rfl, hp, e⟩
  · rw [e, h]; rfl
  · rw [e]; simp [ticks]
  · rw [e, ticks_append, ticks_append]
    simp only [ticks]
    omega
  · rw [e, ticks_append (o ++ [y])]
    simp only [ticks]
    omega
theorem ticks_tidyOn (l : List Rn) : ∀ out, ticks (tidyOn out l) = ticks out + ticks l := by
  induction l with
  | nil => intro out; simp [tidyOn, ticks]
  | cons x l ih =>
    intro out
    have := ih (tpush out x)
    unfold tidyOn at this ⊢
    rw [List.foldl_cons, this, ticks_push]
    simp only [ticks]
    omega
theorem ticks_tidy (l : List Rn) : ticks (tidy l) = ticks l := by
  unfold tidy
  rw [ticks_tidyOn]
  simp [ticks]

theorem whoAt_low (a b : List Rn) (t : Int) (h : t < ticks a) : whoAt (a ++ b) t = whoAt a t := by
  induction a generalizing t with
  | nil => simp only [ticks] at h; rw [whoAt_neg _ _ (by omega), whoAt_neg _ _ (by omega)]
  | cons x a ih =>
    simp only [ticks] at h
    simp only [List.cons_append, whoAt]
    split
    · rfl
    · split
      · rfl
      · exact ih _ (by omega)
theorem whoAt_high (a b : List Rn) (t : Int) (h : (ticks a : Int) ≤ t) : whoAt (a ++ b) t = whoAt b (t - ticks a) := by
  induction a generalizing t with
  | nil => simp [ticks]
  | cons x a ih =>
    simp only [ticks] at h
    simp only [List.cons_append, whoAt, ticks]
    rw [if_neg (by omega), if_neg (by omega), ih _ (by omega)]
    congr 1
    omega
theorem whoAt_one (p : Int) (n : Nat) (t : Int) (h : 0 ≤ t) : whoAt [⟨p, n⟩] t = if t < n then p else -1 := by
  simp only [whoAt]
  rw [if_neg (by omega)]
/-- Rows that are the same tick by tick. -/
def Alike (a b : List Rn) : Prop := ticks a = ticks b ∧ ∀ t : Int, 0 ≤ t → whoAt a t = whoAt b t
theorem alike_push (out : List Rn) (x : Rn) : Alike (tpush out x) (out ++ [x]) := by
  refine ⟨by rw [ticks_push, ticks_append]; simp [ticks], fun t ht => ?_⟩
  rcases tpush_cases out x with ⟨h, e⟩ | ⟨h, rfl, e⟩ | ⟨o, y, h, rfl, hp, e⟩ | ⟨o, y, h, rfl, hp, e⟩
  · rw [e]
    by_cases h1 : t < ticks out
    · rw [whoAt_low _ _ _ h1]
    · obtain ⟨xp, xn⟩ := x
      dsimp only at h
      subst h
      rw [whoAt_high _ _ _ (by omega), whoAt_one _ _ _ (by omega), if_neg (by omega), whoAt_out _ _ (by omega)]
  · rw [e]; rfl
  · rw [e, List.append_assoc]
    by_cases h1 : t < ticks o
    · rw [whoAt_low _ _ _ h1, whoAt_low _ _ _ h1]
    · rw [whoAt_high _ _ _ (by omega), whoAt_high _ _ _ (by omega)]
      obtain ⟨xp, xn⟩ := x
      obtain ⟨yp, yn⟩ := y
      dsimp only at hp h ⊢
      subst hp
      have e1 : ticks [⟨yp, yn⟩] = yn := by simp [ticks]
      rw [whoAt_one _ _ _ (by omega)]
      by_cases h2 : t - ticks o < yn
      · rw [whoAt_low _ _ _ (by rw [e1]; exact h2), whoAt_one _ _ _ (by omega), if_pos (by omega), if_pos h2]
      · rw [whoAt_high _ _ _ (by rw [e1]; omega), e1, whoAt_one _ _ _ (by omega)]
        by_cases h3 : t - ticks o < ((yn + xn : Nat) : Int)
        · rw [if_pos h3, if_pos (by omega)]
        · rw [if_neg h3, if_neg (by omega)]
  · rw [e]
theorem Alike.trans {a b c : List Rn} (h : Alike a b) (k : Alike b c) : Alike a c := ⟨h.1.trans k.1, fun t ht => (h.2 t ht).trans (k.2 t ht)⟩
theorem Alike.back {a b : List Rn} (h : Alike a b) (c : List Rn) : Alike (a ++ c) (b ++ c) := by
  refine ⟨by rw [ticks_append, ticks_append, h.1], fun t ht => ?_⟩
  by_cases h1 : t < ticks a
  · rw [whoAt_low _ _ _ h1, whoAt_low _ _ _ (by rw [← h.1]; exact h1), h.2 t ht]
  · rw [whoAt_high _ _ _ (by omega), whoAt_high _ _ _ (by rw [← h.1]; omega), h.1]
theorem alike_tidyOn (l : List Rn) : ∀ out, Alike (tidyOn out l) (out ++ l) := by
  induction l with
  | nil => intro out; simp only [tidyOn, List.foldl_nil, List.append_nil]; exact ⟨rfl, fun _ _ => rfl⟩
  | cons x l ih =>
    intro out
    have h1 := ih (tpush out x)
    have h2 := (alike_push out x).back l
    rw [List.append_assoc] at h2
    exact h1.trans h2
theorem whoAt_tidy (l : List Rn) (t : Int) : whoAt (tidy l) t = whoAt l t := by
  by_cases h : 0 ≤ t
  · have := (alike_tidyOn l []).2 t h
    simpa [tidy] using this
  · rw [whoAt_neg _ _ (by omega), whoAt_neg _ _ (by omega)]

theorem Apart.pos {l : List Rn} (h : Apart l) : ∀ r ∈ l, 1 ≤ r.n := by
  induction l with
  | nil => simp
  | cons r l ih =>
    cases l with
    | nil => intro q hq; simp at hq; subst hq; exact h
    | cons q s =>
      intro y hy
      rcases List.mem_cons.1 hy with rfl | hy
      · exact h.1
      · exact ih h.2.2 y hy
theorem Apart.snoc {o : List Rn} {y x : Rn} (h : Apart (o ++ [y])) (hx : 1 ≤ x.n) (hp : y.p ≠ x.p) : Apart (o ++ [y] ++ [x]) := by
  induction o with
  | nil => exact ⟨h, hp, hx⟩
  | cons r o ih =>
    cases o with
    | nil => exact ⟨h.1, h.2.1, ih h.2.2⟩
    | cons q s => exact ⟨h.1, h.2.1, ih h.2.2⟩
theorem Apart.more {o : List Rn} {y : Rn} (h : Apart (o ++ [y])) (k : Nat) : Apart (o ++ [⟨y.p, y.n + k⟩]) := by
  induction o with
  | nil => have h' : 1 ≤ y.n := h; show 1 ≤ y.n + k; omega
  | cons r o ih =>
    cases o with
    | nil => exact ⟨h.1, h.2.1, ih h.2.2⟩
    | cons q s => exact ⟨h.1, h.2.1, ih h.2.2⟩
theorem Apart.push {out : List Rn} (h : Apart out) (x : Rn) : Apart (tpush out x) := by
  rcases tpush_cases out x with ⟨h0, e⟩ | ⟨h0, rfl, e⟩ | ⟨o, y, h0, rfl, hp, e⟩ | ⟨o, y, h0, rfl, hp, e⟩
  · rw [e]; exact h
  · rw [e]; show 1 ≤ x.n; omega
  · rw [e]; exact h.more _
  · rw [e]; exact h.snoc (by omega) hp
theorem tidyOn_apart (l : List Rn) : ∀ out, Apart out → Apart (tidyOn out l) := by
  induction l with
  | nil => intro out h; exact h
  | cons x l ih => intro out h; exact ih _ (h.push x)
theorem tidy_apart (l : List Rn) : Apart (tidy l) := tidyOn_apart l [] trivial
/-- Two that stand side by side. -/
theorem Apart.at_ {l : List Rn} (h : Apart l) {i : Nat} {r q : Rn} (hr : l[i]? = some r) (hq : l[i + 1]? = some q) : r.p ≠ q.p := by
  induction l generalizing i with
  | nil => simp at hr
  | cons x l ih =>
    cases l with
    | nil => simp at hq
    | cons y s =>
      cases i with
      | zero => simp at hr hq; subst hr; subst hq; exact h.2.1
      | succ i => exact ih h.2.2 (by simpa using hr) (by simpa using hq)
/-- What is tidy stays. -/
theorem tidyOn_stays (l : List Rn) : ∀ out, Apart (out ++ l) → tidyOn out l = out ++ l := by
  induction l with
  | nil => intro out _; simp [tidyOn]
  | cons x l ih =>
    intro out h
    have e : tpush out x = out ++ [x] := by
      have hx : x.n ≠ 0 := by have := h.pos x (by simp); omega
      rcases List.eq_nil_or_concat out with rfl | ⟨o, y, rfl⟩
      · exact tpush_nil hx
      · simp only [List.concat_eq_append] at h ⊢
        refine tpush_new hx (h.at_ (i := o.length) ?_ ?_)
        · rw [List.append_assoc, List.getElem?_append_right (Nat.le_refl _)]; simp
        · rw [List.append_assoc, List.getElem?_append_right (by omega)]; simp
    have := ih (out ++ [x]) (by rw [List.append_assoc]; exact h)
    show tidyOn (tpush out x) l = _
    rw [e, this, List.append_assoc]
    rfl
theorem tidy_tidy (l : List Rn) : tidy (tidy l) = tidy l := by
  have := tidyOn_stays (tidy l) [] (by simpa using tidy_apart l)
  simpa [tidy] using this

theorem tpush_le (out : List Rn) (x : Rn) : (tpush out x).length ≤ out.length + 1 ∧ out.length ≤ (tpush out x).length := by
  rcases tpush_cases out x with ⟨h0, e⟩ | ⟨h0, rfl, e⟩ | ⟨o, y, h0, rfl, hp, e⟩ | ⟨o, y, h0, rfl, hp, e⟩ <;> rw [e] <;> simp
theorem tidyOn_le (l : List Rn) : ∀ out, (tidyOn out l).length ≤ out.length + l.length := by
  induction l with
  | nil => intro out; simp [tidyOn]
  | cons x l ih =>
    intro out
    have h1 := ih (tpush out x)
    have h2 := (tpush_le out x).1
    simp only [List.length_cons]
    show (tidyOn (tpush out x) l).length ≤ _
    omega
theorem tidy_le (l : List Rn) : (tidy l).length ≤ l.length := by
  have := tidyOn_le l []
  simpa [tidy] using this
theorem tidy_take_le (l : List Rn) (i : Nat) : (tidy (l.take i)).length ≤ i := by
  have := tidy_le (l.take i)
  rw [List.length_take] at this
  omega
/-- Two runs of one behind a row, one by one or as one. -/
theorem tpush_two (o : List Rn) (y x : Rn) (hy : y.n ≠ 0) (hp : y.p = x.p) : tpush (tpush o y) x = tpush o ⟨y.p, y.n + x.n⟩ := by
  by_cases hx : x.n = 0
  · rw [tpush_none hx]
    obtain ⟨yp, yn⟩ := y
    dsimp only at hp ⊢
    rw [hx]
    rfl
  · have hz : (⟨y.p, y.n + x.n⟩ : Rn).n ≠ 0 := by dsimp only; omega
    rcases tpush_cases o y with ⟨h0, e⟩ | ⟨h0, rfl, e⟩ | ⟨q, z, h0, rfl, hq, e⟩ | ⟨q, z, h0, rfl, hq, e⟩
    · exact absurd h0 hy
    · rw [e, tpush_nil hz]
      exact tpush_one (o := []) hx hp
    · rw [e, tpush_one hx (by dsimp only; rw [hq, hp]), tpush_one hz hq]
      dsimp only
      rw [Nat.add_assoc]
    · rw [e, tpush_one (o := q ++ [z]) hx hp, tpush_new (o := q) hz hq]
theorem tidyOn_push (o out : List Rn) (x : Rn) (h : Apart out) : tidyOn o (tpush out x) = tpush (tidyOn o out) x := by
  rcases tpush_cases out x with ⟨h0, e⟩ | ⟨h0, rfl, e⟩ | ⟨q, y, h0, rfl, hq, e⟩ | ⟨q, y, h0, rfl, hq, e⟩
  · rw [e, tpush_none h0]
  · rw [e]; rfl
  · rw [e, tidyOn_append, tidyOn_append]
    have hy : y.n ≠ 0 := by have := h.pos y (by simp); omega
    exact (tpush_two _ y x hy hq).symm
  · rw [e, tidyOn_append]
    rfl
theorem tidyOn_tidyOn (o l : List Rn) : ∀ out, Apart out → tidyOn o (tidyOn out l) = tidyOn (tidyOn o out) l := by
  induction l with
  | nil => intro out _; rfl
  | cons x l ih =>
    intro out h
    show tidyOn o (tidyOn (tpush out x) l) = tidyOn (tpush (tidyOn o out) x) l
    rw [ih _ (h.push x), tidyOn_push o out x h]
theorem tidy_append (a b : List Rn) : tidy (a ++ b) = tidyOn (tidy a) (tidy b) := by
  unfold tidy
  rw [tidyOn_tidyOn _ b [] trivial, tidyOn_append]
  rfl
theorem tidy_append_le (a b : List Rn) : (tidy (a ++ b)).length ≤ (tidy a).length + (tidy b).length := by
  rw [tidy_append]
  exact tidyOn_le _ _
theorem tidy_reps_le (m : Nat) (s : List Rn) : (tidy (reps m s)).length ≤ (tidy s).length * m := by
  induction m with
  | zero => simp [reps, tidy, tidyOn]
  | succ m ih =>
    have := tidy_append_le s (reps m s)
    show (tidy (s ++ reps m s)).length ≤ _
    rw [Nat.mul_succ]
    omega
theorem tkOf_reps (p : Int) (m : Nat) (s : List Rn) : tkOf p (reps m s) = m * tkOf p s := by
  induction m with
  | zero => simp [reps, tkOf]
  | succ m ih =>
    show tkOf p (s ++ reps m s) = _
    rw [tkOf_append, ih, Nat.succ_mul]
    omega
/-- How many are of somebody. -/
def swi : List Rn → Nat
  | [] => 0
  | r :: s => (if r.p = -1 then 0 else 1) + swi s
theorem swi_append (a b : List Rn) : swi (a ++ b) = swi a + swi b := by
  induction a with
  | nil => simp [swi]
  | cons x a ih => simp only [List.cons_append, swi, ih]; omega
theorem swi_le (l : List Rn) : swi l ≤ l.length := by
  induction l with
  | nil => simp [swi]
  | cons x l ih => simp only [swi, List.length_cons]; split <;> omega
theorem swi_take (l : List Rn) (i : Nat) : swi (l.take i) ≤ i := by
  have := swi_le (l.take i)
  rw [List.length_take] at this
  omega
theorem swi_more {l : List Rn} {i : Nat} {r : Rn} (h : l[i]? = some r) : swi (l.take (i + 1)) = swi (l.take i) + if r.p = -1 then 0 else 1 := by
  obtain ⟨hi, e⟩ := List.getElem?_eq_some_iff.1 h
  rw [List.take_succ_eq_append_getElem hi, swi_append, e]
  simp [swi]
theorem tkOf_more {p : Int} {l : List Rn} {i : Nat} {r : Rn} (h : l[i]? = some r) : tkOf p (l.take (i + 1)) = tkOf p (l.take i) + if r.p = p then r.n else 0 := by
  obtain ⟨hi, e⟩ := List.getElem?_eq_some_iff.1 h
  rw [List.take_succ_eq_append_getElem hi, tkOf_append, e]
  simp [tkOf]
/-- Parts of a tidied row are parts of the row. -/
theorem tpush_part {out : List Rn} {x r : Rn} (h : r ∈ tpush out x) : r.p = x.p ∨ ∃ q ∈ out, q.p = r.p := by
  rcases tpush_cases out x with ⟨h0, e⟩ | ⟨h0, rfl, e⟩ | ⟨q, y, h0, rfl, hq, e⟩ | ⟨q, y, h0, rfl, hq, e⟩
  · rw [e] at h; exact .inr ⟨r, h, rfl⟩
  · rw [e] at h; simp at h; subst h; exact .inl rfl
  · rw [e] at h
    rcases List.mem_append.1 h with h | h
    · exact .inr ⟨r, by simp [h], rfl⟩
    · simp at h; subst h; exact .inl hq
  · rw [e] at h
    rcases List.mem_append.1 h with h | h
    · exact .inr ⟨r, h, rfl⟩
    · simp at h; subst h; exact .inl rfl
theorem tidyOn_part (l : List Rn) : ∀ out, ∀ r ∈ tidyOn out l, (∃ q ∈ out, q.p = r.p) ∨ ∃ q ∈ l, q.p = r.p := by
  induction l with
  | nil => intro out r h; exact .inl ⟨r, h, rfl⟩
  | cons x l ih =>
    intro out r h
    rcases ih (tpush out x) r h with ⟨q, hq, e⟩ | ⟨q, hq, e⟩
    · rcases tpush_part hq with h | ⟨z, hz, e2⟩
      · exact .inr ⟨x, by simp, by rw [← h, e]⟩
      · exact .inl ⟨z, hz, by rw [e2, e]⟩
    · exact .inr ⟨q, by simp [hq], e⟩
theorem tidy_part {l : List Rn} {r : Rn} (h : r ∈ tidy l) : ∃ q ∈ l, q.p = r.p := by
  rcases tidyOn_part l [] r h with ⟨q, hq, _⟩ | h
  · simp at hq
  · exact h
theorem mem_ticks {l : List Rn} {r : Rn} (h : r ∈ l) : r.n ≤ ticks l := by
  induction l with
  | nil => simp at h
  | cons x l ih =>
    simp only [ticks]
    rcases List.mem_cons.1 h with rfl | h
    · omega
    · have := ih h; omega
/-- Whose the leaves of a table are. -/
theorem one_parts {x : Nd} {s : List Rn} (hf : fine x = true) (h : ∀ r ∈ s, -1 ≤ r.p ∧ r.p ≤ 5) : ∀ r ∈ one x s, -1 ≤ r.p ∧ r.p ≤ 5 := by
  intro r hr
  unfold one at hr
  split at hr
  · exact h r hr
  · split at hr
    · exact h r (reps_mem hr)
    · simp at hr
      subst hr
      unfold fine at hf
      unfold whose
      dsimp only
      simp only [Bool.and_eq_true, decide_eq_true_eq] at hf
      rename_i h3 h4
      split
      · omega
      · have h5 := hf.2
        rename_i h2
        by_cases h1 : x.k = 1
        · rw [if_pos h1] at h5
          simp at h5
          omega
        · rw [if_neg h1] at h5
          simp [h2, h3, h4] at h5
theorem lvs_parts {f : F} (h : f.ok) : ∀ r ∈ f.lvs, -1 ≤ r.p ∧ r.p ≤ 5 := by
  induction f with
  | nil => intro r hr; simp [F.lvs] at hr
  | cons x k r hk hr =>
    intro q hq
    rcases List.mem_append.1 hq with hq | hq
    · exact one_parts h.1 (hk h.2.2.1) q hq
    · exact hr h.2.2.2 q hq
end Tab
end Go.Proofs.YtgoeikihjffeoaaGreat

/- Rows of runs in memory; append in a region that draws. -/
namespace Go.Proofs.YtgoeikihjffeoaaGreat
open Go.RowKit Tab
set_option linter.unusedSimpArgs false
set_option linter.unusedVariables false

theorem elR : Elt 83 95 2 16 (.agg #[.int .i64 0, .int .i64 0]) := ⟨Tryz.underlying83, by kernel_rfl, rfl, by omega⟩
/-- A row of runs as cells. -/
def rs : List Rn → List Value
  | [] => []
  | r :: l => .int .i64 r.p :: .int .i64 (r.n : Int) :: rs l
theorem rs_length (l : List Rn) : (rs l).length = l.length * 2 := by
  induction l with
  | nil => rfl
  | cons x l ih => simp only [rs, List.length_cons, ih]; omega
theorem rs_append (l m : List Rn) : rs (l ++ m) = rs l ++ rs m := by
  induction l with
  | nil => rfl
  | cons x l ih => simp [rs, ih]
theorem rs_one (l : List Rn) : ∀ u ∈ rs l, u.oneCell' = true := by
  induction l with
  | nil => simp [rs]
  | cons x l ih =>
    intro u hu
    simp only [rs, List.mem_cons] at hu
    rcases hu with rfl | rfl | hu
    · rfl
    · rfl
    · exact ih u hu
theorem rs_get (l : List Rn) (i : Nat) (h : i < l.length) : (rs l)[i * 2]? = some (.int .i64 l[i].p) ∧ (rs l)[i * 2 + 1]? = some (.int .i64 (l[i].n : Int)) := by
  induction l generalizing i with
  | nil => simp at h
  | cons x l ih =>
    cases i with
    | zero => simp [rs]
    | succ i =>
      have := ih i (by simpa using h)
      have e : (i + 1) * 2 = i * 2 + 1 + 1 := by omega
      rw [e]
      simp only [rs, List.getElem?_cons_succ, List.getElem_cons_succ]
      exact this
/-- A slice at A, n long, holds the runs l. -/
structure RdR (w : World) (B : Nat) (A : Option Addr) (n : Nat) (l : List Rn) : Prop where
  len : l.length = n
  rd : RdV w B A (rs l)
section
variable {w w' : World} {B B' n : Nat} {A : Option Addr} {l : List Rn}
theorem RdR.below (h : RdR w B A n l) (hb : Below B w w') : RdR w' B A n l := ⟨h.len, h.rd.below hb⟩
theorem RdR.more (h : RdR w B A n l) (hB : B ≤ B') : RdR w B' A n l := ⟨h.len, h.rd.more hB⟩
theorem RdR.on (h : RdR w w.heap.size A n l) (hb : Below w.heap.size w w') : RdR w' w'.heap.size A n l := (h.below hb).more hb.size
theorem RdR.gb {b : Nat} (h : RdR w b A n l) (hb : b ≤ w.heap.size) (hg : w.grownBy w' (some b)) : RdR w' b A n l :=
  ⟨h.len, h.rd.keep fun p hp => World.cell?_of_block (hg.block p.block (by omega) (fun e => by injection e with e; omega))⟩
theorem RdR.at_ (h : RdR w B A n l) {i : Nat} (hi : i < n) : ∃ (ad : Addr) (r : Rn), A = some ad ∧ ad.block < B ∧ l[i]? = some r ∧
    w.cell? (ad.add (i * 2)) = some (.int .i64 r.p) ∧ w.cell? ⟨(ad.add (i * 2)).block, (ad.add (i * 2)).off + 1, none⟩ = some (.int .i64 (r.n : Int)) := by
  have hl : i < l.length := by rw [h.len]; exact hi
  obtain ⟨ad, e, hb, hc⟩ := h.rd (by rw [rs_length]; omega)
  obtain ⟨h1, h2⟩ := rs_get l i hl
  have e1 : (⟨(ad.add (i * 2)).block, (ad.add (i * 2)).off + 1, none⟩ : Addr) = ad.add (i * 2 + 1) := by
    rw [← add_add]
    generalize ad.add (i * 2) = p
    unfold Addr.add
    rw [if_neg (by omega)]
  exact ⟨ad, l[i], e, hb, List.getElem?_eq_getElem hl, hc _ _ h1, by rw [e1]; exact hc _ _ h2⟩
end
/-- The block of a slice. -/
def obk (A : Option Addr) : Option Nat := A.map (·.block)
theorem ownBlock_obk (A : Option Addr) (n c : Nat) : (Value.slice A n c).ownBlock = obk A := by cases A <;> rfl
/-- No block has turned but A0's; A is A0's or newer. -/
structure Grew (A0 A : Option Addr) (w w' : World) : Prop where
  gb : w.grownBy w' (obk A0)
  at_ : obk A = obk A0 ∨ ∃ g, obk A = some g ∧ w.heap.size ≤ g
theorem Grew.refl (A : Option Addr) (w : World) : Grew A A w w := ⟨⟨rfl, rfl, rfl, Nat.le_refl _, fun _ _ _ => rfl⟩, .inl rfl⟩
theorem Grew.trans {A0 A1 A2 : Option Addr} {w w1 w2 : World} (h : Grew A0 A1 w w1) (k : Grew A1 A2 w1 w2) : Grew A0 A2 w w2 := by
  refine ⟨⟨k.gb.os.trans h.gb.os, k.gb.tape.trans h.gb.tape, k.gb.output.trans h.gb.output, Nat.le_trans h.gb.size k.gb.size, fun i hi hne => ?_⟩, ?_⟩
  · refine (k.gb.block i (Nat.lt_of_lt_of_le hi h.gb.size) ?_).trans (h.gb.block i hi hne)
    rcases h.at_ with e | ⟨g, e, hg⟩
    · rw [e]; exact hne
    · rw [e]; intro e2; injection e2 with e2; omega
  · rcases k.at_ with e | ⟨g, e, hg⟩
    · rw [e]; exact h.at_
    · exact .inr ⟨g, e, Nat.le_trans h.gb.size hg⟩
theorem Grew.bel {A0 : Option Addr} {w w' : World} (h : Below w.heap.size w w') : Grew A0 A0 w w' := ⟨⟨h.os, h.tape, h.output, h.size, fun i hi _ => h.block i hi⟩, .inl rfl⟩
theorem Grew.drew {A0 A : Option Addr} {w w' : World} (h : Grew A0 A w.drew w') : Grew A0 A w w' := ⟨⟨h.gb.os, h.gb.tape, h.gb.output, h.gb.size, h.gb.block⟩, h.at_⟩
/-- append onto a row of the call's own: where the new one lies, what stays. -/
theorem run_appX {T E s b : Nat} {z : Value} (L : Elt T E s b z) (w : World) (B : Nat) (A : Option Addr) (n c : Nat) (l0 : List Value) (h : OwnV E s w B A n c l0) (ad : Addr) (m d : Nat) (l : List Value) (Bs : Nat) (hr : RdV w Bs (some ad) l)
    (hl : l.length = m * s) (hm0 : 0 < m) (h1 : ∀ u ∈ l, u.oneCell' = true) (hb : (n + m) * b ≤ 140737488355328) (hm : n + m ≤ maxLen) (hB : B ≤ w.heap.size) :
    ∃ A' c' w', (Builtin.append_ #[T, T] T #[.slice A n c, .slice (some ad) m d]).run Tryz.prog w = .ok (.slice A' (n + m) c') w' ∧ OwnV E s w' B A' (n + m) c' (l0 ++ l) ∧ Below B w w' ∧ Grew A A' w w' := by
  obtain ⟨i, hi, hz, hs, hby⟩ := info_parts L.hi
  have hpos : 0 < l.length := by rw [hl]; exact Nat.mul_pos hm0 L.hs
  obtain ⟨ad', e, _, hc⟩ := hr hpos
  injection e with e
  subst e
  obtain ⟨v', w', hrun, hown, hgr, hnil, hat⟩ := run_append_own_at (P := Tryz.prog) w B T T E i z s b L.ht hi hz hs hby L.hz L.hs (.slice A n c) n l0 h ad m d l hl hc h1 hm hb hB
  have hbel : Below B w w' := (Below.refl _ _).grown hgr hB (fun k hk => by
    rcases h.2 with ⟨hv, _⟩ | ⟨g, cap, cur, hv, hbg, _⟩
    · rw [hv] at hk; simp [Value.ownBlock] at hk
    · rw [hv] at hk; simp [Value.ownBlock] at hk; omega)
  rcases hown.2 with ⟨hv, h0⟩ | ⟨g, cap, cur, hv, _⟩
  · omega
  · subst hv
    rw [ownBlock_obk] at hgr hat
    rw [ownBlock_obk] at hat
    exact ⟨_, _, w', hrun, hown, hbel, hgr, hat.imp id fun e => ⟨_, e, Nat.le_refl _⟩⟩
section
variable {T E s b : Nat} {z : Value}
theorem step_appX (L : Elt T E s b z) {ops : Array Oper} {o : Oper} {a : Act} {K : Act → World → Prop} {Q : Exit → Act → World → Prop} {w : World} {F : Prop} (hgd : o.guard = none) (x y : Operand)
    (ho : o.op = .call { callee := .builtin .append, args := #[x, y], argTypes := #[T, T] }) (hty : o.type = T)
    (B : Nat) (A : Option Addr) (n c : Nat) (l0 : List Value) (hx : a.eval x = .slice A n c) (h : OwnV E s w B A n c l0) (ad : Addr) (m d : Nat) (l : List Value) (Bs : Nat) (hy : a.eval y = .slice (some ad) m d) (hr : RdV w Bs (some ad) l)
    (hl : l.length = m * s) (hm0 : 0 < m) (h1 : ∀ u ∈ l, u.oneCell' = true) (hb : (n + m) * b ≤ 140737488355328) (hm : n + m ≤ maxLen) (hB : B ≤ w.heap.size)
    (N : Nat) (hN : n + m = N) (M : List Value) (hM : l0 ++ l = M)
    (hK : ∀ A' c' w', OwnV E s w' B A' N c' M → Below B w w' → Grew A A' w w' → K (a.put o.dst (.slice A' N c')) w') : if Region.wanted o (yielded ops a.tmps) = true then Oper.wp Tryz.prog o a w K Q else F := by
  have hw : Region.wanted o (yielded ops a.tmps) = true := by simp [Region.wanted, hgd]
  rw [if_pos hw]
  subst hN; subst hM
  obtain ⟨A', c', w', hrun, h1, h2, h3⟩ := run_appX L w B A n c l0 h ad m d l Bs hr hl hm0 h1 hb hm hB
  unfold Oper.wp execOp
  simp only [ho, hty, resolve, invoke, builtin, Sem.run_bind, Sem.run_pure, Result.andThen_ok, List.map_toArray, List.map_cons, List.map_nil, hx, hy, hrun]
  exact hK A' c' w' h1 h2 h3
theorem wpList_appX (L : Elt T E s b z) {ops : Array Oper} {rest : List Oper} {o : Oper} {a : Act} {Q : Exit → Act → World → Prop} {w : World} (hgd : o.guard = none) (x y : Operand)
    (ho : o.op = .call { callee := .builtin .append, args := #[x, y], argTypes := #[T, T] }) (hty : o.type = T)
    (B : Nat) (A : Option Addr) (n c : Nat) (l0 : List Value) (hx : a.eval x = .slice A n c) (h : OwnV E s w B A n c l0) (ad : Addr) (m d : Nat) (l : List Value) (Bs : Nat) (hy : a.eval y = .slice (some ad) m d) (hr : RdV w Bs (some ad) l)
    (hl : l.length = m * s) (hm0 : 0 < m) (h1 : ∀ u ∈ l, u.oneCell' = true) (hb : (n + m) * b ≤ 140737488355328) (hm : n + m ≤ maxLen) (hB : B ≤ w.heap.size)
    (N : Nat) (hN : n + m = N) (M : List Value) (hM : l0 ++ l = M)
    (hK : ∀ A' c' w', OwnV E s w' B A' N c' M → Below B w w' → Grew A A' w w' → wpList Tryz.prog ops Q rest (a.put o.dst (.slice A' N c')) w') : wpList Tryz.prog ops Q (o :: rest) a w := by
  subst hN; subst hM
  refine wpList_plain hgd fun K hk => ?_
  obtain ⟨A', c', w', hrun, h1, h2, h3⟩ := run_appX L w B A n c l0 h ad m d l Bs hr hl hm0 h1 hb hm hB
  unfold Oper.wp execOp
  simp only [ho, hty, resolve, invoke, builtin, Sem.run_bind, Sem.run_pure, Result.andThen_ok, List.map_toArray, List.map_cons, List.map_nil, hx, hy, hrun]
  exact hk _ _ (hK A' c' w' h1 h2 h3)
end
end Go.Proofs.YtgoeikihjffeoaaGreat

/- The places of a node's children: what both answers lean on. -/
namespace Go.Proofs.YtgoeikihjffeoaaGreat
open Go.RowKit Tab
set_option linter.unusedSimpArgs false
set_option linter.unusedVariables false

/-- Tables behind one another end where the node's does. -/
theorem pos_fit {l : List Nd} {a : Nat} (h : size l (a : Int) ≠ 0) : ∃ x, l[a]? = some x ∧ fine x = true ∧ ∀ j, j ≤ kn x → pos l (a + 1) j ≤ l.length := by
  obtain ⟨x, k, t, hok, _, h2, h3, h4⟩ := size_tree h
  rw [Int.toNat_natCast] at h3
  have hd : l.drop (a + 1) = k.flat ++ t := by
    rw [← List.drop_drop, h3]
    rfl
  refine ⟨x, ?_, hok.1, fun j hj => (pos_dr hok.2.2.1 hd (by omega) j (by rw [hok.2.1]; exact hj)).2.2.2⟩
  have : (l.drop a)[0]? = some x := by rw [h3]; rfl
  simpa using this
theorem kids_none (l : List Nd) (a : Int) (h : size l a = 0) : kids l a = [] := by unfold kids; rw [if_pos h]
theorem madeI_nil (w w' : World) (hb : Below w.heap.size w w') : MadeI [] w (.returned (.slice none 0 0)) w' := ⟨none, 0, 0, rfl, ⟨rfl, RdV.nil⟩, Nat.le_refl _, hb⟩
end Go.Proofs.YtgoeikihjffeoaaGreat

/- The places of a node's children, by the document's own answer. -/
namespace Go.Proofs.YtgoeikihjffeoaaGreat
open Go.RowKit Tab
set_option linter.unusedSimpArgs false
set_option linter.unusedVariables false

/-- It answers a row of numbers in a new block. -/
def MadeJ (l : List Int) (w : World) (e : Ending) (w' : World) : Prop := ∃ A n c, e = .returned (.slice A n c) ∧ RdI w' w'.heap.size A n l ∧ n ≤ c ∧ Below w.heap.size w w' ∧ ∀ ad, A = some ad → w.heap.size ≤ ad.block
theorem OwnV.newer {E s : Nat} {w : World} {B n c : Nat} {A : Option Addr} {l : List Value} (h : OwnV E s w B A n c l) : ∀ ad, A = some ad → B ≤ ad.block := fun ad e => by
  rcases h.2 with ⟨hv, _⟩ | ⟨g, cap, cur, hv, hbg, _⟩
  · injection hv with h1; rw [e] at h1; cases h1
  · injection hv with h1; rw [e] at h1; injection h1 with h1; rw [h1]; exact hbg
theorem MadeJ.mk {l : List Int} {w w' : World} {A : Option Addr} {n c : Nat} (h : OwnV 3 1 w' w.heap.size A n c (is l)) (hb : Below w.heap.size w w') : MadeJ l w (.returned (.slice A n c)) w' :=
  ⟨A, n, c, rfl, ⟨by have := h.len; rw [is_length] at this; omega, h.rd⟩, h.cap, hb, h.newer⟩
theorem madeJ_nil (w w' : World) (hb : Below w.heap.size w w') : MadeJ [] w (.returned (.slice none 0 0)) w' := ⟨none, 0, 0, rfl, ⟨rfl, RdV.nil⟩, Nat.le_refl _, hb, fun _ h => by cases h⟩
/-- What a walk over the children meets. -/
theorem kids_tree {l : List Nd} {a : Nat} (h : size l (a : Int) ≠ 0) : ∃ m, kids l (a : Int) = plc l (a + 1) m ∧ m ≤ 128 ∧ ∀ j, j ≤ m → pos l (a + 1) j ≤ a + size l (a : Int) ∧ (j < m → pos l (a + 1) j < a + size l (a : Int)) ∧ (j = m → pos l (a + 1) j = a + size l (a : Int)) := by
  obtain ⟨x, k, t, hok, _, h2, h3, h4⟩ := size_tree h
  rw [Int.toNat_natCast] at h3
  have hd : l.drop (a + 1) = k.flat ++ t := by
    rw [← List.drop_drop, h3]
    rfl
  refine ⟨kn x, ?_, kn_le hok.1, fun j hj => ?_⟩
  · unfold kids
    have : (l.drop a)[0]? = some x := by rw [h3]; rfl
    have hx : l[a]? = some x := by simpa using this
    rw [if_neg h, Int.toNat_natCast, hx]
    rfl
  · obtain ⟨_, h5, _, _⟩ := pos_dr hok.2.2.1 hd (by omega) j (by rw [hok.2.1]; exact hj)
    have h6 := dr_cnt k j
    have h7 := F.cnt_le_sz (F.dr j k)
    rw [hok.2.1] at h6
    refine ⟨by omega, fun hlt => by omega, fun he => ?_⟩
    have h8 : F.dr j k = .nil := F.cnt_zero (by omega)
    rw [h8] at h5
    simp only [F.sz] at h5
    omega
set_option maxRecDepth 100000 in
set_option maxHeartbeats 1600000 in
theorem rkids_in (A : Option Addr) (n cap : Nat) (l : List Nd) (a : Nat) (w : World) (h : RdN w w.heap.size A n l) (hc : n ≤ cap) (hn : n ≤ 1099511627776) (ha : a < n) (hs : size l (a : Int) ≠ 0) :
    Calls Tryz.prog 87 #[.slice A n cap, .int .i64 a] w (MadeJ (kids l a) w) := by
  obtain ⟨m, hkd, hm, hpos⟩ := kids_tree hs
  rw [hkd]
  have hfit : a + size l (a : Int) ≤ n := by
    obtain ⟨_, h1, _⟩ := hpos m (Nat.le_refl _)
    obtain ⟨x, hx, _, h2⟩ := pos_fit hs
    obtain ⟨x', k, t, hok, _, h3, h4, h5⟩ := size_tree hs
    rw [Int.toNat_natCast] at h4
    have := congrArg List.length h4
    rw [List.length_drop, List.length_cons, List.length_append, F.flat_length] at this
    have := h.len
    omega
  clear hkd
  generalize hSd : size l (a : Int) = S at hs hfit hpos
  have HSD := Lib.hid hSd
  have HP := Lib.hid hpos
  clear hSd hpos hs
  have hca : ¬ cap = a := by omega
  go_enter Tryz.func87, Tryz.ntmps87
  go_wp2_with fail
  refine (rsize_any A n cap l a w h hc hn).mono ?_
  rw [HSD.out]
  rintro e w1 ⟨rfl, hb1⟩
  go_wp2_with fail
  go_loopw [6, 7] (fun o s wr => ∃ (i c : Nat) (Ao : Option Addr), i ≤ m ∧ s = .int .i64 (pos l (a + 1) i : Nat) ∧ o = .slice Ao i c ∧ OwnV 3 1 wr w.heap.size Ao i c (is (plc l (a + 1) i)) ∧ Below w.heap.size w wr) (fun o _ _ => m - lenOf o)
  case atStart => exact ⟨0, 0, none, by omega, ret_num (by simp [pos]), rfl, OwnV.nil _ _ _ _, hb1⟩
  case round =>
    obtain ⟨i, c, Ao, hi, rfl, rfl, hw, hb⟩ := hrel
    by_cases hlt : i < m
    · obtain ⟨_, hp1, _⟩ := HP.out i hi
      have hp1 := hp1 hlt
      have hp2 : pos l (a + 1) i + size l (pos l (a + 1) i : Nat) ≤ a + S := (HP.out (i + 1) (by omega)).1
      have HPS : Hid (pos l (a + 1) (i + 1) = pos l (a + 1) i + size l (pos l (a + 1) i : Nat)) := Lib.hid rfl
      have HPL := Lib.hid (plc_succ l (a + 1) i)
      generalize hPd : pos l (a + 1) i = P at hp1 hp2 HPS HPL ⊢
      have HPD := Lib.hid hPd
      clear hPd
      have hlt2 : decide ((P : Int) < (a : Int) + (S : Int)) = true := by simp; omega
      have hbs := hb.alloc hb.size (.cells #[.int .i64 (P : Int)] 3)
      have hw' := OwnV.below hw rfl (bl1 wr (.cells #[.int .i64 (P : Int)] 3))
      have hrd := rdV_new wr #[.int .i64 (P : Int)] 3 (is [(P : Int)]) rfl
      go_wp2_with (at_builtin; go_loud (refine wpList_appV elI rfl (.tmp 23) (.tmp 25) rfl rfl w.heap.size Ao i c _ rfl hw' _ 1 1 _ _ rfl hrd rfl (is_one _) (by omega) (by unfold maxLen; omega) hbs.size (i + 1) rfl (is (plc l (a + 1) (i + 1))) (by rw [HPL.out, is_append]) ?_; intro A2 c2 w2 hw2 hb2 _))
      have k2 := hbs.trans hb2
      refine (rsize_any A n cap l (P : Int) _ (h.on k2) hc hn).mono ?_
      generalize size l (P : Int) = Z at HPS hp2 ⊢
      rintro e w4 ⟨rfl, hb4⟩
      go_wp2_with fail
      go_roundw
      case rel => exact ⟨i + 1, c2, A2, by omega, ret_num (by rw [HPS.out]; omega), rfl, hw2.below rfl hb4, k2.trans (hb4.mono k2.size)⟩
      case measure => simp [lenOf]; omega
    · have hge : m ≤ i := by omega
      have e : i = m := by omega
      obtain ⟨_, _, hp1⟩ := HP.out i hi
      have hp1 := hp1 e
      generalize pos l (a + 1) i = P at hp1 ⊢
      have hlt2 : decide ((P : Int) < (a : Int) + (S : Int)) = false := by simp; omega
      have HPD := Lib.hid hp1
      have HE := Lib.hid e
      clear hp1 e
      go_wp2_with fail
      go_ret
      have e := HE.out
      subst e
      exact MadeJ.mk hw hb
set_option maxHeartbeats 400000 in
theorem rkids_out (A : Option Addr) (n cap : Nat) (l : List Nd) (a : Int) (w : World) (h : RdN w w.heap.size A n l) (hc : n ≤ cap) (hn : n ≤ 1099511627776) (hs : size l a = 0) (ha : -9223372036854775808 ≤ a) (ha2 : a < 9223372036854775807) :
    Calls Tryz.prog 87 #[.slice A n cap, .int .i64 a] w (MadeJ [] w) := by
  have HS := Lib.hid hs
  clear hs
  have hlt : decide (a + 1 < a) = false := decide_eq_false (by omega)
  go_enter Tryz.func87, Tryz.ntmps87
  go_wp2_with fail
  refine (rsize_any A n cap l a w h hc hn).mono ?_
  rw [HS.out]
  rintro e w1 ⟨rfl, hb1⟩
  go_wp2_with fail
  go_loopw [6, 7] (fun o s wr => o = .slice none 0 0 ∧ s = .int .i64 (a + 1) ∧ Below w.heap.size w wr) (fun _ _ _ => 0)
  case atStart => exact ⟨rfl, rfl, hb1⟩
  case round =>
    obtain ⟨rfl, rfl, hb⟩ := hrel
    go_wp2_with fail
    go_ret
    exact madeJ_nil _ _ hb
theorem rkids_new (A : Option Addr) (n cap : Nat) (l : List Nd) (a : Int) (w : World) (h : RdN w w.heap.size A n l) (hc : n ≤ cap) (hn : n ≤ 1099511627776) (ha : -9223372036854775808 ≤ a) (ha2 : a < 9223372036854775807) :
    Calls Tryz.prog 87 #[.slice A n cap, .int .i64 a] w (MadeJ (kids l a) w) := by
  by_cases hs : size l a = 0
  · rw [kids_none l a hs]
    exact rkids_out A n cap l a w h hc hn hs ha ha2
  · obtain ⟨x, k, t, _, h1, h2, _⟩ := size_tree hs
    obtain ⟨a', rfl⟩ := Int.eq_ofNat_of_zero_le h1
    exact rkids_in A n cap l a' w h hc hn (by have := h.len; omega) hs
theorem rkids_any (A : Option Addr) (n cap : Nat) (l : List Nd) (a : Int) (w : World) (h : RdN w w.heap.size A n l) (hc : n ≤ cap) (hn : n ≤ 1099511627776) (ha : -9223372036854775808 ≤ a) (ha2 : a < 9223372036854775807) :
    Calls Tryz.prog 87 #[.slice A n cap, .int .i64 a] w (MadeI (kids l a) w) := by
  refine (rkids_new A n cap l a w h hc hn ha ha2).mono ?_
  rintro e w' ⟨A, n, c, h1, h2, h3, h4, _⟩
  exact ⟨A, n, c, h1, h2, h3, h4⟩
end Go.Proofs.YtgoeikihjffeoaaGreat
