/- Contracts and mathematics that the texts behind it stand on: Mapa, Pn, Pm, Pa, Pl, Pd, Gswa, Gfre, Pf. -/
import Derived.Test.YtoaocdmcjjohgaaLow2
import Derived.Test.YtoaocdmcjjohgaaLow6
import Derived.Test.YtoaocdmcjjohgaaLow7
import Derived.BigQuiet
import Derived.StillTailTactics
/- What package move is to answer; MoveApart: with all that depend nothing moves across another one, idle time alone does (the walk; what package move answers is a premise). -/
namespace Go.Proofs.Ytoaocdmcjjohgaa
open Go.ChangeShapes Go.WideShapes Go.ChangeAt Go.RowKit Tab
set_option linter.unusedSimpArgs false
set_option linter.unusedVariables false

/-- What package move is to answer (and chapter 10's runs). -/
structure MoveW : Prop where
  may : ∀ (A A3 : Option Addr) (n c n3 c3 : Nat) (ps : List Int) (m : Nat → Nat → Bool) (I J : Int) (rt : Bool) (w : World), RdP w w.heap.size A n ps → RdM w w.heap.size A3 n3 (fun _ => n3) m →
    n ≤ c → n ≤ 1024 → n3 ≤ 1024 → (∀ q ∈ ps, -1 ≤ q ∧ q ≤ 1024) → Calls Try.prog 20 #[.slice A n c, .slice A3 n3 c3, .agg #[.int .i64 I, .int .i64 J, .bool rt]] w (Ans (.bool (mayZ (depW n3 m) ps I J)) w)
  all : ∀ (A A3 : Option Addr) (n c n3 c3 : Nat) (ps : List Int) (m : Nat → Nat → Bool) (w : World), RdP w w.heap.size A n ps → RdM w w.heap.size A3 n3 (fun _ => n3) m →
    n ≤ c → n ≤ 1024 → n3 ≤ 1024 → (∀ q ∈ ps, -1 ≤ q ∧ q ≤ 1024) → Calls Try.prog 16 #[.slice A n c, .slice A3 n3 c3] w (RowM 37 (allF (depW n3 m) ps) w)
  do_ : ∀ (A : Option Addr) (n c0 : Nat) (L : List Rn) (I J : Int) (rt : Bool) (w : World), RdR w w.heap.size A n L → n ≤ c0 → n ≤ 1024 → ticks L ≤ 8192 →
    Calls Try.prog 18 #[.slice A n c0, .agg #[.int .i64 I, .int .i64 J, .bool rt]] w (RowQ (doZ L I J rt) w)
  fits : ∀ (A1 A2 A3 A : Option Addr) (n1 n2 n3 n c1 c2 c3 c : Nat) (P : List PtV) (C : List ChV) (L : List Rn) (I J : Int) (rt : Bool) (w : World), CfW w w.heap.size A1 A2 n1 n2 P C → RdR w w.heap.size A n L →
    n1 ≤ 1024 → n2 ≤ 1048576 → n ≤ c → n ≤ 1024 → ticks L ≤ 8192 → (∀ x ∈ P, In64 x.per) → (∀ r ∈ L, -1 ≤ r.p ∧ r.p ≤ 1024) →
    Calls Try.prog 29 #[.agg #[.slice A1 n1 c1, .slice A2 n2 c2, .slice A3 n3 c3], .slice A n c, .agg #[.int .i64 I, .int .i64 J, .bool rt]] w (Ans (.bool (fitZ P C L I J rt)) w)
  known : ∀ w : World, Calls Try.prog 12 #[] w (Ans (.bool true) w)
theorem mem_allJ {D : Int → Int → Bool} {ps : List Int} {i : Nat} {x : Mo} : ∀ f j, x ∈ allJ D ps i f j → x.i = i ∧ j ≤ x.j ∧ x.j < j + f ∧ mayP D ps i x.j = true := by
  intro f
  induction f with
  | zero => intro j h; cases h
  | succ f ih =>
    intro j h
    unfold allJ at h
    rcases List.mem_append.1 h with h | h
    · unfold twoM at h
      split at h
      · rename_i hm
        simp at h
        rcases h with rfl | rfl <;> exact ⟨rfl, Nat.le_refl _, by show j < j + (f + 1); omega, hm⟩
      · cases h
    · obtain ⟨h1, h2, h3, h4⟩ := ih (j + 1) h
      exact ⟨h1, by omega, by omega, h4⟩
theorem mem_allI {D : Int → Int → Bool} {ps : List Int} {x : Mo} : ∀ f i, x ∈ allI D ps f i → x.i < x.j ∧ x.j < ps.length ∧ mayP D ps x.i x.j = true := by
  intro f
  induction f with
  | zero => intro i h; cases h
  | succ f ih =>
    intro i h
    unfold allI at h
    rcases List.mem_append.1 h with h | h
    · obtain ⟨h1, h2, h3, h4⟩ := mem_allJ _ _ h
      rw [h1]
      exact ⟨by omega, by omega, h4⟩
    · exact ih _ h
theorem mem_allF {D : Int → Int → Bool} {ps : List Int} {x : Mo} (h : x ∈ allF D ps) : x.i < x.j ∧ x.j < ps.length ∧ mayP D ps x.i x.j = true := mem_allI _ _ h
theorem wayP_mono {D E : Int → Int → Bool} (h : ∀ p q, E p q = true → D p q = true) {p q : Int} (hw : wayP E p q = true) : wayP D p q = true := by
  unfold wayP at hw ⊢
  simp only [Bool.or_eq_true, Bool.and_eq_true] at hw ⊢
  rcases hw with h1 | ⟨h1, h2, h3⟩
  · exact .inl h1
  · exact .inr ⟨h1, h2, h _ _ h3⟩
theorem mayP_mono {D E : Int → Int → Bool} (h : ∀ p q, E p q = true → D p q = true) {ps : List Int} {i j : Nat} (hm : mayP D ps i j = true) : mayP E ps i j = true := by
  unfold mayP at hm ⊢
  split at hm
  · rename_i x y hx hy
    simp only [Bool.and_eq_true, Bool.not_eq_true'] at hm ⊢
    refine ⟨hm.1, hm.2.1, ?_⟩
    rw [List.any_eq_false]
    intro z hz hw
    have := List.any_eq_false.1 hm.2.2 z hz
    exact this (wayP_mono h hw)
  · cases hm
theorem allJ_mono {D E : Int → Int → Bool} (h : ∀ p q, E p q = true → D p q = true) (ps : List Int) (i : Nat) : ∀ f j, (allJ D ps i f j).length ≤ (allJ E ps i f j).length := by
  intro f
  induction f with
  | zero => intro j; exact Nat.le_refl _
  | succ f ih =>
    intro j
    unfold allJ
    rw [List.length_append, List.length_append]
    have h2 := ih (j + 1)
    have h3 : (twoM D ps i j).length ≤ (twoM E ps i j).length := by
      unfold twoM
      by_cases hm : mayP D ps i j = true
      · rw [if_pos hm, if_pos (mayP_mono h hm)]; exact Nat.le_refl _
      · rw [if_neg hm]; exact Nat.zero_le _
    omega
theorem allI_mono {D E : Int → Int → Bool} (h : ∀ p q, E p q = true → D p q = true) (ps : List Int) : ∀ f i, (allI D ps f i).length ≤ (allI E ps f i).length := by
  intro f
  induction f with
  | zero => intro i; exact Nat.le_refl _
  | succ f ih =>
    intro i
    unfold allI
    rw [List.length_append, List.length_append]
    have h2 := ih (i + 1)
    have h3 := allJ_mono h ps i (ps.length - (i + 1)) (i + 1)
    omega
/-- By a matrix of all, by none. -/
theorem dep_none {p q : Int} (h : depW 0 (fun _ _ => false) p q = true) : depW 3 (fun _ _ => true) p q = true := by
  unfold depW at h ⊢
  simp [inP] at h
  subst h
  simp
theorem all_len (ps : List Int) : (allF (depW 3 fun _ _ => true) ps).length ≤ (allF (depW 0 fun _ _ => false) ps).length := allI_mono (fun _ _ h => dep_none h) ps _ _
/-- What is between two that may be moved, where all depend. -/
theorem mid_apart {ps : List Int} (hps : ∀ q ∈ ps, -1 ≤ q ∧ q < 3) {i j : Nat} {p q : Int} (hm : mayP (depW 3 fun _ _ => true) ps i j = true) (hp : ps[i]? = some p) (hq : q ∈ (ps.drop (i + 1)).take (j - (i + 1))) : q ≠ p ∧ (p = -1 ∨ q = -1) := by
  unfold mayP at hm
  rw [hp] at hm
  split at hm
  · rename_i x y hx hy
    injection hx with hx
    subst hx
    simp only [Bool.and_eq_true, Bool.not_eq_true'] at hm
    have hw := List.any_eq_false.1 hm.2.2 q hq
    have hpr := hps p (List.mem_of_getElem? hp)
    have hqr := hps q (List.mem_of_mem_drop (List.mem_of_mem_take hq))
    unfold wayP at hw
    simp only [Bool.or_eq_true, Bool.and_eq_true, decide_eq_true_eq, not_or, not_and] at hw
    refine ⟨hw.1, ?_⟩
    by_cases h1 : p = -1
    · exact .inl h1
    · by_cases h2 : q = -1
      · exact .inr h2
      · exfalso
        apply hw.2 h1 h2
        unfold depW
        have e1 : inP 3 p = true := inP_iff.2 ⟨by omega, by omega⟩
        have e2 : inP 3 q = true := inP_iff.2 ⟨by omega, by omega⟩
        rw [e1, e2]
        simp
  · cases hm
end Go.Proofs.Ytoaocdmcjjohgaa

/- Package move: the next run of a partition, two places, which may be moved, what partitions can tell of each other. -/
namespace Go.Proofs.Ytoaocdmcjjohgaa
open Go.RowKit Tab
set_option linter.unusedSimpArgs false
set_option linter.unusedVariables false

/-- How far until the next one of x. -/
def nxF (x : Int) : List Int → Nat
  | [] => 0
  | y :: l => if y = x then 0 else nxF x l + 1
theorem nxF_le (x : Int) (l : List Int) : nxF x l ≤ l.length := by
  induction l with
  | nil => exact Nat.le_refl _
  | cons y l ih =>
    unfold nxF
    split
    · exact Nat.zero_le _
    · rw [List.length_cons]; omega
theorem nxF_ahead {x : Int} : ∀ {l : List Int} {k : Nat}, k < nxF x l → ∃ y, l[k]? = some y ∧ y ≠ x := by
  intro l
  induction l with
  | nil => intro k h; exact absurd h (Nat.not_lt_zero _)
  | cons y l ih =>
    intro k h
    unfold nxF at h
    split at h
    · exact absurd h (Nat.not_lt_zero _)
    · rename_i hy
      cases k with
      | zero => exact ⟨y, rfl, hy⟩
      | succ k =>
        obtain ⟨z, hz, hn⟩ := ih (k := k) (by omega)
        exact ⟨z, by rw [List.getElem?_cons_succ]; exact hz, hn⟩
theorem nxF_at {x : Int} : ∀ {l : List Int}, nxF x l < l.length → l[nxF x l]? = some x := by
  intro l
  induction l with
  | nil => intro h; exact absurd h (Nat.not_lt_zero _)
  | cons y l ih =>
    intro h
    unfold nxF at h ⊢
    split at h
    · rename_i hy
      rw [if_pos hy, hy]
      rfl
    · rename_i hy
      rw [if_neg hy, List.getElem?_cons_succ]
      exact ih (by rw [List.length_cons] at h; omega)
/-- The first one that is of x, behind so many that are not. -/
theorem nxF_is {x : Int} {l : List Int} {k : Nat} (hk : l[k]? = some x) (hno : ∀ j, j < k → l[j]? ≠ some x) : nxF x l = k := by
  rcases Nat.lt_trichotomy (nxF x l) k with h | h | h
  · exfalso
    have hl : k < l.length := (List.getElem?_eq_some_iff.1 hk).1
    exact hno _ h (nxF_at (by omega))
  · exact h
  · obtain ⟨y, hy, hne⟩ := nxF_ahead h
    rw [hk] at hy
    injection hy with hy
    exact absurd hy.symm hne
theorem nxF_end {x : Int} {l : List Int} (hno : ∀ j, j < l.length → l[j]? ≠ some x) : nxF x l = l.length := by
  have h1 := nxF_le x l
  rcases Nat.lt_or_ge (nxF x l) l.length with h | h
  · exact absurd (nxF_at h) (hno _ h)
  · omega
/-- The place of the next run of the one at i. -/
def nextP (ps : List Int) (i : Nat) (x : Int) : Nat := i + 1 + nxF x (ps.drop (i + 1))
theorem nextP_le {ps : List Int} {i : Nat} {x : Int} (h : i < ps.length) : nextP ps i x ≤ ps.length := by
  have h1 := nxF_le x (ps.drop (i + 1))
  rw [List.length_drop] at h1
  unfold nextP
  omega
theorem nextP_gt (ps : List Int) (i : Nat) (x : Int) : i < nextP ps i x := by unfold nextP; omega
theorem nextP_at {ps : List Int} {i : Nat} {x : Int} (h : nextP ps i x < ps.length) : ps[nextP ps i x]? = some x := by
  unfold nextP at h ⊢
  have := nxF_at (x := x) (l := ps.drop (i + 1)) (by rw [List.length_drop]; omega)
  rw [List.getElem?_drop] at this
  exact this
theorem nextP_ahead {ps : List Int} {i : Nat} {x : Int} {k : Nat} (h1 : i < k) (h2 : k < nextP ps i x) : ∃ y, ps[k]? = some y ∧ y ≠ x := by
  unfold nextP at h2
  obtain ⟨y, hy, hn⟩ := nxF_ahead (x := x) (l := ps.drop (i + 1)) (k := k - (i + 1)) (by omega)
  rw [List.getElem?_drop] at hy
  exact ⟨y, by rw [← hy]; congr 1; omega, hn⟩
theorem nextP_is {ps : List Int} {i k : Nat} {x : Int} (h1 : i < k) (hk : ps[k]? = some x) (hno : ∀ j, i < j → j < k → ps[j]? ≠ some x) : nextP ps i x = k := by
  unfold nextP
  have := nxF_is (x := x) (l := ps.drop (i + 1)) (k := k - (i + 1)) (by rw [List.getElem?_drop, ← hk]; congr 1; omega) (fun j hj => by
    rw [List.getElem?_drop]
    exact hno _ (by omega) (by omega))
  omega
theorem nextP_end {ps : List Int} {i : Nat} {x : Int} (h : i < ps.length) (hno : ∀ j, i < j → j < ps.length → ps[j]? ≠ some x) : nextP ps i x = ps.length := by
  unfold nextP
  have := nxF_end (x := x) (l := ps.drop (i + 1)) (fun j hj => by
    rw [List.length_drop] at hj
    rw [List.getElem?_drop]
    exact hno _ (by omega) (by omega))
  rw [List.length_drop] at this
  omega
theorem mem_between {ps : List Int} {i j : Nat} {y : Int} : y ∈ (ps.drop (i + 1)).take (j - (i + 1)) ↔ ∃ k, i < k ∧ k < j ∧ ps[k]? = some y := by
  constructor
  · intro h
    obtain ⟨k, hk⟩ := List.mem_iff_getElem?.1 h
    rw [List.getElem?_take] at hk
    split at hk
    · rename_i hkj
      rw [List.getElem?_drop] at hk
      exact ⟨i + 1 + k, by omega, by omega, hk⟩
    · cases hk
  · rintro ⟨k, h1, h2, h3⟩
    refine List.mem_iff_getElem?.2 ⟨k - (i + 1), ?_⟩
    rw [List.getElem?_take, if_pos (by omega), List.getElem?_drop, ← h3]
    congr 1
    omega
/-- Two that may be moved are next to each other of their partition. -/
theorem mayP_next {D : Int → Int → Bool} {ps : List Int} {i j : Nat} {x : Int} (hx : ps[i]? = some x) (h : mayP D ps i j = true) : nextP ps i x = j := by
  unfold mayP at h
  rw [hx] at h
  split at h
  · rename_i u v hu hv
    injection hu with hu
    subst hu
    simp only [Bool.and_eq_true, decide_eq_true_eq, Bool.not_eq_true'] at h
    refine nextP_is h.1 (by rw [hv, h.2.1]) fun k h1 h2 e => ?_
    have := List.any_eq_false.1 h.2.2 x (mem_between.2 ⟨k, h1, h2, e⟩)
    exact this (by unfold wayP; rw [decide_eq_true rfl]; rfl)
  · cases h
/-- What may be moved, where the places are mates: none between is depended on. -/
theorem mayP_mates {D : Int → Int → Bool} {ps : List Int} {i j : Nat} {x : Int} (hx : ps[i]? = some x) (hij : i < j) (hj : j < ps.length) (hn : nextP ps i x = j) :
    mayP D ps i j = !((ps.drop (i + 1)).take (j - (i + 1))).any (wayP D x) := by
  have hy := nextP_at (ps := ps) (i := i) (x := x) (by omega)
  rw [hn] at hy
  unfold mayP
  rw [hx, hy]
  simp [hij]
theorem mayP_not {D : Int → Int → Bool} {ps : List Int} {i j : Nat} {x : Int} (hx : ps[i]? = some x) (hn : nextP ps i x ≠ j) : mayP D ps i j = false := by
  cases h : mayP D ps i j with
  | false => rfl
  | true => exact absurd (mayP_next hx h) hn
theorem wayP_ne {D : Int → Int → Bool} {x y : Int} (h : y ≠ x) : wayP D x y = (decide (x ≠ -1) && (decide (y ≠ -1) && D x y)) := by
  unfold wayP
  rw [decide_eq_false h, Bool.false_or]
/-- Does a square say so, of any numbers? -/
def sayZ (n : Nat) (m : Nat → Nat → Bool) (a b : Int) : Bool := inP n a && (inP n b && m a.toNat b.toNat)
def tieZ (n : Nat) (m : Nat → Nat → Bool) (a b : Int) : Bool := sayZ n m a b || sayZ n m b a
theorem tieZ_way {n : Nat} {m : Nat → Nat → Bool} {x y : Int} (h : y ≠ x) : tieZ n m x y = wayP (depW n m) x y := by
  rw [wayP_ne h]
  unfold tieZ sayZ depW
  rw [decide_eq_false (show ¬ x = y from fun e => h e.symm), Bool.false_or]
  cases h1 : inP n x with
  | false => cases inP n y <;> simp
  | true =>
    cases h2 : inP n y with
    | false => simp
    | true =>
      rw [inP_iff] at h1 h2
      rw [decide_eq_true (show x ≠ -1 by omega), decide_eq_true (show y ≠ -1 by omega)]
      simp
/-- Places that are two of the row, rising. -/
def plcZ (n : Nat) (I J : Int) : Bool := decide (0 ≤ I) && (decide (I < J) && decide (J < (n : Int)))
set_option maxRecDepth 100000 in
set_option maxHeartbeats 1600000 in
theorem mplc_any (A : Option Addr) (n c : Nat) (I J : Int) (rt : Bool) (w : World) :
    Calls Try.prog 39 #[.slice A n c, .agg #[.int .i64 I, .int .i64 J, .bool rt]] w (Ans (.bool (plcZ n I J)) w) := by
  go_enter Try.func39, Try.ntmps39
  go_wp2
  all_goals
    go_ret
    refine Ans.mk (congrArg Value.bool ?_) (bl1 _ _)
    unfold plcZ
    rw [Bool.eq_iff_iff]
    simp only [decide_eq_true_eq, Bool.and_eq_true, Bool.false_eq_true, iff_false, false_iff] at *
    omega
set_option maxRecDepth 100000 in
set_option maxHeartbeats 1600000 in
theorem msays_any (A : Option Addr) (n c : Nat) (m : Nat → Nat → Bool) (a b : Int) (w : World) (h : RdM w w.heap.size A n (fun _ => n) m) (hn : n ≤ 1024) :
    Calls Try.prog 58 #[.slice A n c, .int .i64 a, .int .i64 b] w (fun e w' => e = .returned (.bool (sayZ n m a b)) ∧ w' = w) := by
  have HV : Hid (∀ v, v = sayZ n m a b → Ending.returned (Value.bool v) = .returned (.bool (sayZ n m a b))) := Lib.hid fun v e => by rw [e]
  have hd : sayZ n m a b = (inP n a && (inP n b && m a.toNat b.toNat)) := rfl
  generalize sayZ n m a b = v at HV hd ⊢
  by_cases ha0 : 0 ≤ a
  · obtain ⟨x, rfl⟩ : ∃ x : Nat, a = x := ⟨a.toNat, by omega⟩
    by_cases hb0 : 0 ≤ b
    · obtain ⟨y, rfl⟩ : ∃ y : Nat, b = y := ⟨b.toNat, by omega⟩
      have hb0d : decide ((y : Int) ≥ 0) = true := decide_eq_true hb0
      by_cases han : x < n
      · have hani : (x : Int) < (n : Int) := by omega
        obtain ⟨ad, R, c1, rfl, had, p0, _, hr0⟩ := h.at_ han
        by_cases hbn : y < n
        · have hbni : (y : Int) < (n : Int) := by omega
          have e1 : inP n (x : Int) = true := inP_iff.2 ⟨by omega, by omega⟩
          have e2 : inP n (y : Int) = true := inP_iff.2 ⟨by omega, by omega⟩
          rw [e1, e2, Bool.true_and, Bool.true_and, show (x : Int).toNat = x from rfl, show (y : Int).toNat = y from rfl] at hd
          obtain ⟨ar, rfl, _, u0⟩ := hr0.at_ hbn
          have HD := Lib.hid hd
          clear hr0 h hd e1 e2
          go_enter Try.func58, Try.ntmps58
          generalize m x y = v0 at u0 HD
          go_wp2_with fail
          go_ret
          exact ⟨HV.out _ HD.out.symm, rfl⟩
        · have hbni : ¬ (y : Int) < (n : Int) := by omega
          have e2 : inP n (y : Int) = false := by rw [Bool.eq_false_iff]; intro e; rw [inP_iff] at e; omega
          rw [e2, Bool.false_and, Bool.and_false] at hd
          have HD := Lib.hid hd
          clear hr0 h hd e2
          go_enter Try.func58, Try.ntmps58
          go_wp2_with fail
          go_ret
          exact ⟨HV.out _ HD.out.symm, rfl⟩
      · have hani : ¬ (x : Int) < (n : Int) := by omega
        have e1 : inP n (x : Int) = false := by rw [Bool.eq_false_iff]; intro e; rw [inP_iff] at e; omega
        rw [e1, Bool.false_and] at hd
        have HD := Lib.hid hd
        clear h hd e1
        go_enter Try.func58, Try.ntmps58
        go_wp2_with fail
        go_ret
        exact ⟨HV.out _ HD.out.symm, rfl⟩
    · have hb0d : decide (0 ≤ b) = false := decide_eq_false hb0
      have e2 : inP n b = false := by rw [Bool.eq_false_iff]; intro e; rw [inP_iff] at e; omega
      rw [e2, Bool.false_and, Bool.and_false] at hd
      have HD := Lib.hid hd
      clear hd e2
      by_cases han : x < n
      · have hani : (x : Int) < (n : Int) := by omega
        clear h
        go_enter Try.func58, Try.ntmps58
        go_wp2_with fail
        go_ret
        exact ⟨HV.out _ HD.out.symm, rfl⟩
      · have hani : ¬ (x : Int) < (n : Int) := by omega
        clear h
        go_enter Try.func58, Try.ntmps58
        go_wp2_with fail
        go_ret
        exact ⟨HV.out _ HD.out.symm, rfl⟩
  · have ha0d : decide (0 ≤ a) = false := decide_eq_false ha0
    have e1 : inP n a = false := by rw [Bool.eq_false_iff]; intro e; rw [inP_iff] at e; omega
    rw [e1, Bool.false_and] at hd
    have HD := Lib.hid hd
    clear h hd e1
    go_enter Try.func58, Try.ntmps58
    go_wp2_with fail
    go_ret
    exact ⟨HV.out _ HD.out.symm, rfl⟩
set_option maxRecDepth 100000 in
set_option maxHeartbeats 1600000 in
theorem mdep_any (A : Option Addr) (n c : Nat) (m : Nat → Nat → Bool) (a b : Int) (w : World) (h : RdM w w.heap.size A n (fun _ => n) m) (hn : n ≤ 1024) :
    Calls Try.prog 43 #[.slice A n c, .int .i64 a, .int .i64 b] w (fun e w' => e = .returned (.bool (tieZ n m a b)) ∧ w' = w) := by
  have hd : tieZ n m a b = (sayZ n m a b || sayZ n m b a) := rfl
  have S1 := Lib.hid (msays_any A n c m a b w h hn)
  have S2 := Lib.hid (msays_any A n c m b a w h hn)
  generalize tieZ n m a b = v at hd ⊢
  generalize sayZ n m a b = s1 at hd S1
  generalize sayZ n m b a = s2 at hd S2
  have HD := Lib.hid hd
  clear hd h
  go_enter Try.func43, Try.ntmps43
  cases s1 with
  | true =>
    go_wp2_with fail
    refine S1.out.mono ?_
    rintro e w1 ⟨rfl, rfl⟩
    go_wp2_with fail
    go_ret
    exact ⟨by rw [HD.out]; rfl, rfl⟩
  | false =>
    go_wp2_with fail
    refine S1.out.mono ?_
    rintro e w1 ⟨rfl, rfl⟩
    go_wp2_with fail
    refine S2.out.mono ?_
    rintro e w2 ⟨rfl, rfl⟩
    go_wp2_with fail
    go_ret
    exact ⟨by rw [HD.out]; rfl, rfl⟩
end Go.Proofs.Ytoaocdmcjjohgaa

/- Package move: the next run of a partition; may a move be made? -/
namespace Go.Proofs.Ytoaocdmcjjohgaa
open Go.RowKit Tab
set_option linter.unusedSimpArgs false
set_option linter.unusedVariables false

set_option maxRecDepth 100000 in
set_option maxHeartbeats 1600000 in
theorem mnext_any (A : Option Addr) (n c : Nat) (ps : List Int) (i : Nat) (x : Int) (w : World) (h : RdP w w.heap.size A n ps) (hx : ps[i]? = some x) (hn : n ≤ 1048576) :
    Calls Try.prog 38 #[.slice A n c, .int .i64 (i : Int)] w (Ans (.int .i64 (nextP ps i x : Nat)) w) := by
  have hlen := h.len
  have hi : i < n := by have := (List.getElem?_eq_some_iff.1 hx).1; omega
  have hle := nextP_le (ps := ps) (x := x) (i := i) (by omega)
  have hgt := nextP_gt ps i x
  have HAT := Lib.hid (nextP_at (ps := ps) (i := i) (x := x))
  have HAH : Hid (∀ k, i < k → k < nextP ps i x → ∃ y, ps[k]? = some y ∧ y ≠ x) := Lib.hid fun k => nextP_ahead
  have hnn : nextP ps i x ≤ n := by omega
  rw [hlen] at HAT
  have HP := Lib.hid h
  have HX := Lib.hid hx
  generalize nextP ps i x = t at HAT HAH hgt hnn ⊢
  clear h hlen hle hx
  have hw1 : IntKind.i64.wrap ((i : Int) + 1) = (i : Int) + 1 := IntWalk.i64_in _ (by omega)
  go_enter Try.func38, Try.ntmps38
  go_wp2_with fail
  go_loopw [5] (fun s wr => ∃ j : Nat, i < j ∧ j ≤ t ∧ s = .int .i64 j ∧ Below w.heap.size w wr) (fun s _ => n - (intOf s).toNat)
  case atStart => exact ⟨i + 1, by omega, by omega, by go_num, Below.refl _ _⟩
  case round =>
    obtain ⟨j, hij, hjt, rfl, hb⟩ := hrel
    have HB := Lib.hid hb
    by_cases hjn : j < n
    · have hjni : (j : Int) < (n : Int) := by omega
      obtain ⟨ad, y, z, rfl, had, hy, c0, _⟩ := (HP.out.on hb).at_ j hjn
      obtain ⟨ad', x', z', ea, _, hx', d0, _⟩ := (HP.out.on hb).at_ i hi
      injection ea with ea
      subst ea
      rw [HX.out] at hx'
      injection hx' with hx'
      subst hx'
      have hin : (i : Int) < (n : Int) := by omega
      have hw2 : IntKind.i64.wrap ((j : Int) + 1) = (j : Int) + 1 := IntWalk.i64_in _ (by omega)
      by_cases hyx : y = x
      · have e1 : (y != x) = false := by rw [hyx]; exact bne_self_eq_false x
        obtain rfl : t = j := by
          rcases Nat.lt_or_ge j t with h1 | h1
          · obtain ⟨u, hu, hn⟩ := HAH.out j hij h1
            rw [hy] at hu
            injection hu with hu
            exact absurd (hu.symm.trans hyx) hn
          · omega
        clear hb hy hyx
        go_wp2_with fail
        go_quiet (fail)
        go_wp2_with fail
        go_ret
        exact Ans.mk rfl (Below.drewN HB.out nq)
      · have e1 : (y != x) = true := bne_iff_ne.2 hyx
        have hjt' : j < t := by
          rcases Nat.lt_or_ge j t with h1 | h1
          · exact h1
          · obtain rfl : j = t := by omega
            have := HAT.out hjn
            rw [hy] at this
            injection this with this
            exact absurd this hyx
        clear hb hy hyx
        go_wp2_with fail
        go_quiet (fail)
        go_wp2_with fail
        go_roundw
        case rel => exact ⟨j + 1, by omega, by omega, by go_num, Below.drewN HB.out nq⟩
        case measure => simp [intOf]; omega
    · have hjni : ¬ (j : Int) < (n : Int) := by omega
      obtain rfl : t = j := by omega
      clear hb
      go_wp2_with fail
      go_quiet (fail)
      go_wp2_with fail
      go_ret
      exact Ans.mk rfl (Below.drewN HB.out nq)
/-- Two places, both of one Part, of which is no run between. -/
def matZ (ps : List Int) (I J : Int) : Bool := plcZ ps.length I J && decide ((nextP ps I.toNat (ps.getD I.toNat 0) : Int) = J)
set_option maxRecDepth 100000 in
set_option maxHeartbeats 1600000 in
theorem mates_any (A : Option Addr) (n c : Nat) (ps : List Int) (I J : Int) (rt : Bool) (w : World) (h : RdP w w.heap.size A n ps) (hn : n ≤ 1048576) :
    Calls Try.prog 42 #[.slice A n c, .agg #[.int .i64 I, .int .i64 J, .bool rt]] w (Ans (.bool (matZ ps I J)) w) := by
  have hb0 := bl1 w (.cells #[.int .i64 I, .int .i64 J, .bool rt] 37)
  have f0 : (w.alloc (.cells #[.int .i64 I, .int .i64 J, .bool rt] 37)).cell? ⟨w.heap.size, 0, none⟩ = some (.int .i64 I) := World.cell?_alloc_mark _ _ _ _ _
  have f1 : (w.alloc (.cells #[.int .i64 I, .int .i64 J, .bool rt] 37)).cell? ⟨w.heap.size, 1, none⟩ = some (.int .i64 J) := World.cell?_alloc_mark _ _ _ _ _
  have f2 : (w.alloc (.cells #[.int .i64 I, .int .i64 J, .bool rt] 37)).cell? ⟨w.heap.size, 2, none⟩ = some (.bool rt) := World.cell?_alloc_mark _ _ _ _ _
  have hP0 := h.on hb0
  have hlen := h.len
  have HV : Hid (matZ ps I J = (plcZ n I J && decide ((nextP ps I.toNat (ps.getD I.toNat 0) : Int) = J))) := Lib.hid (by unfold matZ; rw [hlen])
  generalize matZ ps I J = v at HV ⊢
  have HPL := Lib.hid fun w' => mplc_any A n c I J rt w'
  have HLN := Lib.hid hlen
  have HB0 := Lib.hid hb0
  have HP := Lib.hid hP0
  clear h hlen hb0 hP0
  go_enter Try.func42, Try.ntmps42
  go_upto_region 1 with fail
  have hgs : w.heap.size < (w.alloc (.cells #[.int .i64 I, .int .i64 J, .bool rt] 37)).heap.size := by simp
  generalize w.alloc (.cells #[.int .i64 I, .int .i64 J, .bool rt] 37) = W at HB0 f0 f1 f2 HP hgs ⊢
  generalize w.heap.size = gm at f0 f1 f2 hgs ⊢
  cases hp : plcZ n I J with
  | false =>
    rw [hp] at HPL
    have e : v = false := by rw [HV.out, hp]; rfl
    subst e
    clear hp
    go_wp2_with fail
    refine Rgs.region (by kernel_rfl) (by kernel_rfl) (fun (opn : Nat) (vl : Value) (_ : World) => match opn with | 0 => vl = .slice A n c | 1 => vl = .agg #[.int .i64 I, .int .i64 J, .bool rt] | 2 => vl = .bool false | 3 => vl = .bool false | 4 => vl = undef | 5 => vl = undef | 6 => vl = undef | 7 => vl = undef | 8 => vl = undef | 9 => vl = undef | 10 => vl = undef | 11 => vl = .bool false | 12 => vl = .bool false | _ => True) (fun _ _ w' => Below W.heap.size W w') (Below.refl _ _).drew (Rgs.steps_of ?_) ?_
    · refine ⟨?_, ?_, ?_, ?_, ?_, ?_, ?_, ?_, ?_, ?_, ?_, ?_, ?_, trivial⟩
      · intro a w1 live S E D C h0 hk hW
        have e0 : a.eval (.tmp 0) = .slice A n c := E 0 rfl
        exact Rgs.val rfl (Reg.wanted_free rfl) (.slice A n c) (by have c := Reg.consts a; generalize a.eval = ρ at *; simp [execOp, go_sem, c.1, c.2, e0]) rfl hW
      · intro a w1 live S E D C h0 hk hW
        have e3 : a.eval (.tmp 3) = .pointer (some ⟨gm, 0, none⟩) := E 3 rfl
        have hc0 := (hW.cell (p := ⟨gm, 0, none⟩) (World.block_lt_of_cell? _ _ f0)).trans f0
        have hc1 := (hW.cell (p := ⟨gm, 1, none⟩) (World.block_lt_of_cell? _ _ f1)).trans f1
        have hc2 := (hW.cell (p := ⟨gm, 2, none⟩) (World.block_lt_of_cell? _ _ f2)).trans f2
        exact Rgs.val rfl (Reg.wanted_free rfl) (.agg #[.int .i64 I, .int .i64 J, .bool rt]) (by have c := Reg.consts a; generalize a.eval = ρ at *; simp [execOp, go_sem, c.1, c.2, e3, hc0, hc1, hc2]) rfl hW
      · intro a w1 live S E D C h0 hk hW
        have d0 : a.eval (.tmp 5) = .slice A n c := D 0 rfl _ _ rfl rfl
        have d1 : a.eval (.tmp 6) = .agg #[.int .i64 I, .int .i64 J, .bool rt] := D 1 rfl _ _ rfl rfl
        refine Rgs.call rfl (Reg.wanted_free rfl) 39 #[.slice A n c, .agg #[.int .i64 I, .int .i64 J, .bool rt]] (by have c := Reg.consts a; generalize a.eval = ρ at *; simp [execOp, go_sem, c.1, c.2, d0, d1]) ?_
        refine (HPL.out w1).mono ?_
        rintro e w5 ⟨rfl, hb5⟩
        exact ⟨_, rfl, rfl, hW.trans (hb5.mono hW.size), fun j v _ h => h⟩
      · intro a w1 live S E D C h0 hk hW
        have d2 : a.eval (.tmp 7) = .bool false := D 2 rfl _ _ rfl rfl
        exact Rgs.val rfl (Reg.wanted_free rfl) (.bool false) (by have c := Reg.consts a; generalize a.eval = ρ at *; simp [execOp, go_sem, c.1, c.2, d2]) rfl hW
      · intro a w1 live S E D C h0 hk hW
        have dg : a.eval (.tmp 8) = .bool false := D 3 rfl _ _ rfl rfl
        exact Rgs.skip rfl (Rgs.wanted_not rfl rfl dg rfl) rfl hW
      · intro a w1 live S E D C h0 hk hW
        have dg : a.eval (.tmp 8) = .bool false := D 3 rfl _ _ rfl rfl
        exact Rgs.skip rfl (Rgs.wanted_not rfl rfl dg rfl) rfl hW
      · intro a w1 live S E D C h0 hk hW
        have dg : a.eval (.tmp 8) = .bool false := D 3 rfl _ _ rfl rfl
        exact Rgs.skip rfl (Rgs.wanted_not rfl rfl dg rfl) rfl hW
      · intro a w1 live S E D C h0 hk hW
        have dg : a.eval (.tmp 8) = .bool false := D 3 rfl _ _ rfl rfl
        exact Rgs.skip rfl (Rgs.wanted_not rfl rfl dg rfl) rfl hW
      · intro a w1 live S E D C h0 hk hW
        have dg : a.eval (.tmp 8) = .bool false := D 3 rfl _ _ rfl rfl
        exact Rgs.skip rfl (Rgs.wanted_not rfl rfl dg rfl) rfl hW
      · intro a w1 live S E D C h0 hk hW
        have dg : a.eval (.tmp 8) = .bool false := D 3 rfl _ _ rfl rfl
        exact Rgs.skip rfl (Rgs.wanted_not rfl rfl dg rfl) rfl hW
      · intro a w1 live S E D C h0 hk hW
        have dg : a.eval (.tmp 8) = .bool false := D 3 rfl _ _ rfl rfl
        exact Rgs.skip rfl (Rgs.wanted_not rfl rfl dg rfl) rfl hW
      · intro a w1 live S E D C h0 hk hW
        have d3 : a.eval (.tmp 8) = .bool false := D 3 rfl _ _ rfl rfl
        exact Rgs.val rfl (Reg.wanted_free rfl) (.bool false) (by have c := Reg.consts a; generalize a.eval = ρ at *; simp [execOp, go_sem, c.1, c.2, d3]) rfl hW
      · intro a w1 live S E D C h0 hk hW
        have d11 : a.eval (.tmp 16) = .bool false := D 11 rfl _ _ rfl rfl
        exact Rgs.val rfl (Reg.wanted_free rfl) (.bool false) (by have c := Reg.consts a; generalize a.eval = ρ at *; simp [execOp, go_sem, c.1, c.2, d11]) rfl hW
    · intro a w4 live hs hd E D Hl hW
      have e4 : a.eval (.tmp 4) = .bool false := by
        obtain ⟨v, hv, he⟩ := D 12 _ rfl
        exact (he 4 rfl).trans hv
      rw [Rgs.act_ws a _ _ hs hd E [5, 6, 7, 8, 9, 10, 11, 12, 13, 14, 15, 16, 4] (by kernel_rfl)]
      simp only [List.foldl, List.setIfInBounds_toArray, List.set_cons_succ, List.set_cons_zero, e4]
      have HB9 := Lib.hid (HB0.out.trans (Below.mono hW HB0.out.size))
      have HW9 := Lib.hid hW
      clear E D Hl hW e4 HPL f0 f1 f2
      generalize a.eval = ρ
      clear a hs hd
      go_wp2_with fail
      go_ret
      exact Ans.mk rfl HB9.out
  | true =>
    rw [hp] at HPL
    have hpp : 0 ≤ I ∧ I < J ∧ J < (n : Int) := by
      unfold plcZ at hp
      simpa using hp
    obtain ⟨i, rfl⟩ : ∃ i : Nat, I = i := ⟨I.toNat, by omega⟩
    have hin : i < ps.length := by rw [HLN.out]; omega
    have HX := Lib.hid (List.getElem?_eq_getElem hin)
    generalize ps[i] = x at HX
    have HNX := Lib.hid fun W' (hb : Below W.heap.size W W') => mnext_any A n c ps i x W' (HP.out.on hb) HX.out hn
    have hgd : ps.getD (i : Int).toNat 0 = x := by
      rw [show (i : Int).toNat = i from rfl, List.getD_eq_getElem?_getD, HX.out]
      rfl
    have e : v = decide ((nextP ps i x : Int) = J) := by rw [HV.out, hp, hgd]; rfl
    generalize nextP ps i x = t at HNX e
    have HQ : Hid (((t : Int) == J) = v) := Lib.hid (by rw [e]; rfl)
    clear hp hgd e hin
    go_wp2_with fail
    refine Rgs.region (by kernel_rfl) (by kernel_rfl) (fun (opn : Nat) (vl : Value) (_ : World) => match opn with | 0 => vl = .slice A n c | 1 => vl = .agg #[.int .i64 (i : Int), .int .i64 J, .bool rt] | 2 => vl = .bool true | 3 => vl = .bool true | 4 => vl = .slice A n c | 5 => vl = .pointer (some ⟨gm, 0, none⟩) | 6 => vl = .int .i64 (i : Int) | 7 => vl = .int .i64 (t : Int) | 8 => vl = .pointer (some ⟨gm, 1, none⟩) | 9 => vl = .int .i64 J | 10 => vl = .bool v | 11 => vl = .bool v | 12 => vl = .bool v | _ => True) (fun _ _ w' => Below W.heap.size W w') (Below.refl _ _).drew (Rgs.steps_of ?_) ?_
    · refine ⟨?_, ?_, ?_, ?_, ?_, ?_, ?_, ?_, ?_, ?_, ?_, ?_, ?_, trivial⟩
      · intro a w1 live S E D C h0 hk hW
        have e0 : a.eval (.tmp 0) = .slice A n c := E 0 rfl
        exact Rgs.val rfl (Reg.wanted_free rfl) (.slice A n c) (by have c := Reg.consts a; generalize a.eval = ρ at *; simp [execOp, go_sem, c.1, c.2, e0]) rfl hW
      · intro a w1 live S E D C h0 hk hW
        have e3 : a.eval (.tmp 3) = .pointer (some ⟨gm, 0, none⟩) := E 3 rfl
        have hc0 := (hW.cell (p := ⟨gm, 0, none⟩) (World.block_lt_of_cell? _ _ f0)).trans f0
        have hc1 := (hW.cell (p := ⟨gm, 1, none⟩) (World.block_lt_of_cell? _ _ f1)).trans f1
        have hc2 := (hW.cell (p := ⟨gm, 2, none⟩) (World.block_lt_of_cell? _ _ f2)).trans f2
        exact Rgs.val rfl (Reg.wanted_free rfl) (.agg #[.int .i64 (i : Int), .int .i64 J, .bool rt]) (by have c := Reg.consts a; generalize a.eval = ρ at *; simp [execOp, go_sem, c.1, c.2, e3, hc0, hc1, hc2]) rfl hW
      · intro a w1 live S E D C h0 hk hW
        have d0 : a.eval (.tmp 5) = .slice A n c := D 0 rfl _ _ rfl rfl
        have d1 : a.eval (.tmp 6) = .agg #[.int .i64 (i : Int), .int .i64 J, .bool rt] := D 1 rfl _ _ rfl rfl
        refine Rgs.call rfl (Reg.wanted_free rfl) 39 #[.slice A n c, .agg #[.int .i64 (i : Int), .int .i64 J, .bool rt]] (by have c := Reg.consts a; generalize a.eval = ρ at *; simp [execOp, go_sem, c.1, c.2, d0, d1]) ?_
        refine (HPL.out w1).mono ?_
        rintro e w5 ⟨rfl, hb5⟩
        exact ⟨_, rfl, rfl, hW.trans (hb5.mono hW.size), fun j v _ h => h⟩
      · intro a w1 live S E D C h0 hk hW
        have d2 : a.eval (.tmp 7) = .bool true := D 2 rfl _ _ rfl rfl
        exact Rgs.val rfl (Reg.wanted_free rfl) (.bool true) (by have c := Reg.consts a; generalize a.eval = ρ at *; simp [execOp, go_sem, c.1, c.2, d2]) rfl hW
      · intro a w1 live S E D C h0 hk hW
        have dg : a.eval (.tmp 8) = .bool true := D 3 rfl _ _ rfl rfl
        have e0 : a.eval (.tmp 0) = .slice A n c := E 0 rfl
        exact Rgs.val rfl (Reg.wanted_if rfl rfl dg rfl) (.slice A n c) (by have c := Reg.consts a; generalize a.eval = ρ at *; simp [execOp, go_sem, c.1, c.2, e0]) rfl hW
      · intro a w1 live S E D C h0 hk hW
        have dg : a.eval (.tmp 8) = .bool true := D 3 rfl _ _ rfl rfl
        have e3 : a.eval (.tmp 3) = .pointer (some ⟨gm, 0, none⟩) := E 3 rfl
        exact Rgs.val rfl (Reg.wanted_if rfl rfl dg rfl) (.pointer (some ⟨gm, 0, none⟩)) (by have c := Reg.consts a; generalize a.eval = ρ at *; simp [execOp, go_sem, c.1, c.2, e3]) rfl hW
      · intro a w1 live S E D C h0 hk hW
        have dg : a.eval (.tmp 8) = .bool true := D 3 rfl _ _ rfl rfl
        have d5 : a.eval (.tmp 10) = .pointer (some ⟨gm, 0, none⟩) := D 5 rfl _ _ rfl rfl
        have hc0 := (hW.cell (p := ⟨gm, 0, none⟩) (World.block_lt_of_cell? _ _ f0)).trans f0
        have hc1 := (hW.cell (p := ⟨gm, 1, none⟩) (World.block_lt_of_cell? _ _ f1)).trans f1
        have hc2 := (hW.cell (p := ⟨gm, 2, none⟩) (World.block_lt_of_cell? _ _ f2)).trans f2
        exact Rgs.val rfl (Reg.wanted_if rfl rfl dg rfl) (.int .i64 (i : Int)) (by have c := Reg.consts a; generalize a.eval = ρ at *; simp [execOp, go_sem, c.1, c.2, d5, hc0, hc1, hc2]) rfl hW
      · intro a w1 live S E D C h0 hk hW
        have dg : a.eval (.tmp 8) = .bool true := D 3 rfl _ _ rfl rfl
        have d4 : a.eval (.tmp 9) = .slice A n c := D 4 rfl _ _ rfl rfl
        have d6 : a.eval (.tmp 11) = .int .i64 (i : Int) := D 6 rfl _ _ rfl rfl
        refine Rgs.call rfl (Reg.wanted_if rfl rfl dg rfl) 38 #[.slice A n c, .int .i64 (i : Int)] (by have c := Reg.consts a; generalize a.eval = ρ at *; simp [execOp, go_sem, c.1, c.2, d4, d6]) ?_
        refine (HNX.out w1 hW).mono ?_
        rintro e w5 ⟨rfl, hb5⟩
        exact ⟨_, rfl, rfl, hW.trans (hb5.mono hW.size), fun j v _ h => h⟩
      · intro a w1 live S E D C h0 hk hW
        have dg : a.eval (.tmp 8) = .bool true := D 3 rfl _ _ rfl rfl
        have e3 : a.eval (.tmp 3) = .pointer (some ⟨gm, 0, none⟩) := E 3 rfl
        exact Rgs.val rfl (Reg.wanted_if rfl rfl dg rfl) (.pointer (some ⟨gm, 1, none⟩)) (by have c := Reg.consts a; generalize a.eval = ρ at *; simp [execOp, go_sem, c.1, c.2, e3]) rfl hW
      · intro a w1 live S E D C h0 hk hW
        have dg : a.eval (.tmp 8) = .bool true := D 3 rfl _ _ rfl rfl
        have d8 : a.eval (.tmp 13) = .pointer (some ⟨gm, 1, none⟩) := D 8 rfl _ _ rfl rfl
        have hc0 := (hW.cell (p := ⟨gm, 1, none⟩) (World.block_lt_of_cell? _ _ f1)).trans f1
        exact Rgs.val rfl (Reg.wanted_if rfl rfl dg rfl) (.int .i64 J) (by have c := Reg.consts a; generalize a.eval = ρ at *; simp [execOp, go_sem, c.1, c.2, d8, hc0]) rfl hW
      · intro a w1 live S E D C h0 hk hW
        have dg : a.eval (.tmp 8) = .bool true := D 3 rfl _ _ rfl rfl
        have d7 : a.eval (.tmp 12) = .int .i64 (t : Int) := D 7 rfl _ _ rfl rfl
        have d9 : a.eval (.tmp 14) = .int .i64 J := D 9 rfl _ _ rfl rfl
        have hq := HQ.out
        exact Rgs.val rfl (Reg.wanted_if rfl rfl dg rfl) (.bool v) (by have c := Reg.consts a; generalize a.eval = ρ at *; simp [execOp, go_sem, c.1, c.2, d7, d9, hq]) rfl hW
      · intro a w1 live S E D C h0 hk hW
        have d3 : a.eval (.tmp 8) = .bool true := D 3 rfl _ _ rfl rfl
        have d10 : a.eval (.tmp 15) = .bool v := D 10 rfl _ _ rfl rfl
        exact Rgs.val rfl (Reg.wanted_free rfl) (.bool v) (by have c := Reg.consts a; generalize a.eval = ρ at *; simp [execOp, go_sem, c.1, c.2, d3, d10]) rfl hW
      · intro a w1 live S E D C h0 hk hW
        have d11 : a.eval (.tmp 16) = .bool v := D 11 rfl _ _ rfl rfl
        exact Rgs.val rfl (Reg.wanted_free rfl) (.bool v) (by have c := Reg.consts a; generalize a.eval = ρ at *; simp [execOp, go_sem, c.1, c.2, d11]) rfl hW
    · intro a w4 live hs hd E D Hl hW
      have e4 : a.eval (.tmp 4) = .bool v := by
        obtain ⟨v, hv, he⟩ := D 12 _ rfl
        exact (he 4 rfl).trans hv
      rw [Rgs.act_ws a _ _ hs hd E [5, 6, 7, 8, 9, 10, 11, 12, 13, 14, 15, 16, 4] (by kernel_rfl)]
      simp only [List.foldl, List.setIfInBounds_toArray, List.set_cons_succ, List.set_cons_zero, e4]
      have HB9 := Lib.hid (HB0.out.trans (Below.mono hW HB0.out.size))
      have HW9 := Lib.hid hW
      clear E D Hl hW e4 HPL f0 f1 f2 HNX
      generalize a.eval = ρ
      clear a hs hd
      go_wp2_with fail
      go_ret
      exact Ans.mk rfl HB9.out
end Go.Proofs.Ytoaocdmcjjohgaa

/- Package move: which runs may be moved. -/
namespace Go.Proofs.Ytoaocdmcjjohgaa
open Go.RowKit Tab
set_option linter.unusedSimpArgs false
set_option linter.unusedVariables false

theorem matZ_len {ps : List Int} {n : Nat} (h : ps.length = n) {I J : Int} (hp : matZ ps I J = true) : 0 ≤ I ∧ I < J ∧ J < (n : Int) ∧ (nextP ps I.toNat (ps.getD I.toNat 0) : Int) = J := by
  unfold matZ plcZ at hp
  rw [h] at hp
  simp only [Bool.and_eq_true, decide_eq_true_eq] at hp
  exact ⟨hp.1.1, hp.1.2.1, hp.1.2.2, hp.2⟩
theorem getD_at {ps : List Int} {i : Nat} {x : Int} (h : ps[i]? = some x) : ps.getD i 0 = x := by
  rw [List.getD_eq_getElem?_getD, h]
  rfl
theorem mayZ_no {D : Int → Int → Bool} {ps : List Int} {I J : Int} (h : matZ ps I J = false) : mayZ D ps I J = false := by
  cases hm : mayZ D ps I J with
  | false => rfl
  | true =>
    exfalso
    unfold mayZ at hm
    simp only [Bool.and_eq_true, decide_eq_true_eq] at hm
    obtain ⟨h1, h2, h3, h4⟩ := hm
    have hi : I.toNat < ps.length := by omega
    have hx := List.getElem?_eq_getElem hi
    have h5 := mayP_next hx h4
    unfold matZ plcZ at h
    rw [getD_at hx, h5, decide_eq_true h1, decide_eq_true h2, decide_eq_true h3] at h
    simp at h
    omega
theorem mayZ_yes {D : Int → Int → Bool} {ps : List Int} {i j : Nat} {x : Int} (hx : ps[i]? = some x) (h : matZ ps (i : Int) (j : Int) = true) :
    mayZ D ps (i : Int) (j : Int) = !((ps.drop (i + 1)).take (j - (i + 1))).any (wayP D x) := by
  obtain ⟨h1, h2, h3, h4⟩ := matZ_len rfl h
  rw [show (i : Int).toNat = i from rfl, getD_at hx] at h4
  rw [mayZ_nat D (by omega) (by omega)]
  exact mayP_mates hx (by omega) (by omega) (by omega)
/-- None between mates is of their partition. -/
theorem mid_ne {ps : List Int} {i j : Nat} {x : Int} (hx : ps[i]? = some x) (h : matZ ps (i : Int) (j : Int) = true) : ∀ y ∈ (ps.drop (i + 1)).take (j - (i + 1)), y ≠ x := by
  obtain ⟨h1, h2, h3, h4⟩ := matZ_len rfl h
  rw [show (i : Int).toNat = i from rfl, getD_at hx] at h4
  intro y hy
  obtain ⟨k, k1, k2, k3⟩ := mem_between.1 hy
  obtain ⟨z, hz, hn⟩ := nextP_ahead (ps := ps) (i := i) (x := x) k1 (by omega)
  rw [hz] at k3
  injection k3 with k3
  exact k3 ▸ hn
set_option maxRecDepth 100000 in
set_option maxHeartbeats 4000000 in
theorem may_any (A A3 : Option Addr) (n c n3 c3 : Nat) (ps : List Int) (m : Nat → Nat → Bool) (I J : Int) (rt : Bool) (w : World) (h : RdP w w.heap.size A n ps) (hM : RdM w w.heap.size A3 n3 (fun _ => n3) m)
    (hc : n ≤ c) (hn : n ≤ 1048576) (h3 : n3 ≤ 1024) :
    Calls Try.prog 20 #[.slice A n c, .slice A3 n3 c3, .agg #[.int .i64 I, .int .i64 J, .bool rt]] w (Ans (.bool (mayZ (depW n3 m) ps I J)) w) := by
  have hb0 := bl1 w (.cells #[.int .i64 I, .int .i64 J, .bool rt] 37)
  have hv0 : Vec (w.alloc (.cells #[.int .i64 I, .int .i64 J, .bool rt] 37)) w.heap.size 3 (fun q => if q = 0 then .int .i64 I else if q = 1 then .int .i64 J else .bool rt) := Vec.lit w _ _ 3 _ fun q hq => by
    rcases (by omega : q = 0 ∨ q = 1 ∨ q = 2) with rfl | rfl | rfl <;> rfl
  have hP0 := h.on hb0
  have hM0 := hM.on hb0
  have HLN := Lib.hid h.len
  obtain ⟨v, hv⟩ : ∃ v, v = mayZ (depW n3 m) ps I J := ⟨_, rfl⟩
  rw [← hv]
  have HV := Lib.hid hv
  have HB0 := Lib.hid hb0
  have HP := Lib.hid hP0
  have HM := Lib.hid hM0
  clear hv h hM hb0 hP0 hM0
  go_enter Try.func20, Try.ntmps20
  go_upto_region 1 with fail
  generalize w.alloc (.cells #[.int .i64 I, .int .i64 J, .bool rt] 37) = W at HB0 hv0 HP HM ⊢
  obtain ⟨gm, hgm⟩ : ∃ gm, gm = w.heap.size := ⟨_, rfl⟩
  rw [← hgm] at hv0 ⊢
  clear hgm
  have HVC := Lib.hid hv0
  obtain ⟨f0, f1, f2⟩ := hv0.three
  clear hv0
  have HMT := Lib.hid (mates_any A n c ps I J rt W HP.out hn)
  cases hp : matZ ps I J with
  | false =>
    rw [hp] at HMT
    have e : v = false := by rw [HV.out, mayZ_no hp]
    subst e
    clear hp
    go_wp2_with fail
    refine HMT.out.mono ?_
    rintro e w5 ⟨rfl, hb5⟩
    have HB5 := Lib.hid (HB0.out.trans (hb5.mono HB0.out.size))
    clear hb5 HMT f0 f1 f2
    go_wp2_with fail
    go_ret
    exact Ans.mk rfl HB5.out
  | true =>
    rw [hp] at HMT
    obtain ⟨hI, hIJ, hJn, hnx⟩ := matZ_len HLN.out hp
    obtain ⟨i, rfl⟩ : ∃ i : Nat, I = i := ⟨I.toNat, by omega⟩
    obtain ⟨j, rfl⟩ : ∃ j : Nat, J = j := ⟨J.toNat, by omega⟩
    have hij : i < j := by omega
    have hjn : j < n := by omega
    obtain ⟨x, hx⟩ : ∃ x, ps[i]? = some x := ⟨_, List.getElem?_eq_getElem (by have := HLN.out; omega)⟩
    have hvv : v = !((ps.drop (i + 1)).take (j - (i + 1))).any (wayP (depW n3 m) x) := by rw [HV.out]; exact mayZ_yes hx hp
    have hne := mid_ne hx hp
    have HX := Lib.hid hx
    clear hnx hp hx HV
    go_wp2_with fail
    refine HMT.out.mono ?_
    rintro e wm ⟨rfl, hbm⟩
    have hgw := (HVC.out.on hbm)
    have HVW := Lib.hid hgw
    have HPm := Lib.hid (HP.out.on hbm)
    have HMm := Lib.hid (HM.out.on hbm)
    have HBm := Lib.hid (HB0.out.trans (hbm.mono HB0.out.size))
    clear hbm HMT f0 f1 f2 hgw HVC HP HM HB0
    obtain ⟨f0, f1, f2⟩ := HVW.out.three
    obtain ⟨ad, x', z', rfl, had, hx', _, _⟩ := HPm.out.at_ i (by omega)
    clear had hx'
    have hw1 : IntKind.i64.wrap ((i : Int) + 1) = (i : Int) + 1 := IntWalk.i64_in _ (by omega)
    obtain ⟨d, hd⟩ : ∃ d, j - (i + 1) = d := ⟨_, rfl⟩
    obtain ⟨Q, hQ⟩ : ∃ Q, Q = (ps.drop (i + 1)).take d := ⟨_, rfl⟩
    rw [hd, ← hQ] at hvv hne
    have hmid := HPm.out.mid (k := i + 1) (j := j) (by omega)
    rw [hd, ← hQ] at hmid
    have HNE := Lib.hid hne
    have HMID := Lib.hid hmid
    have HVQ := Lib.hid hvv
    have hdn : d ≤ 1048576 := by omega
    have hij1 : (i : Int) + 1 ≤ (j : Int) := by omega
    have hjc : (j : Int) ≤ (c : Int) := by omega
    have hci : ¬ c = i + 1 := by omega
    have htn : ((i : Int) + 1).toNat = i + 1 := by omega
    clear hQ hvv hmid hne
    go_wp2_with fail
    clear f0 f1 f2
    go_loopw [8, 21] (fun _ s wr => ∃ k : Nat, k ≤ d ∧ s = .int .i64 k ∧ (Q.take k).any (wayP (depW n3 m) x) = false ∧ Below wm.heap.size wm wr) (fun _ s _ => d - (intOf s).toNat)
    case atStart => exact ⟨0, by omega, rfl, rfl, Below.refl _ _⟩
    case round =>
      obtain ⟨k, hk, rfl, hany, hb⟩ := hrel
      have HANY := Lib.hid hany
      clear hany
      by_cases hkd : k < d
      · have hkdi : (k : Int) < (d : Int) := by omega
        obtain ⟨am, q, z, ea, hab, hq, c0, c1⟩ := (HMID.out.on hb).at_ k hkd
        injection ea with ea
        subst ea
        have hmo : (Q.take (k + 1)).any (wayP (depW n3 m) x) = ((Q.take k).any (wayP (depW n3 m) x) || wayP (depW n3 m) x q) := by
          obtain ⟨hi', e⟩ := List.getElem?_eq_some_iff.1 hq
          rw [List.take_succ_eq_append_getElem hi', List.any_append, e]
          simp
        have hme : wayP (depW n3 m) x q = true → Q.any (wayP (depW n3 m) x) = true := fun h => List.any_eq_true.2 ⟨q, List.mem_of_getElem? hq, h⟩
        have hqx := HNE.out q (List.mem_of_getElem? hq)
        have hway := tieZ_way (n := n3) (m := m) hqx
        have HMO := Lib.hid hmo
        have HME := Lib.hid hme
        have hbl := bl1 wr (.cells #[.int .i64 q, .int .i64 z] 39)
        have g0 : (wr.alloc (.cells #[.int .i64 q, .int .i64 z] 39)).cell? ⟨wr.heap.size, 0, none⟩ = some (.int .i64 q) := World.cell?_alloc_mark _ _ _ _ _
        have hbb := hb.trans (hbl.mono hb.size)
        obtain ⟨f0, f1, f2⟩ := (HVW.out.on hbb).three
        obtain ⟨ad', x2, z2, ea, _, hx2, d0, d1⟩ := (HPm.out.on hbb).at_ i (by omega)
        injection ea with ea
        subst ea
        rw [HX.out] at hx2
        injection hx2 with hx2
        subst hx2
        have hini : (i : Int) < (n : Int) := by omega
        have HB1 := Lib.hid (HBm.out.trans (hbb.mono HBm.out.size))
        have HBB := Lib.hid hbb
        have HMX := Lib.hid (HMm.out.on hbb)
        clear hmo hme hbl hq hb hbb hqx d1
        go_upto_region 6 with fail
        generalize wr.alloc (.cells #[.int .i64 q, .int .i64 z] 39) = W2 at g0 HB1 HBB HMX f0 f1 f2 d0 ⊢
        generalize wr.heap.size = gx at g0 ⊢
        clear c0 c1 hab
        have HDP := Lib.hid fun nq => mdep_any A3 n3 c3 m x q (W2.drewN nq) (HMX.out.on (Below.drewN (Below.refl _ _) nq)) h3
        rw [hway] at HDP
        generalize wayP (depW n3 m) x q = dv at HDP HME HMO
        clear hway
        cases dv with
        | true =>
          have e : v = false := by rw [HVQ.out, HME.out rfl]; rfl
          subst e
          go_quiet ((go_at_call 43; exact Calls.quiet_of_same (HDP.out _)))
          go_wp2_with fail
          go_ret
          exact Ans.mk rfl (Below.drewN HB1.out nq)
        | false =>
          have HN : Hid ((Q.take (k + 1)).any (wayP (depW n3 m) x) = false) := Lib.hid (by rw [HMO.out, HANY.out]; rfl)
          go_quiet ((go_at_call 43; exact Calls.quiet_of_same (HDP.out _)))
          go_wp2_with fail
          go_roundw
          case rel => exact ⟨k + 1, by omega, by go_num, HN.out, Below.drewN HBB.out nq⟩
          case measure => simp [intOf]; omega
      · have hkdi : ¬ (k : Int) < (d : Int) := by omega
        have e : v = true := by
          have h := HANY.out
          rw [List.take_of_length_le (by rw [HMID.out.len]; omega)] at h
          rw [HVQ.out, h]
          rfl
        subst e
        go_wp2_with fail
        go_ret
        exact Ans.mk rfl (HBm.out.trans (hb.mono HBm.out.size))
end Go.Proofs.Ytoaocdmcjjohgaa

/- Package move: all that may be moved. -/
namespace Go.Proofs.Ytoaocdmcjjohgaa
open Go.RowKit Tab
set_option linter.unusedSimpArgs false
set_option linter.unusedVariables false

theorem allJ_one {D : Int → Int → Bool} {ps : List Int} {i : Nat} {x : Int} (hx : ps[i]? = some x) : ∀ f j, allJ D ps i f j = if j ≤ nextP ps i x ∧ nextP ps i x < j + f ∧ mayP D ps i (nextP ps i x) = true then [⟨i, nextP ps i x, false⟩, ⟨i, nextP ps i x, true⟩] else [] := by
  intro f
  induction f with
  | zero => intro j; rw [if_neg (by omega)]; rfl
  | succ f ih =>
    intro j
    unfold allJ
    rw [ih (j + 1)]
    unfold twoM
    by_cases hm : mayP D ps i j = true
    · have e := mayP_next hx hm
      rw [if_pos hm, if_neg (by omega), if_pos ⟨by omega, by omega, by rw [e]; exact hm⟩, e]
      rfl
    · rw [if_neg hm, List.nil_append]
      by_cases hj : nextP ps i x = j
      · rw [if_neg (by omega), if_neg (by rw [hj]; exact fun h => hm h.2.2)]
      · by_cases h2 : j ≤ nextP ps i x ∧ nextP ps i x < j + (f + 1) ∧ mayP D ps i (nextP ps i x) = true
        · rw [if_pos h2, if_pos ⟨by omega, by omega, h2.2.2⟩]
        · rw [if_neg h2, if_neg (fun h => h2 ⟨by omega, by omega, h.2.2⟩)]
theorem allJ_next {D : Int → Int → Bool} {ps : List Int} {i n : Nat} {x : Int} (hx : ps[i]? = some x) (hn : ps.length = n) :
    allJ D ps i (n - (i + 1)) (i + 1) = if mayZ D ps (i : Int) (nextP ps i x : Nat) = true then [⟨i, nextP ps i x, false⟩, ⟨i, nextP ps i x, true⟩] else [] := by
  have hi : i < n := by have := (List.getElem?_eq_some_iff.1 hx).1; omega
  have hgt := nextP_gt ps i x
  rw [allJ_one hx]
  by_cases ht : nextP ps i x < n
  · rw [mayZ_nat D hgt (by omega)]
    by_cases hm : mayP D ps i (nextP ps i x) = true
    · rw [if_pos hm, if_pos ⟨by omega, by omega, hm⟩]
    · rw [if_neg hm, if_neg (fun h => hm h.2.2)]
  · have e : mayZ D ps (i : Int) (nextP ps i x : Nat) = false := by
      unfold mayZ
      rw [decide_eq_false (show ¬ ((nextP ps i x : Nat) : Int) < (ps.length : Int) by omega)]
      simp
    rw [e, if_neg (by omega), if_neg (by decide)]
theorem elPm : Elt 49 37 3 24 (.agg #[.int .i64 0, .int .i64 0, .bool false]) := ⟨Try.underlying49, by kernel_rfl, rfl, by omega⟩
set_option maxRecDepth 100000 in
set_option maxHeartbeats 4000000 in
theorem all_any (A A3 : Option Addr) (n c n3 c3 : Nat) (ps : List Int) (m : Nat → Nat → Bool) (w : World) (h : RdP w w.heap.size A n ps) (hM : RdM w w.heap.size A3 n3 (fun _ => n3) m)
    (hc : n ≤ c) (hn : n ≤ 1024) (h3 : n3 ≤ 1024) :
    Calls Try.prog 16 #[.slice A n c, .slice A3 n3 c3] w (RowM 37 (allF (depW n3 m) ps) w) := by
  have hlen := h.len
  obtain ⟨R, hR⟩ : ∃ R, R = allF (depW n3 m) ps := ⟨_, rfl⟩
  have hRl : R.length ≤ 2097152 := by rw [hR]; exact allF_le (by omega)
  rw [← hR]
  have HR := Lib.hid hR
  have HLN := Lib.hid hlen
  have HP := Lib.hid h
  have HM := Lib.hid hM
  clear h hM hlen hR
  go_enter Try.func16, Try.ntmps16
  go_wp2_with fail
  go_loopw [5, 6, 7, 10] (fun q _ _ s wr => ∃ (i k cq : Nat) (AQ : Option Addr) (Q : List Mo), i ≤ n ∧ s = .int .i64 i ∧ q = .slice AQ k cq ∧ OwnB 37 3 mcl wr w.heap.size AQ k cq Q ∧ Q ++ allI (depW n3 m) ps (n - i) i = R ∧ Below w.heap.size w wr) (fun _ _ _ s _ => n - (intOf s).toNat)
  case atStart => exact ⟨0, 0, 0, none, [], by omega, rfl, rfl, OwnB.nil _ _ _ _, by rw [HR.out, List.nil_append, ← HLN.out]; rfl, Below.refl _ _⟩
  case round =>
    obtain ⟨i, k, cq, AQ, Q, hi, rfl, rfl, hown, hQ, hb⟩ := hrel
    by_cases hin : i < n
    · have hini : (i : Int) < (n : Int) := by omega
      obtain ⟨x, hx⟩ : ∃ x, ps[i]? = some x := ⟨_, List.getElem?_eq_getElem (by have := HLN.out; omega)⟩
      have hst := allI_step (depW n3 m) ps (i := i) (by rw [HLN.out]; exact hin)
      rw [HLN.out, allJ_next hx HLN.out] at hst
      have HNX := Lib.hid (mnext_any A n c ps i x wr (HP.out.on hb) hx (by omega))
      have HQ1 : Hid (Q ++ ((if mayZ (depW n3 m) ps (i : Int) (nextP ps i x : Nat) = true then [⟨i, nextP ps i x, false⟩, ⟨i, nextP ps i x, true⟩] else []) ++ allI (depW n3 m) ps (n - (i + 1)) (i + 1)) = R) := Lib.hid (by rw [← hst]; exact hQ)
      have htn := nextP_le (ps := ps) (i := i) (x := x) (by rw [HLN.out]; exact hin)
      rw [HLN.out] at htn
      generalize nextP ps i x = t at HNX HQ1 htn
      have HOW := Lib.hid hown
      have HB := Lib.hid hb
      clear hst hx hown hb hQ
      go_wp2_with fail
      refine HNX.out.mono ?_
      rintro e w1 ⟨rfl, hb1⟩
      have hB1 := HB.out.trans (hb1.mono HB.out.size)
      have hbl := bl1 w1 (.cells #[.int .i64 (i : Int), .int .i64 (t : Int), .bool false] 37)
      have g0 : (w1.alloc (.cells #[.int .i64 (i : Int), .int .i64 (t : Int), .bool false] 37)).cell? ⟨w1.heap.size, 0, none⟩ = some (.int .i64 (i : Int)) := World.cell?_alloc_mark _ _ _ _ _
      have g1 : (w1.alloc (.cells #[.int .i64 (i : Int), .int .i64 (t : Int), .bool false] 37)).cell? ⟨w1.heap.size, 1, none⟩ = some (.int .i64 (t : Int)) := World.cell?_alloc_mark _ _ _ _ _
      have g2 : (w1.alloc (.cells #[.int .i64 (i : Int), .int .i64 (t : Int), .bool false] 37)).cell? ⟨w1.heap.size, 2, none⟩ = some (.bool false) := World.cell?_alloc_mark _ _ _ _ _
      have HB2 := Lib.hid (hB1.trans (hbl.mono hB1.size))
      have HOW2 := Lib.hid ((HOW.out.below hb1).below hbl)
      have hgl : w1.heap.size < (w1.alloc (.cells #[.int .i64 (i : Int), .int .i64 (t : Int), .bool false] 37)).heap.size := by simp
      clear hb1 hB1 hbl HOW HB HNX
      go_upto_region 6 with fail
      generalize w1.alloc (.cells #[.int .i64 (i : Int), .int .i64 (t : Int), .bool false] 37) = W1 at g0 g1 g2 HB2 HOW2 hgl ⊢
      generalize w1.heap.size = gm at g0 g1 g2 hgl ⊢
      have HMA := Lib.hid (may_any A A3 n c n3 c3 ps m (i : Int) (t : Int) false W1 (HP.out.on HB2.out) (HM.out.on HB2.out) hc (by omega) h3)
      generalize mayZ (depW n3 m) ps (i : Int) (t : Int) = bv at HMA HQ1
      cases bv with
      | false =>
        have hq : Q ++ allI (depW n3 m) ps (n - (i + 1)) (i + 1) = R := by
          have h := HQ1.out
          rw [if_neg (by decide), List.nil_append] at h
          exact h
        have HQ3 := Lib.hid hq
        clear hq
        go_wp2_with fail
        refine HMA.out.mono ?_
        rintro e w5 ⟨rfl, hb5⟩
        have HB5 := Lib.hid (HB2.out.trans (hb5.mono HB2.out.size))
        have HOW5 := Lib.hid (HOW2.out.below hb5)
        clear hb5 HMA g0 g1 g2
        go_wp2_with fail
        go_roundw
        case rel => exact ⟨i + 1, k, cq, AQ, Q, by omega, by go_num, rfl, HOW5.out, HQ3.out, HB5.out⟩
        case measure => simp [intOf]; omega
      | true =>
        have hq : (Q ++ [⟨i, t, false⟩, ⟨i, t, true⟩]) ++ allI (depW n3 m) ps (n - (i + 1)) (i + 1) = R := by
          have h := HQ1.out
          rw [if_pos rfl] at h
          rw [List.append_assoc]
          exact h
        have hkl : k + 2 ≤ 2097152 := by
          have h1 := congrArg List.length hq
          rw [List.length_append, List.length_append, HOW2.out.len] at h1
          simp only [List.length_cons, List.length_nil] at h1
          omega
        have HQ3 := Lib.hid hq
        clear hq
        go_wp2_with fail
        refine HMA.out.mono ?_
        rintro e w5 ⟨rfl, hb5⟩
        have HB5 := Lib.hid (HB2.out.trans (hb5.mono HB2.out.size))
        have hq0 := (hb5.cell (p := ⟨gm, 0, none⟩) hgl).trans g0
        have hq1 := (hb5.cell (p := ⟨gm, 1, none⟩) hgl).trans g1
        have hq2 := (hb5.cell (p := ⟨gm, 2, none⟩) hgl).trans g2
        have hbx := bl1 w5 (.cells #[.int .i64 (i : Int), .int .i64 (t : Int), .bool false, .int .i64 (i : Int), .int .i64 (t : Int), .bool true] 37)
        have how5 := (HOW2.out.below hb5).below hbx
        have hown5 := how5.own
        have hrd := rdV_new w5 #[.int .i64 (i : Int), .int .i64 (t : Int), .bool false, .int .i64 (i : Int), .int .i64 (t : Int), .bool true] 37 (([⟨i, t, false⟩, ⟨i, t, true⟩] : List Mo).flatMap mcl) rfl
        have HB6 := Lib.hid (HB5.out.trans (hbx.mono HB5.out.size))
        have hs6 : w.heap.size ≤ (w5.alloc (.cells #[.int .i64 (i : Int), .int .i64 (t : Int), .bool false, .int .i64 (i : Int), .int .i64 (t : Int), .bool true] 37)).heap.size := HB6.out.size
        have hkq := HOW2.out.len
        have hfm : Q.flatMap mcl ++ ([⟨i, t, false⟩, ⟨i, t, true⟩] : List Mo).flatMap mcl = (Q ++ ([⟨i, t, false⟩, ⟨i, t, true⟩] : List Mo)).flatMap mcl := List.flatMap_append.symm
        clear hb5 HMA hbx HB5 how5 g0 g1 g2
        go_wp2_with (at_builtin; go_loud (refine wpList_appV elPm rfl (.tmp 22) (.tmp 29) rfl rfl w.heap.size AQ k cq _ rfl hown5 _ 2 2 _ _ rfl hrd rfl (mcl_one _) (by omega) (by unfold maxLen; omega) hs6 (k + 2) rfl _ hfm ?_; intro A8 c8 w8 hw8 hb8 _))
        go_roundw
        case rel => exact ⟨i + 1, k + 2, c8, A8, _, by omega, by go_num, rfl, ⟨by rw [List.length_append, hkq]; rfl, hw8⟩, HQ3.out, HB6.out.trans hb8⟩
        case measure => simp [intOf]; omega
    · have hini : ¬ (i : Int) < (n : Int) := by omega
      obtain rfl : n = i := by omega
      have hq : Q = R := by
        rw [Nat.sub_self] at hQ
        simpa [allI] using hQ
      subst hq
      have HKL := Lib.hid hown.len
      have HOW := Lib.hid hown
      have HB := Lib.hid hb
      clear hown hb hQ
      go_wp2_with fail
      go_ret
      exact ⟨AQ, cq, by rw [HKL.out]; rfl, by rw [HKL.out]; exact HOW.out, HB.out⟩
end Go.Proofs.Ytoaocdmcjjohgaa

/- Package move: a move is done, in rows of any numbers. -/
namespace Go.Proofs.Ytoaocdmcjjohgaa
open Go.RowKit Tab
set_option linter.unusedSimpArgs false
set_option linter.unusedVariables false

/-- A run as it may be: any ticks. -/
structure Zr where
  p : Int
  z : Int
def zcl (x : Zr) : List Value := [.int .i64 x.p, .int .i64 x.z]
theorem zcl_len (x : Zr) : (zcl x).length = 2 := rfl
theorem zcl_one (l : List Zr) : ∀ u ∈ l.flatMap zcl, u.oneCell' = true := by
  intro u hu
  obtain ⟨x, _, hx⟩ := List.mem_flatMap.1 hu
  simp [zcl] at hx
  rcases hx with rfl | rfl <;> rfl
def clp (x : Zr) : Rn := ⟨x.p, x.z.toNat⟩
def zOf (r : Rn) : Zr := ⟨r.p, r.n⟩
theorem clp_zOf (L : List Rn) : (L.map zOf).map clp = L := by
  rw [List.map_map]
  conv => rhs; rw [← List.map_id L]
  rfl
theorem rs_z (L : List Rn) : (L.map zOf).flatMap zcl = rs L := by
  rw [rs_flat, List.flatMap_map]
  rfl
theorem RdR.z {w : World} {B n : Nat} {A : Option Addr} {L : List Rn} (h : RdR w B A n L) : RdB zcl w B A n (L.map zOf) := ⟨by rw [List.length_map]; exact h.len, by rw [rs_z]; exact h.rd⟩
theorem zmv_row {w : World} {B n : Nat} {A : Option Addr} {L : List Rn} (h : RdB zcl w B A n (L.map zOf)) : RdR w B A n L := ⟨by rw [← h.len, List.length_map], by rw [← rs_z]; exact h.rd⟩
theorem RdB.rdpz {w : World} {B n : Nat} {A : Option Addr} {Z : List Zr} (h : RdB zcl w B A n Z) : RdP w B A n (Z.map Zr.p) := ⟨by rw [List.length_map]; exact h.len, fun i hi => by
  obtain ⟨ad, r, e, hb, hr, c0, ck⟩ := h.at_ zcl_len (by omega) hi
  exact ⟨ad, r.p, r.z, e, hb, by rw [List.getElem?_map, hr]; rfl, c0 _ rfl, ck 1 _ (by omega) rfl⟩⟩
/-- The row behind both stores. -/
theorem zmv {Z : List Zr} {i j : Nat} {x y : Zr} {T : Nat} (hij : i < j) (hx : Z[i]? = some x) (hy : Z[j]? = some y) (hT : T = y.z.toNat + x.z.toNat) (hz : ∀ k r, Z[k]? = some r → k ≠ i → k ≠ j → 0 ≤ r.z) :
    (Z.set j ⟨y.p, (T : Int)⟩).set i ⟨x.p, 0⟩ = (mv (Z.map clp) i j true).map zOf ∧ (Z.set i ⟨x.p, (T : Int)⟩).set j ⟨y.p, 0⟩ = (mv (Z.map clp) i j false).map zOf := by
  have h1 := (List.getElem?_eq_some_iff.1 hx).1
  have h2 := (List.getElem?_eq_some_iff.1 hy).1
  have e1 : (Z.map clp)[i]? = some (clp x) := by rw [List.getElem?_map, hx]; rfl
  have e2 : (Z.map clp)[j]? = some (clp y) := by rw [List.getElem?_map, hy]; rfl
  unfold mv
  rw [e1, e2]
  subst hT
  have key : ∀ k, k ≠ i → k ≠ j → ((Z.map clp).map zOf)[k]? = Z[k]? := fun k k1 k2 => by
    rw [List.getElem?_map, List.getElem?_map]
    cases hk : Z[k]? with
    | none => rfl
    | some r =>
      have := hz k r hk k1 k2
      show some (zOf (clp r)) = some r
      unfold zOf clp
      obtain ⟨rp, rz⟩ := r
      dsimp only at this ⊢
      rw [show ((rz.toNat : Nat) : Int) = rz by omega]
  refine ⟨?_, ?_⟩
  · simp only [if_true, List.map_set]
    apply List.ext_getElem?
    intro k
    by_cases k1 : k = i
    · subst k1
      rw [List.getElem?_set_self (by simp; omega), List.getElem?_set_self (by simp; omega)]
      rfl
    · rw [List.getElem?_set_ne (Ne.symm k1), List.getElem?_set_ne (Ne.symm k1)]
      by_cases k2 : k = j
      · subst k2
        rw [List.getElem?_set_self (by omega), List.getElem?_set_self (by simp; omega)]
        rfl
      · rw [List.getElem?_set_ne (Ne.symm k2), List.getElem?_set_ne (Ne.symm k2), key k k1 k2]
  · simp only [Bool.false_eq_true, if_false, List.map_set]
    apply List.ext_getElem?
    intro k
    by_cases k2 : k = j
    · subst k2
      rw [List.getElem?_set_self (by simp; omega), List.getElem?_set_self (by simp; omega)]
      rfl
    · rw [List.getElem?_set_ne (Ne.symm k2), List.getElem?_set_ne (Ne.symm k2)]
      by_cases k1 : k = i
      · subst k1
        rw [List.getElem?_set_self (by omega), List.getElem?_set_self (by simp; omega)]
        rfl
      · rw [List.getElem?_set_ne (Ne.symm k1), List.getElem?_set_ne (Ne.symm k1), key k k1 k2]
theorem moreZ_any (s : Nat) (n : Int) (w : World) (h : (s : Int) + n ≤ 4611686018427387904) (hs : s ≤ 4611686018427387904) :
    Calls Try.prog 57 #[.int .i64 (s : Int), .int .i64 n] w fun e w' => e = .returned (.int .i64 ((s + n.toNat : Nat) : Int)) ∧ w' = w := by
  by_cases h0 : n < 1
  · have e : ((s + n.toNat : Nat) : Int) = (s : Int) := by omega
    rw [e]
    clear e
    go_enter Try.func57, Try.ntmps57
    go_wp2
    all_goals
      go_ret
      exact ⟨rfl, rfl⟩
  · exact (more_any (s : Int) n (s : Int) n w (by omega) (by omega) (by omega) rfl rfl).mono fun e w' hh => ⟨hh.1.trans (by rw [show ((s + n.toNat : Nat) : Int) = (s : Int) + n by omega]), hh.2⟩
set_option maxRecDepth 100000 in
set_option maxHeartbeats 1600000 in
theorem lengthZ_any (A : Option Addr) (n cap : Nat) (Z : List Zr) (w : World) (h : RdB zcl w w.heap.size A n Z) (hc : n ≤ cap) (hn : n ≤ 1048576) (ht : ticks (Z.map clp) ≤ 1099511627776) :
    Calls Try.prog 40 #[.slice A n cap] w (Ans (.int .i64 (ticks (Z.map clp) : Nat)) w) := by
  go_enter Try.func40, Try.ntmps40
  go_wp2_with fail
  go_loopw [3, 8] (fun q s wr => ∃ (i m : Nat), i ≤ n ∧ s = .int .i64 i ∧ q = .int .i64 m ∧ m = ticks ((Z.map clp).take i) ∧ Below w.heap.size w wr) (fun _ s _ => n - (intOf s).toNat)
  case atStart => exact ⟨0, 0, by omega, rfl, rfl, by simp [ticks], Below.refl _ _⟩
  case round =>
    obtain ⟨i, m, hi, rfl, rfl, hm, hb⟩ := hrel
    by_cases hlt : i < n
    · obtain ⟨ad, r, rfl, had, hr, c0', ck⟩ := (h.on hb).at_ zcl_len (by omega) hlt
      have c0 := c0' _ rfl
      have c1 := ck 1 _ (by omega) rfl
      have hrr : (Z.map clp)[i]? = some (clp r) := by rw [List.getElem?_map, hr]; rfl
      have hmore : ticks ((Z.map clp).take (i + 1)) = ticks ((Z.map clp).take i) + r.z.toNat := by
        obtain ⟨hi', e⟩ := List.getElem?_eq_some_iff.1 hrr
        rw [List.take_succ_eq_append_getElem hi', ticks_append, e]
        rfl
      have hall := take_ticks (Z.map clp) (i + 1)
      rw [hmore, ← hm] at hall
      rw [← hm] at hmore
      have hlti : (i : Int) < (n : Int) := by omega
      have hbl := bl1 wr (.cells #[.int .i64 r.p, .int .i64 r.z] 39)
      have HB := Lib.hid (hb.trans (hbl.mono hb.size))
      have HM := Lib.hid hmore
      have HMR := Lib.hid fun W => moreZ_any m r.z W (by omega) (by omega)
      clear hmore hm hbl hr hrr c0' ck hb had
      go_wp2_with fail
      refine (HMR.out _).mono ?_
      rintro e w1 ⟨rfl, rfl⟩
      go_wp2_with fail
      go_roundw
      case rel => exact ⟨i + 1, m + r.z.toNat, by omega, by go_num, by congr 1; omega, HM.out.symm, HB.out⟩
      case measure => simp [intOf]; omega
    · have hlti : ¬ (i : Int) < (n : Int) := by omega
      have e : m = ticks (Z.map clp) := by rw [hm, List.take_of_length_le (by rw [List.length_map, h.len]; omega)]
      have HE := Lib.hid e
      clear e hm
      go_wp2_with fail
      go_ret
      exact Ans.mk (by rw [HE.out]; rfl) hb
/-- Two runs in a new row. -/
def TwoX (g0 : Nat) (x y : Zr) (v : Value) (w : World) : Prop := ∃ h, v = .slice (some ⟨h, 0, none⟩) 2 2 ∧ g0 ≤ h ∧ h < w.heap.size ∧ RdB zcl w w.heap.size (some ⟨h, 0, none⟩) 2 [x, y]
theorem TwoX.on {g0 : Nat} {x y : Zr} {v : Value} {w w' : World} (h : TwoX g0 x y v w) (hb : Below w.heap.size w w') : TwoX g0 x y v w' := by
  obtain ⟨g, h1, h2, h3, h4⟩ := h
  exact ⟨g, h1, h2, Nat.lt_of_lt_of_le h3 hb.size, h4.on hb⟩
theorem TwoX.put {g0 : Nat} {x y : Zr} {v : Value} {w : World} (h : TwoX g0 x y v w) {p : Addr} (hp : p.block < g0) {u : Value} : TwoX g0 x y v (w.setCell p u) := by
  obtain ⟨g, h1, h2, h3, h4⟩ := h
  refine ⟨g, h1, h2, by simpa using h3, ?_⟩
  have := h4.other p u (fun b e => by
    obtain rfl : g = b := Option.some.inj e
    omega)
  simpa using this
/-- A region that makes memory, and stores once at its end. -/
def DoW (w0 : World) (p : Addr) (v : Value) (live : Nat → Bool) (w : World) : Prop := ∃ w1, Below w0.heap.size w0 w1 ∧ w = if live 14 = true then w1.setCell p v else w1
theorem DoW.start {w0 : World} {p : Addr} {v : Value} : DoW w0 p v (fun _ => false) w0.drew := ⟨w0.drew, (Below.refl _ _).drew, by simp⟩
theorem DoW.off {w0 w : World} {p : Addr} {v : Value} {live : Nat → Bool} (h : DoW w0 p v live w) (hl : live 14 = false) : Below w0.heap.size w0 w := by
  obtain ⟨w1, hb, e⟩ := h
  rw [hl] at e
  exact e ▸ hb
theorem DoW.on {w0 w : World} {p : Addr} {v : Value} {live : Nat → Bool} (h : DoW w0 p v live w) (hl : live 14 = true) : ∃ w1, Below w0.heap.size w0 w1 ∧ w = w1.setCell p v := by
  obtain ⟨w1, hb, e⟩ := h
  rw [hl] at e
  exact ⟨w1, hb, e⟩
theorem DoW.upd {w0 w : World} {p : Addr} {v : Value} {live : Nat → Bool} {i : Nat} (h : DoW w0 p v live w) (hi : i ≠ 14) : DoW w0 p v (Rgs.upd live i) w := by
  obtain ⟨w1, hb, e⟩ := h
  have e2 : Rgs.upd live i 14 = live 14 := by unfold Rgs.upd; simp [Ne.symm hi]
  exact ⟨w1, hb, by rw [e2]; exact e⟩
theorem DoW.more {w0 w w' : World} {p : Addr} {v : Value} {live : Nat → Bool} {i : Nat} (h : DoW w0 p v live w) (hl : live 14 = false) (hb : Below w.heap.size w w') (hi : i ≠ 14 := by decide) : DoW w0 p v (Rgs.upd live i) w' := by
  have h0 := h.off hl
  have e2 : Rgs.upd live i 14 = false := by rw [← hl]; unfold Rgs.upd; simp [Ne.symm hi]
  exact ⟨w', h0.trans (hb.mono h0.size), by rw [e2]; rfl⟩
theorem DoW.put {w0 w : World} {p : Addr} {v : Value} {live : Nat → Bool} (h : DoW w0 p v live w) (hl : live 14 = false) : DoW w0 p v (Rgs.upd live 14) (w.setCell p v) := ⟨w, h.off hl, by rw [Rgs.upd_self]; rfl⟩
/-- What Do answers, of any row: where both places are of it, the row with one run's ticks at the other one, tidy; else the row as it is. -/
def DoA (n : Nat) (Z : List Zr) (I J : Int) (rt : Bool) (w : World) (e : Ending) (w' : World) : Prop :=
  (plcZ n I J = true → RowQ (tidy (mv (Z.map clp) I.toNat J.toNat rt)) w e w') ∧ (plcZ n I J = false → ∃ A c, e = .returned (.slice A n c) ∧ RdB zcl w' w'.heap.size A n Z ∧ n ≤ c ∧ Below w.heap.size w w')
set_option maxRecDepth 100000 in
set_option maxHeartbeats 8000000 in
theorem mdo_any (A : Option Addr) (n c0 : Nat) (Z : List Zr) (I J : Int) (rt : Bool) (w : World) (h : RdB zcl w w.heap.size A n Z) (hc : n ≤ c0) (hn : n ≤ 1048576) (ht : ticks (Z.map clp) ≤ 1099511627776)
    (hz : plcZ n I J = true → ∀ k r, Z[k]? = some r → k ≠ I.toNat → k ≠ J.toNat → 0 ≤ r.z) :
    Calls Try.prog 18 #[.slice A n c0, .agg #[.int .i64 I, .int .i64 J, .bool rt]] w (DoA n Z I J rt w) := by
  have hlen := h.len
  have hb0 := bl1 w (.cells #[.int .i64 I, .int .i64 J, .bool rt] 37)
  have hv0 : Vec (w.alloc (.cells #[.int .i64 I, .int .i64 J, .bool rt] 37)) w.heap.size 3 (fun q => if q = 0 then .int .i64 I else if q = 1 then .int .i64 J else .bool rt) := Vec.lit w _ _ 3 _ fun q hq => by
    rcases (by omega : q = 0 ∨ q = 1 ∨ q = 2) with rfl | rfl | rfl <;> rfl
  have hP0 := h.on hb0
  have HLN := Lib.hid hlen
  have HNAT := Lib.hid hz
  clear h hlen hz
  go_enter Try.func18, Try.ntmps18
  go_upto_region 1 with fail
  generalize w.alloc (.cells #[.int .i64 I, .int .i64 J, .bool rt] 37) = W at hb0 hv0 hP0 ⊢
  obtain ⟨gm, hgm⟩ : ∃ gm, gm = w.heap.size := ⟨_, rfl⟩
  rw [← hgm] at hv0 ⊢
  have HGM := Lib.hid hgm
  clear hgm
  have hown0 : OwnV 39 2 W W.heap.size none 0 0 [] := OwnV.nil _ _ _ _
  have hrd := hP0.rd
  go_upto_region 3 with (at_builtin; go_loud (refine wpList_appV elR rfl (.tmp 8) (.tmp 9) rfl rfl W.heap.size none 0 0 [] rfl hown0 A n c0 (Z.flatMap zcl) _ rfl hrd (by rw [flat_len zcl_len, HLN.out]) (zcl_one _) (by omega) (by unfold maxLen; omega) (Nat.le_refl _) n (Nat.zero_add _) (Z.flatMap zcl) (List.nil_append _) ?_; intro A4 c4 wq hw4 hb4 hot4))
  have HBQ := Lib.hid (hb0.trans (hb4.mono hb0.size))
  have HOB0 : Hid (OwnB 39 2 zcl wq W.heap.size A4 n c4 Z) := Lib.hid ⟨HLN.out, hw4⟩
  have HVM := Lib.hid (hv0.on hb4)
  have HGW0 : Hid (gm < W.heap.size) := Lib.hid hv0.lt
  have HROW0 := Lib.hid (hP0.on hb4)
  obtain ⟨c, rfl⟩ : ∃ c, c = c4 := ⟨_, rfl⟩
  clear hw4 hb4 hot4 hown0 hrd hb0 hv0 hP0
  have HPL := Lib.hid (mplc_any A n c0 I J rt wq)
  obtain ⟨f0, f1, f2⟩ := HVM.out.three
  cases hp : plcZ n I J with
  | false =>
    rw [hp] at HPL
    go_wp2_with fail
    refine HPL.out.mono ?_
    rintro e w5 ⟨rfl, hb5⟩
    have HK5 := Lib.hid hb5
    clear hb5 HPL f0 f1 f2
    go_wp2_with fail
    go_ret
    exact ⟨fun e => (by rw [hp] at e; cases e), fun _ => ⟨A4, c, rfl, (HOB0.out.below HK5.out).rdb, HOB0.out.cap, HBQ.out.trans (HK5.out.mono HBQ.out.size)⟩⟩
  | true =>
    rw [hp] at HPL
    have hpp : 0 ≤ I ∧ I < J ∧ J < (n : Int) := by
      unfold plcZ at hp
      simpa using hp
    obtain ⟨i, rfl⟩ : ∃ i : Nat, I = i := ⟨I.toNat, by omega⟩
    obtain ⟨j, rfl⟩ : ∃ j : Nat, J = j := ⟨J.toNat, by omega⟩
    have hij : i < j := by omega
    have hjn : j < n := by omega
    obtain ⟨x, hx⟩ : ∃ x, Z[i]? = some x := ⟨_, List.getElem?_eq_getElem (by have := HLN.out; omega)⟩
    obtain ⟨y, hy⟩ : ∃ y, Z[j]? = some y := ⟨_, List.getElem?_eq_getElem (by have := HLN.out; omega)⟩
    have HX := Lib.hid hx
    have HY := Lib.hid hy
    have HLi : Hid (i < n) := Lib.hid (by omega)
    have HLj : Hid (j < n) := Lib.hid hjn
    have HLT : Hid ((i : Int) < (n : Int) ∧ (j : Int) < (n : Int) ∧ ¬ (i : Int) < 0 ∧ ¬ (j : Int) < 0) := Lib.hid ⟨by omega, by omega, by omega, by omega⟩
    have hnat := HNAT.out hp
    obtain ⟨g, rfl, hgW, hgq⟩ := HOB0.out.block (by omega)
    obtain ⟨T, hT⟩ : ∃ T, T = y.z.toNat + x.z.toNat := ⟨_, rfl⟩
    have HZM := Lib.hid (zmv hij hx hy hT hnat)
    have ex : (Z.map clp)[i]? = some (clp x) := by rw [List.getElem?_map, hx]; rfl
    have ey : (Z.map clp)[j]? = some (clp y) := by rw [List.getElem?_map, hy]; rfl
    have HTK : Hid (ticks (mv (Z.map clp) i j true) ≤ 1099511627776 ∧ ticks (mv (Z.map clp) i j false) ≤ 1099511627776) := Lib.hid ⟨by rw [mv_ticks hij ex ey]; exact ht, by rw [mv_ticks hij ex ey]; exact ht⟩
    have hxy : y.z.toNat + x.z.toNat ≤ 1099511627776 := by
      have h1 : (mv (Z.map clp) i j false)[i]? = some ⟨x.p, (clp y).n + (clp x).n⟩ := by
        unfold mv
        rw [ex, ey]
        simp only [Bool.false_eq_true, if_false]
        rw [List.getElem?_set_ne (by omega), List.getElem?_set_self (List.getElem?_eq_some_iff.1 ex).1]
        rfl
      have h2 := mem_ticks (List.mem_of_getElem? h1)
      rw [mv_ticks hij ex ey] at h2
      exact Nat.le_trans h2 ht
    have HL1 : Hid (∀ A W, RdB zcl W W.heap.size A 2 [x, y] → Calls Try.prog 40 #[.slice A 2 2] W (Ans (.int .i64 (T : Int)) W)) := Lib.hid fun A W hr => by
      have h1 := lengthZ_any A 2 2 [x, y] W hr (by omega) (by omega) (by simp [ticks, clp]; omega)
      rw [show ticks ([x, y].map clp) = T by simp [ticks, clp]; omega] at h1
      exact h1
    have HL2 : Hid (∀ A W, RdB zcl W W.heap.size A 2 [y, x] → Calls Try.prog 40 #[.slice A 2 2] W (Ans (.int .i64 (T : Int)) W)) := Lib.hid fun A W hr => by
      have h1 := lengthZ_any A 2 2 [y, x] W hr (by omega) (by omega) (by simp [ticks, clp]; omega)
      rw [show ticks ([y, x].map clp) = T by simp [ticks, clp]; omega] at h1
      exact h1
    have HOUT : Hid (∀ e w', RowQ (tidy (mv (Z.map clp) i j rt)) w e w' → DoA n Z (i : Int) (j : Int) rt w e w') := Lib.hid fun e w' hq => ⟨fun _ => hq, fun e => by rw [hp] at e; cases e⟩
    have HGW : Hid (w.heap.size ≤ g) := Lib.hid (by have h1 := HGM.out; have h2 := HGW0.out; omega)
    have HGMN : Hid (gm ≠ g) := Lib.hid (by have h2 := HGW0.out; omega)
    clear hp hx hy hT hnat ex ey hxy HNAT
    go_wp2_with fail
    refine HPL.out.mono ?_
    rintro e wv ⟨rfl, hbv⟩
    have HVV := Lib.hid (HVM.out.on hbv)
    have HOV := Lib.hid (HOB0.out.below hbv)
    have HRV := Lib.hid (HROW0.out.on hbv)
    have HBV := Lib.hid (HBQ.out.trans (hbv.mono HBQ.out.size))
    have HGV : Hid (g < wv.heap.size) := Lib.hid (Nat.lt_of_lt_of_le hgq hbv.size)
    clear hbv HPL f0 f1 f2 HVM HOB0 HROW0 HBQ hgq hgW
    obtain ⟨f0, f1, f2⟩ := HVV.out.three
    have hcap := HOV.out.cap
    obtain ⟨al, _, rfl, _, _, _, _⟩ := HRV.out.at_ zcl_len (by omega) HLi.out
    go_upto_region 5 with fail
    go_quiet (fail)
    have hbd : Below wv.heap.size wv (wv.drewN nq) := Below.drewN (Below.refl _ _) nq
    have HVD := Lib.hid (HVV.out.on hbd)
    have HOD := Lib.hid (HOV.out.below hbd)
    have HRD := Lib.hid (HRV.out.on hbd)
    have HBD := Lib.hid (HBV.out.trans (hbd.mono HBV.out.size))
    have HGD : Hid (g < (wv.drewN nq).heap.size) := Lib.hid (Nat.lt_of_lt_of_le HGV.out hbd.size)
    clear f0 f1 f2 hbd
    generalize wv.drewN nq = wd at HVD HOD HRD HBD HGD ⊢
    obtain ⟨f0, f1, f2⟩ := HVD.out.three
    cases rt with
    | false =>
      have HOB := Lib.hid HOD.out
      have HROW := Lib.hid HRD.out
      have HBB := Lib.hid HBD.out
      have HGB := Lib.hid HGD.out
      have HLEN := Lib.hid HL1.out
      go_upto_region 8 with fail
      clear f0 f1 f2
      obtain ⟨wb, rfl⟩ : ∃ wb, wb = wd := ⟨_, rfl⟩
      refine Rgs.region (by kernel_rfl) (by kernel_rfl) (fun (opn : Nat) (vl : Value) (wo : World) => match opn with | 0 => vl = .slice (some ⟨g, 0, none⟩) n c | 1 => vl = .int .i64 (i : Int) | 2 => vl = .slice (some al) n c0 | 3 => vl = .int .i64 (i : Int) | 4 => vl = .pointer (some (al.add (i * 2))) | 5 => vl = .agg #[.int .i64 x.p, .int .i64 x.z] | 6 => vl = .slice (some al) n c0 | 7 => vl = .int .i64 (j : Int) | 8 => vl = .pointer (some (al.add (j * 2))) | 9 => vl = .agg #[.int .i64 y.p, .int .i64 y.z] | 10 => TwoX wb.heap.size x y vl wo | 11 => vl = .int .i64 (T : Int) | 12 => vl = .pointer (some ⟨g, i * 2, none⟩) | 13 => vl = .pointer (some ⟨g, i * 2 + 1, none⟩) | 14 => vl = undef | _ => True) (fun live _ w' => DoW wb ⟨g, i * 2 + 1, none⟩ (.int .i64 (T : Int)) live w') DoW.start (Rgs.steps_of ?_) ?_
      · refine ⟨?_, ?_, ?_, ?_, ?_, ?_, ?_, ?_, ?_, ?_, ?_, ?_, ?_, ?_, ?_, trivial⟩
        · intro a w1 live S E D C h0 hk hW
          have e5 : a.eval (.tmp 5) = .slice (some ⟨g, 0, none⟩) n c := E 5 rfl
          exact Rgs.val rfl (Reg.wanted_free rfl) (.slice (some ⟨g, 0, none⟩) n c) (by have c := Reg.consts a; generalize a.eval = ρ at *; simp [execOp, go_sem, c.1, c.2, e5]) rfl (hW.upd (by decide))
        · intro a w1 live S E D C h0 hk hW
          have e6 : a.eval (.tmp 6) = .int .i64 (i : Int) := E 6 rfl
          exact Rgs.val rfl (Reg.wanted_free rfl) (.int .i64 (i : Int)) (by have c := Reg.consts a; generalize a.eval = ρ at *; simp [execOp, go_sem, c.1, c.2, e6]) rfl (hW.upd (by decide))
        · intro a w1 live S E D C h0 hk hW
          have e0 : a.eval (.tmp 0) = .slice (some al) n c0 := E 0 rfl
          exact Rgs.val rfl (Reg.wanted_free rfl) (.slice (some al) n c0) (by have c := Reg.consts a; generalize a.eval = ρ at *; simp [execOp, go_sem, c.1, c.2, e0]) rfl (hW.upd (by decide))
        · intro a w1 live S E D C h0 hk hW
          have e6 : a.eval (.tmp 6) = .int .i64 (i : Int) := E 6 rfl
          exact Rgs.val rfl (Reg.wanted_free rfl) (.int .i64 (i : Int)) (by have c := Reg.consts a; generalize a.eval = ρ at *; simp [execOp, go_sem, c.1, c.2, e6]) rfl (hW.upd (by decide))
        · intro a w1 live S E D C h0 hk hW
          have d2 : a.eval (.tmp 28) = .slice (some al) n c0 := D 2 rfl _ _ rfl rfl
          have d3 : a.eval (.tmp 29) = .int .i64 (i : Int) := D 3 rfl _ _ rfl rfl
          have i1 := HLT.out
          obtain ⟨i1, i2, i3, i4⟩ := i1
          exact Rgs.val rfl (Reg.wanted_free rfl) (.pointer (some (al.add (i * 2)))) (by have c := Reg.consts a; generalize a.eval = ρ at *; simp [execOp, go_sem, c.1, c.2, d2, d3, i1, i2, i3, i4]) rfl (hW.upd (by decide))
        · intro a w1 live S E D C h0 hk hW
          have d4 : a.eval (.tmp 30) = .pointer (some (al.add (i * 2))) := D 4 rfl _ _ rfl rfl
          have l10 := Reg.not_live C h0 (j := 10) rfl rfl
          have l11 := Reg.not_live C l10 (j := 11) rfl rfl
          have l14 := Reg.not_live C l11 (j := 14) rfl rfl
          have hb5 := hW.off l14
          obtain ⟨am, y0, ea, _, hy0, c0x, ckx⟩ := (HROW.out.on hb5).at_ zcl_len (by omega) HLi.out
          injection ea with ea
          subst ea
          rw [HX.out] at hy0
          injection hy0 with hy0
          subst hy0
          have hc0 := c0x _ rfl
          have hc1 := ckx 1 _ (by omega) rfl
          exact Rgs.val rfl (Reg.wanted_free rfl) (.agg #[.int .i64 x.p, .int .i64 x.z]) (by have c := Reg.consts a; generalize a.eval = ρ at *; simp [execOp, go_sem, c.1, c.2, d4, hc0, hc1]) rfl (hW.upd (by decide))
        · intro a w1 live S E D C h0 hk hW
          have e0 : a.eval (.tmp 0) = .slice (some al) n c0 := E 0 rfl
          exact Rgs.val rfl (Reg.wanted_free rfl) (.slice (some al) n c0) (by have c := Reg.consts a; generalize a.eval = ρ at *; simp [execOp, go_sem, c.1, c.2, e0]) rfl (hW.upd (by decide))
        · intro a w1 live S E D C h0 hk hW
          have e7 : a.eval (.tmp 7) = .int .i64 (j : Int) := E 7 rfl
          exact Rgs.val rfl (Reg.wanted_free rfl) (.int .i64 (j : Int)) (by have c := Reg.consts a; generalize a.eval = ρ at *; simp [execOp, go_sem, c.1, c.2, e7]) rfl (hW.upd (by decide))
        · intro a w1 live S E D C h0 hk hW
          have d6 : a.eval (.tmp 32) = .slice (some al) n c0 := D 6 rfl _ _ rfl rfl
          have d7 : a.eval (.tmp 33) = .int .i64 (j : Int) := D 7 rfl _ _ rfl rfl
          have i1 := HLT.out
          obtain ⟨i1, i2, i3, i4⟩ := i1
          exact Rgs.val rfl (Reg.wanted_free rfl) (.pointer (some (al.add (j * 2)))) (by have c := Reg.consts a; generalize a.eval = ρ at *; simp [execOp, go_sem, c.1, c.2, d6, d7, i1, i2, i3, i4]) rfl (hW.upd (by decide))
        · intro a w1 live S E D C h0 hk hW
          have d8 : a.eval (.tmp 34) = .pointer (some (al.add (j * 2))) := D 8 rfl _ _ rfl rfl
          have l10 := Reg.not_live C h0 (j := 10) rfl rfl
          have l11 := Reg.not_live C l10 (j := 11) rfl rfl
          have l14 := Reg.not_live C l11 (j := 14) rfl rfl
          have hb5 := hW.off l14
          obtain ⟨am, y0, ea, _, hy0, c0x, ckx⟩ := (HROW.out.on hb5).at_ zcl_len (by omega) HLj.out
          injection ea with ea
          subst ea
          rw [HY.out] at hy0
          injection hy0 with hy0
          subst hy0
          have hc0 := c0x _ rfl
          have hc1 := ckx 1 _ (by omega) rfl
          exact Rgs.val rfl (Reg.wanted_free rfl) (.agg #[.int .i64 y.p, .int .i64 y.z]) (by have c := Reg.consts a; generalize a.eval = ρ at *; simp [execOp, go_sem, c.1, c.2, d8, hc0, hc1]) rfl (hW.upd (by decide))
        · intro a w1 live S E D C h0 hk hW
          have d5 : a.eval (.tmp 31) = .agg #[.int .i64 x.p, .int .i64 x.z] := D 5 rfl _ _ rfl rfl
          have d9 : a.eval (.tmp 35) = .agg #[.int .i64 y.p, .int .i64 y.z] := D 9 rfl _ _ rfl rfl
          have l11 := Reg.not_live C h0 (j := 11) rfl rfl
          have l14 := Reg.not_live C l11 (j := 14) rfl rfl
          have hb5 := hW.off l14
          have hbl := bl1 w1 (.cells #[.int .i64 x.p, .int .i64 x.z, .int .i64 y.p, .int .i64 y.z] 39)
          refine Rgs.grow rfl (Reg.wanted_free rfl) (.slice (some ⟨w1.heap.size, 0, none⟩) 2 2) (w1.alloc (.cells #[.int .i64 x.p, .int .i64 x.z, .int .i64 y.p, .int .i64 y.z] 39)) (by have c := Reg.consts a; generalize a.eval = ρ at *; simp [execOp, go_sem, c.1, c.2, d5, d9]) ⟨w1.heap.size, rfl, hb5.size, by simp, ⟨rfl, rdV_new w1 _ _ _ rfl⟩⟩ (hW.more l14 hbl) ?_
          exact fun jq vq _ hv => by
              revert hv
              match jq with
              | 10 => exact fun h => h.on hbl
              | 0 | 1 | 2 | 3 | 4 | 5 | 6 | 7 | 8 | 9 | 11 | 12 | 13 | 14 | _ + 15 => exact fun h => h
        · intro a w1 live S E D C h0 hk hW
          obtain ⟨hg, d10, hg0, hg1, hgr⟩ : TwoX wb.heap.size x y (a.eval (.tmp 36)) w1 := D 10 rfl _ _ rfl rfl
          have l14 := Reg.not_live C h0 (j := 14) rfl rfl
          refine Rgs.call rfl (Reg.wanted_free rfl) 40 #[.slice (some ⟨hg, 0, none⟩) 2 2] (by have c := Reg.consts a; generalize a.eval = ρ at *; simp [execOp, go_sem, c.1, c.2, d10]) ?_
          refine (HLEN.out _ w1 hgr).mono ?_
          rintro e w5 ⟨rfl, hb5⟩
          exact ⟨_, rfl, rfl, hW.more l14 hb5, fun jq vq _ hv => by
              revert hv
              match jq with
              | 10 => exact fun h => h.on hb5
              | 0 | 1 | 2 | 3 | 4 | 5 | 6 | 7 | 8 | 9 | 11 | 12 | 13 | 14 | _ + 15 => exact fun h => h⟩
        · intro a w1 live S E D C h0 hk hW
          have d0 : a.eval (.tmp 26) = .slice (some ⟨g, 0, none⟩) n c := D 0 rfl _ _ rfl rfl
          have d1 : a.eval (.tmp 27) = .int .i64 (i : Int) := D 1 rfl _ _ rfl rfl
          have i1 := HLT.out
          obtain ⟨i1, i2, i3, i4⟩ := i1
          have ead := mk_add (g) (i * 2)
          exact Rgs.val rfl (Reg.wanted_free rfl) (.pointer (some ⟨g, i * 2, none⟩)) (by have c := Reg.consts a; generalize a.eval = ρ at *; simp [execOp, go_sem, c.1, c.2, d0, d1, i1, i2, i3, i4, ead]) rfl (hW.upd (by decide))
        · intro a w1 live S E D C h0 hk hW
          have d12 : a.eval (.tmp 38) = .pointer (some ⟨g, i * 2, none⟩) := D 12 rfl _ _ rfl rfl
          exact Rgs.val rfl (Reg.wanted_free rfl) (.pointer (some ⟨g, i * 2 + 1, none⟩)) (by have c := Reg.consts a; generalize a.eval = ρ at *; simp [execOp, go_sem, c.1, c.2, d12]) rfl (hW.upd (by decide))
        · intro a w1 live S E D C h0 hk hW
          have d11 : a.eval (.tmp 37) = .int .i64 (T : Int) := D 11 rfl _ _ rfl rfl
          have d13 : a.eval (.tmp 39) = .pointer (some ⟨g, i * 2 + 1, none⟩) := D 13 rfl _ _ rfl rfl
          have hb5 := hW.off h0
          obtain ⟨hc0, hfz⟩ := OwnB.cellK (HOB.out.below hb5) zcl_len (k := 1) HX.out (by omega) rfl
          refine Rgs.store rfl (Reg.wanted_free rfl) (w1.setCell ⟨g, i * 2 + 1, none⟩ (.int .i64 (T : Int))) (by have c := Reg.consts a; generalize a.eval = ρ at *; simp [execOp, go_sem, c.1, c.2, d11, d13, hc0, hfz]) rfl (hW.put h0) ?_
          exact fun jq vq _ hv => by
              revert hv
              match jq with
              | 10 => exact fun h => h.put (p := ⟨g, i * 2 + 1, none⟩) HGB.out
              | 0 | 1 | 2 | 3 | 4 | 5 | 6 | 7 | 8 | 9 | 11 | 12 | 13 | 14 | _ + 15 => exact fun h => h
      · intro a w3 live hs hd E D' Hl hW
        rw [Rgs.act_ws a _ _ hs hd E [26, 27, 28, 29, 30, 31, 32, 33, 34, 35, 36, 37, 38, 39] (by kernel_rfl)]
        simp only [List.foldl, List.setIfInBounds_toArray, List.set_cons_succ, List.set_cons_zero]
        obtain ⟨wz, hbz, rfl⟩ := hW.on (Hl 14 (by decide))
        have hz1 := OwnB.putK (HOB.out.below hbz) zcl_len (k := 1) (y := ⟨x.p, (T : Int)⟩) HX.out (by omega) (v := .int .i64 (T : Int)) rfl
        have HZ1 := Lib.hid hz1
        have HBZ : Hid (Below w.heap.size w (wz.setCell ⟨g, i * 2 + 1, none⟩ (.int .i64 (T : Int)))) := Lib.hid ((HBB.out.trans (hbz.mono HBB.out.size)).setCell (p := ⟨g, i * 2 + 1, none⟩) HGW.out _)
        clear E D' Hl hW hz1 hbz
        generalize a.eval = ρ
        clear a hs hd
        generalize wz.setCell ⟨g, i * 2 + 1, none⟩ (.int .i64 (T : Int)) = w4 at HZ1 HBZ ⊢
        have h2 : (Z.set i ⟨x.p, (T : Int)⟩)[j]? = some y := by rw [List.getElem?_set_ne (by omega)]; exact HY.out
        obtain ⟨k1, k2⟩ := OwnB.cellK HZ1.out zcl_len (k := 1) h2 (by omega) rfl
        have hz2 := OwnB.putK HZ1.out zcl_len (k := 1) (y := ⟨y.p, 0⟩) h2 (by omega) (v := .int .i64 0) rfl
        have HZ2 := Lib.hid hz2
        have HB2 : Hid (Below w.heap.size w (w4.setCell ⟨g, j * 2 + 1, none⟩ (.int .i64 0))) := Lib.hid (HBZ.out.setCell (p := ⟨g, j * 2 + 1, none⟩) HGW.out _)
        obtain ⟨i1, i2, i3, i4⟩ := HLT.out
        have ead := mk_add g (j * 2)
        clear hz2 h2
        go_upto_region 10 with fail
        clear k1 k2
        have hrw : RdR (w4.setCell ⟨g, j * 2 + 1, none⟩ (.int .i64 0)) (w4.setCell ⟨g, j * 2 + 1, none⟩ (.int .i64 0)).heap.size (some ⟨g, 0, none⟩) n (mv (Z.map clp) i j false) := zmv_row (by have := HZ2.out.rdb; rwa [HZM.out.2] at this)
        generalize w4.setCell ⟨g, j * 2 + 1, none⟩ (.int .i64 0) = w9 at HZ2 HB2 hrw ⊢
        have HT := Lib.hid (tidy_any (some ⟨g, 0, none⟩) n c (mv (Z.map clp) i j false) w9 hrw HZ2.out.cap (by omega) HTK.out.2)
        clear hrw
        go_wp2_with fail
        refine HT.out.mono ?_
        rintro e w10 ⟨A10, c10, rfl, hr10, hc10, hb10, _⟩
        have HR10 := Lib.hid (And.intro hr10 (HB2.out.trans (hb10.mono HB2.out.size)))
        clear hr10 hb10 HT
        go_wp2_with fail
        go_ret
        exact HOUT.out _ _ ⟨A10, c10, rfl, HR10.out.1, hc10, HR10.out.2⟩
    | true =>
      have HLEN := Lib.hid HL2.out
      go_upto_region 7 with fail
      go_quiet (fail)
      have hbd : Below wd.heap.size wd (wd.drewN nq) := Below.drewN (Below.refl _ _) nq
      have HOB := Lib.hid (HOD.out.below hbd)
      have HROW := Lib.hid (HRD.out.on hbd)
      have HBB := Lib.hid (HBD.out.trans (hbd.mono HBD.out.size))
      have HGB : Hid (g < (wd.drewN nq).heap.size) := Lib.hid (Nat.lt_of_lt_of_le HGD.out hbd.size)
      clear f0 f1 f2 hbd
      generalize wd.drewN nq = wb at HOB HROW HBB HGB ⊢
      go_upto_region 8 with fail
      refine Rgs.region (by kernel_rfl) (by kernel_rfl) (fun (opn : Nat) (vl : Value) (wo : World) => match opn with | 0 => vl = .slice (some ⟨g, 0, none⟩) n c | 1 => vl = .int .i64 (j : Int) | 2 => vl = .slice (some al) n c0 | 3 => vl = .int .i64 (j : Int) | 4 => vl = .pointer (some (al.add (j * 2))) | 5 => vl = .agg #[.int .i64 y.p, .int .i64 y.z] | 6 => vl = .slice (some al) n c0 | 7 => vl = .int .i64 (i : Int) | 8 => vl = .pointer (some (al.add (i * 2))) | 9 => vl = .agg #[.int .i64 x.p, .int .i64 x.z] | 10 => TwoX wb.heap.size y x vl wo | 11 => vl = .int .i64 (T : Int) | 12 => vl = .pointer (some ⟨g, j * 2, none⟩) | 13 => vl = .pointer (some ⟨g, j * 2 + 1, none⟩) | 14 => vl = undef | _ => True) (fun live _ w' => DoW wb ⟨g, j * 2 + 1, none⟩ (.int .i64 (T : Int)) live w') DoW.start (Rgs.steps_of ?_) ?_
      · refine ⟨?_, ?_, ?_, ?_, ?_, ?_, ?_, ?_, ?_, ?_, ?_, ?_, ?_, ?_, ?_, trivial⟩
        · intro a w1 live S E D C h0 hk hW
          have e5 : a.eval (.tmp 5) = .slice (some ⟨g, 0, none⟩) n c := E 5 rfl
          exact Rgs.val rfl (Reg.wanted_free rfl) (.slice (some ⟨g, 0, none⟩) n c) (by have c := Reg.consts a; generalize a.eval = ρ at *; simp [execOp, go_sem, c.1, c.2, e5]) rfl (hW.upd (by decide))
        · intro a w1 live S E D C h0 hk hW
          have e6 : a.eval (.tmp 6) = .int .i64 (j : Int) := E 6 rfl
          exact Rgs.val rfl (Reg.wanted_free rfl) (.int .i64 (j : Int)) (by have c := Reg.consts a; generalize a.eval = ρ at *; simp [execOp, go_sem, c.1, c.2, e6]) rfl (hW.upd (by decide))
        · intro a w1 live S E D C h0 hk hW
          have e0 : a.eval (.tmp 0) = .slice (some al) n c0 := E 0 rfl
          exact Rgs.val rfl (Reg.wanted_free rfl) (.slice (some al) n c0) (by have c := Reg.consts a; generalize a.eval = ρ at *; simp [execOp, go_sem, c.1, c.2, e0]) rfl (hW.upd (by decide))
        · intro a w1 live S E D C h0 hk hW
          have e6 : a.eval (.tmp 6) = .int .i64 (j : Int) := E 6 rfl
          exact Rgs.val rfl (Reg.wanted_free rfl) (.int .i64 (j : Int)) (by have c := Reg.consts a; generalize a.eval = ρ at *; simp [execOp, go_sem, c.1, c.2, e6]) rfl (hW.upd (by decide))
        · intro a w1 live S E D C h0 hk hW
          have d2 : a.eval (.tmp 28) = .slice (some al) n c0 := D 2 rfl _ _ rfl rfl
          have d3 : a.eval (.tmp 29) = .int .i64 (j : Int) := D 3 rfl _ _ rfl rfl
          have i1 := HLT.out
          obtain ⟨i1, i2, i3, i4⟩ := i1
          exact Rgs.val rfl (Reg.wanted_free rfl) (.pointer (some (al.add (j * 2)))) (by have c := Reg.consts a; generalize a.eval = ρ at *; simp [execOp, go_sem, c.1, c.2, d2, d3, i1, i2, i3, i4]) rfl (hW.upd (by decide))
        · intro a w1 live S E D C h0 hk hW
          have d4 : a.eval (.tmp 30) = .pointer (some (al.add (j * 2))) := D 4 rfl _ _ rfl rfl
          have l10 := Reg.not_live C h0 (j := 10) rfl rfl
          have l11 := Reg.not_live C l10 (j := 11) rfl rfl
          have l14 := Reg.not_live C l11 (j := 14) rfl rfl
          have hb5 := hW.off l14
          obtain ⟨am, y0, ea, _, hy0, c0x, ckx⟩ := (HROW.out.on hb5).at_ zcl_len (by omega) HLj.out
          injection ea with ea
          subst ea
          rw [HY.out] at hy0
          injection hy0 with hy0
          subst hy0
          have hc0 := c0x _ rfl
          have hc1 := ckx 1 _ (by omega) rfl
          exact Rgs.val rfl (Reg.wanted_free rfl) (.agg #[.int .i64 y.p, .int .i64 y.z]) (by have c := Reg.consts a; generalize a.eval = ρ at *; simp [execOp, go_sem, c.1, c.2, d4, hc0, hc1]) rfl (hW.upd (by decide))
        · intro a w1 live S E D C h0 hk hW
          have e0 : a.eval (.tmp 0) = .slice (some al) n c0 := E 0 rfl
          exact Rgs.val rfl (Reg.wanted_free rfl) (.slice (some al) n c0) (by have c := Reg.consts a; generalize a.eval = ρ at *; simp [execOp, go_sem, c.1, c.2, e0]) rfl (hW.upd (by decide))
        · intro a w1 live S E D C h0 hk hW
          have e7 : a.eval (.tmp 7) = .int .i64 (i : Int) := E 7 rfl
          exact Rgs.val rfl (Reg.wanted_free rfl) (.int .i64 (i : Int)) (by have c := Reg.consts a; generalize a.eval = ρ at *; simp [execOp, go_sem, c.1, c.2, e7]) rfl (hW.upd (by decide))
        · intro a w1 live S E D C h0 hk hW
          have d6 : a.eval (.tmp 32) = .slice (some al) n c0 := D 6 rfl _ _ rfl rfl
          have d7 : a.eval (.tmp 33) = .int .i64 (i : Int) := D 7 rfl _ _ rfl rfl
          have i1 := HLT.out
          obtain ⟨i1, i2, i3, i4⟩ := i1
          exact Rgs.val rfl (Reg.wanted_free rfl) (.pointer (some (al.add (i * 2)))) (by have c := Reg.consts a; generalize a.eval = ρ at *; simp [execOp, go_sem, c.1, c.2, d6, d7, i1, i2, i3, i4]) rfl (hW.upd (by decide))
        · intro a w1 live S E D C h0 hk hW
          have d8 : a.eval (.tmp 34) = .pointer (some (al.add (i * 2))) := D 8 rfl _ _ rfl rfl
          have l10 := Reg.not_live C h0 (j := 10) rfl rfl
          have l11 := Reg.not_live C l10 (j := 11) rfl rfl
          have l14 := Reg.not_live C l11 (j := 14) rfl rfl
          have hb5 := hW.off l14
          obtain ⟨am, y0, ea, _, hy0, c0x, ckx⟩ := (HROW.out.on hb5).at_ zcl_len (by omega) HLi.out
          injection ea with ea
          subst ea
          rw [HX.out] at hy0
          injection hy0 with hy0
          subst hy0
          have hc0 := c0x _ rfl
          have hc1 := ckx 1 _ (by omega) rfl
          exact Rgs.val rfl (Reg.wanted_free rfl) (.agg #[.int .i64 x.p, .int .i64 x.z]) (by have c := Reg.consts a; generalize a.eval = ρ at *; simp [execOp, go_sem, c.1, c.2, d8, hc0, hc1]) rfl (hW.upd (by decide))
        · intro a w1 live S E D C h0 hk hW
          have d5 : a.eval (.tmp 31) = .agg #[.int .i64 y.p, .int .i64 y.z] := D 5 rfl _ _ rfl rfl
          have d9 : a.eval (.tmp 35) = .agg #[.int .i64 x.p, .int .i64 x.z] := D 9 rfl _ _ rfl rfl
          have l11 := Reg.not_live C h0 (j := 11) rfl rfl
          have l14 := Reg.not_live C l11 (j := 14) rfl rfl
          have hb5 := hW.off l14
          have hbl := bl1 w1 (.cells #[.int .i64 y.p, .int .i64 y.z, .int .i64 x.p, .int .i64 x.z] 39)
          refine Rgs.grow rfl (Reg.wanted_free rfl) (.slice (some ⟨w1.heap.size, 0, none⟩) 2 2) (w1.alloc (.cells #[.int .i64 y.p, .int .i64 y.z, .int .i64 x.p, .int .i64 x.z] 39)) (by have c := Reg.consts a; generalize a.eval = ρ at *; simp [execOp, go_sem, c.1, c.2, d5, d9]) ⟨w1.heap.size, rfl, hb5.size, by simp, ⟨rfl, rdV_new w1 _ _ _ rfl⟩⟩ (hW.more l14 hbl) ?_
          exact fun jq vq _ hv => by
              revert hv
              match jq with
              | 10 => exact fun h => h.on hbl
              | 0 | 1 | 2 | 3 | 4 | 5 | 6 | 7 | 8 | 9 | 11 | 12 | 13 | 14 | _ + 15 => exact fun h => h
        · intro a w1 live S E D C h0 hk hW
          obtain ⟨hg, d10, hg0, hg1, hgr⟩ : TwoX wb.heap.size y x (a.eval (.tmp 36)) w1 := D 10 rfl _ _ rfl rfl
          have l14 := Reg.not_live C h0 (j := 14) rfl rfl
          refine Rgs.call rfl (Reg.wanted_free rfl) 40 #[.slice (some ⟨hg, 0, none⟩) 2 2] (by have c := Reg.consts a; generalize a.eval = ρ at *; simp [execOp, go_sem, c.1, c.2, d10]) ?_
          refine (HLEN.out _ w1 hgr).mono ?_
          rintro e w5 ⟨rfl, hb5⟩
          exact ⟨_, rfl, rfl, hW.more l14 hb5, fun jq vq _ hv => by
              revert hv
              match jq with
              | 10 => exact fun h => h.on hb5
              | 0 | 1 | 2 | 3 | 4 | 5 | 6 | 7 | 8 | 9 | 11 | 12 | 13 | 14 | _ + 15 => exact fun h => h⟩
        · intro a w1 live S E D C h0 hk hW
          have d0 : a.eval (.tmp 26) = .slice (some ⟨g, 0, none⟩) n c := D 0 rfl _ _ rfl rfl
          have d1 : a.eval (.tmp 27) = .int .i64 (j : Int) := D 1 rfl _ _ rfl rfl
          have i1 := HLT.out
          obtain ⟨i1, i2, i3, i4⟩ := i1
          have ead := mk_add (g) (j * 2)
          exact Rgs.val rfl (Reg.wanted_free rfl) (.pointer (some ⟨g, j * 2, none⟩)) (by have c := Reg.consts a; generalize a.eval = ρ at *; simp [execOp, go_sem, c.1, c.2, d0, d1, i1, i2, i3, i4, ead]) rfl (hW.upd (by decide))
        · intro a w1 live S E D C h0 hk hW
          have d12 : a.eval (.tmp 38) = .pointer (some ⟨g, j * 2, none⟩) := D 12 rfl _ _ rfl rfl
          exact Rgs.val rfl (Reg.wanted_free rfl) (.pointer (some ⟨g, j * 2 + 1, none⟩)) (by have c := Reg.consts a; generalize a.eval = ρ at *; simp [execOp, go_sem, c.1, c.2, d12]) rfl (hW.upd (by decide))
        · intro a w1 live S E D C h0 hk hW
          have d11 : a.eval (.tmp 37) = .int .i64 (T : Int) := D 11 rfl _ _ rfl rfl
          have d13 : a.eval (.tmp 39) = .pointer (some ⟨g, j * 2 + 1, none⟩) := D 13 rfl _ _ rfl rfl
          have hb5 := hW.off h0
          obtain ⟨hc0, hfz⟩ := OwnB.cellK (HOB.out.below hb5) zcl_len (k := 1) HY.out (by omega) rfl
          refine Rgs.store rfl (Reg.wanted_free rfl) (w1.setCell ⟨g, j * 2 + 1, none⟩ (.int .i64 (T : Int))) (by have c := Reg.consts a; generalize a.eval = ρ at *; simp [execOp, go_sem, c.1, c.2, d11, d13, hc0, hfz]) rfl (hW.put h0) ?_
          exact fun jq vq _ hv => by
              revert hv
              match jq with
              | 10 => exact fun h => h.put (p := ⟨g, j * 2 + 1, none⟩) HGB.out
              | 0 | 1 | 2 | 3 | 4 | 5 | 6 | 7 | 8 | 9 | 11 | 12 | 13 | 14 | _ + 15 => exact fun h => h
      · intro a w3 live hs hd E D' Hl hW
        rw [Rgs.act_ws a _ _ hs hd E [26, 27, 28, 29, 30, 31, 32, 33, 34, 35, 36, 37, 38, 39] (by kernel_rfl)]
        simp only [List.foldl, List.setIfInBounds_toArray, List.set_cons_succ, List.set_cons_zero]
        obtain ⟨wz, hbz, rfl⟩ := hW.on (Hl 14 (by decide))
        have hz1 := OwnB.putK (HOB.out.below hbz) zcl_len (k := 1) (y := ⟨y.p, (T : Int)⟩) HY.out (by omega) (v := .int .i64 (T : Int)) rfl
        have HZ1 := Lib.hid hz1
        have HBZ : Hid (Below w.heap.size w (wz.setCell ⟨g, j * 2 + 1, none⟩ (.int .i64 (T : Int)))) := Lib.hid ((HBB.out.trans (hbz.mono HBB.out.size)).setCell (p := ⟨g, j * 2 + 1, none⟩) HGW.out _)
        clear E D' Hl hW hz1 hbz
        generalize a.eval = ρ
        clear a hs hd
        generalize wz.setCell ⟨g, j * 2 + 1, none⟩ (.int .i64 (T : Int)) = w4 at HZ1 HBZ ⊢
        have h2 : (Z.set j ⟨y.p, (T : Int)⟩)[i]? = some x := by rw [List.getElem?_set_ne (by omega)]; exact HX.out
        obtain ⟨k1, k2⟩ := OwnB.cellK HZ1.out zcl_len (k := 1) h2 (by omega) rfl
        have hz2 := OwnB.putK HZ1.out zcl_len (k := 1) (y := ⟨x.p, 0⟩) h2 (by omega) (v := .int .i64 0) rfl
        have HZ2 := Lib.hid hz2
        have HB2 : Hid (Below w.heap.size w (w4.setCell ⟨g, i * 2 + 1, none⟩ (.int .i64 0))) := Lib.hid (HBZ.out.setCell (p := ⟨g, i * 2 + 1, none⟩) HGW.out _)
        obtain ⟨i1, i2, i3, i4⟩ := HLT.out
        have ead := mk_add g (i * 2)
        clear hz2 h2
        go_upto_region 10 with fail
        clear k1 k2
        have hrw : RdR (w4.setCell ⟨g, i * 2 + 1, none⟩ (.int .i64 0)) (w4.setCell ⟨g, i * 2 + 1, none⟩ (.int .i64 0)).heap.size (some ⟨g, 0, none⟩) n (mv (Z.map clp) i j true) := zmv_row (by have := HZ2.out.rdb; rwa [HZM.out.1] at this)
        generalize w4.setCell ⟨g, i * 2 + 1, none⟩ (.int .i64 0) = w9 at HZ2 HB2 hrw ⊢
        have HT := Lib.hid (tidy_any (some ⟨g, 0, none⟩) n c (mv (Z.map clp) i j true) w9 hrw HZ2.out.cap (by omega) HTK.out.1)
        clear hrw
        go_wp2_with fail
        refine HT.out.mono ?_
        rintro e w10 ⟨A10, c10, rfl, hr10, hc10, hb10, _⟩
        have HR10 := Lib.hid (And.intro hr10 (HB2.out.trans (hb10.mono HB2.out.size)))
        clear hr10 hb10 HT
        go_wp2_with fail
        go_ret
        exact HOUT.out _ _ ⟨A10, c10, rfl, HR10.out.1, hc10, HR10.out.2⟩
/-- Of a row of natural numbers. -/
theorem do_any (A : Option Addr) (n c0 : Nat) (L : List Rn) (I J : Int) (rt : Bool) (w : World) (h : RdR w w.heap.size A n L) (hc : n ≤ c0) (hn : n ≤ 1048576) (ht : ticks L ≤ 1099511627776) :
    Calls Try.prog 18 #[.slice A n c0, .agg #[.int .i64 I, .int .i64 J, .bool rt]] w (RowQ (doZ L I J rt) w) := by
  have hlen := h.len
  refine (mdo_any A n c0 (L.map zOf) I J rt w h.z hc hn (by rw [clp_zOf]; exact ht) (fun _ k r hr _ _ => ?_)).mono ?_
  · rw [List.getElem?_map] at hr
    cases hL : L[k]? with
    | none => rw [hL] at hr; cases hr
    | some x =>
      rw [hL] at hr
      injection hr with hr
      subst hr
      show (0 : Int) ≤ (x.n : Int)
      omega
  · rintro e w' ⟨h1, h2⟩
    rw [clp_zOf] at h1
    unfold doZ
    by_cases hp : 0 ≤ I ∧ I < J ∧ J < (L.length : Int)
    · rw [if_pos hp]
      exact h1 (by unfold plcZ; rw [← hlen]; simp [hp.1, hp.2.1, hp.2.2])
    · rw [if_neg hp]
      obtain ⟨A', c', e1, e2, e3, e4⟩ := h2 (by unfold plcZ; rw [← hlen, Bool.eq_false_iff]; simpa using hp)
      subst hlen
      exact ⟨A', c', e1, zmv_row e2, e3, e4⟩
end Go.Proofs.Ytoaocdmcjjohgaa

/- Who sways whom at once, as a matrix, by the program. -/
namespace Go.Proofs.Ytoaocdmcjjohgaa
open Go.RowKit Tab
set_option linter.unusedSimpArgs false
set_option linter.unusedVariables false

theorem RdV.other {w : World} {B : Nat} {A : Option Addr} {l : List Value} (h : RdV w B A l) (p : Addr) (v : Value) (hp : ∀ b, obk A = some b → b ≠ p.block) : RdV (w.setCell p v) B A l := fun hl => by
  obtain ⟨ad, e, hb, hc⟩ := h hl
  refine ⟨ad, e, hb, fun j u hj => ?_⟩
  rw [World.cell?_of_block (Below.heap_setCell w p v (ad.add j).block (by rw [add_block]; exact hp _ (by rw [e]; rfl)))]
  exact hc j u hj
theorem RdI.other {w : World} {B n : Nat} {A : Option Addr} {l : List Int} (h : RdI w B A n l) (p : Addr) (v : Value) (hp : ∀ b, obk A = some b → b ≠ p.block) : RdI (w.setCell p v) B A n l := ⟨h.len, h.rd.other p v hp⟩
/-- The rows of those of R ahead of i are full; row a is up to j. -/
def mR (m : Nat → Nat → Bool) (R : List Nat) (i a j x y : Nat) : Bool := m x y || decide (x ∈ R.take i) || (decide (x = a) && decide (y < j))
theorem mR_put (m : Nat → Nat → Bool) (R : List Nat) (i a j x y : Nat) : put2 (mR m R i a j) a j true x y = mR m R i a (j + 1) x y := by
  unfold put2 mR
  by_cases h1 : x = a ∧ y = j
  · rw [if_pos h1, h1.1, h1.2]; simp
  · rw [if_neg h1]
    congr 1
    by_cases h2 : x = a
    · have h3 : y ≠ j := fun e => h1 ⟨h2, e⟩
      have h4 : (y < j) = (y < j + 1) := by simp; omega
      simp [h2, h4]
    · simp [h2]
theorem mR_row {m : Nat → Nat → Bool} {R : List Nat} {i a n x y : Nat} (h : R[i]? = some a) (hy : y < n) : mR m R i a n x y = mR m R (i + 1) 0 0 x y := by
  unfold mR
  rw [take_one h]
  simp only [List.mem_append, List.mem_singleton, hy, decide_true, Bool.and_true, Nat.not_lt_zero, decide_false, Bool.and_false, Bool.or_false]
  rw [Bool.eq_iff_iff]
  simp only [Bool.or_eq_true, decide_eq_true_eq, or_assoc]
theorem swayF_mR {P : List PtV} {C : List ChV} {n i a b : Nat} {L : List (Nat × Nat)} {R : List Nat} (hn : P.length = n) (hL : L = wayL n (C.map chOf)) (hR : R = rulL (P.map ptOf)) (hi : R.length ≤ i) : mR (mS L) R i 0 0 a b = swayF (P.map ptOf) (C.map chOf) a b := by
  rw [Bool.eq_iff_iff, swayF_iff, List.length_map, hn]
  unfold mR mS
  rw [List.take_of_length_le hi, hL, hR]
  simp only [Bool.or_eq_true, Bool.and_eq_true, decide_eq_true_eq, Nat.not_lt_zero, and_false, or_false]
  unfold rulL
  rw [mem_plcs, Bool.or_eq_true]
  have hs : schedOf (P.map ptOf) a = true → a < (P.map ptOf).length := fun h => by
    unfold schedOf at h
    rcases Nat.lt_or_ge a (P.map ptOf).length with h1 | h1
    · exact h1
    · rw [List.getElem?_eq_none h1] at h; cases h
  have ht : stopOf (P.map ptOf) a = true → a < (P.map ptOf).length := fun h => by
    unfold stopOf at h
    rcases Nat.lt_or_ge a (P.map ptOf).length with h1 | h1
    · exact h1
    · rw [List.getElem?_eq_none h1] at h; cases h
  constructor
  · rintro ((h | h) | ⟨_, h | h⟩)
    · exact .inl h
    · exact .inr (.inr (.inr h))
    · exact .inr (.inl h)
    · exact .inr (.inr (.inl h))
  · rintro (h | h | h | h)
    · exact .inl (.inl h)
    · exact .inr ⟨hs h, .inl h⟩
    · exact .inr ⟨ht h, .inr h⟩
    · exact .inl (.inr h)
end Go.Proofs.Ytoaocdmcjjohgaa

/- May two be turned about: by the program. -/
namespace Go.Proofs.Ytoaocdmcjjohgaa
open Go.RowKit Tab
set_option linter.unusedSimpArgs false
set_option linter.unusedVariables false

def freeF (P : List Pt) (C : List Ch) (a b : Int) : Bool := (decide (a = -1) || inP P.length a) && (decide (b = -1) || inP P.length b) && (decide (a = -1) || decide (b = -1) || !depF P C a.toNat b.toNat)
theorem inP_no {n : Nat} {p : Int} (h : p = -1) : inP n p = false := by rw [Bool.eq_false_iff]; intro e; rw [inP_iff] at e; omega
set_option maxRecDepth 100000 in
set_option maxHeartbeats 1600000 in
theorem free_any (A1 A2 A3 : Option Addr) (n1 n2 n3 c1 c2 c3 : Nat) (P : List PtV) (C : List ChV) (a b : Int) (w : World) (h : CfW w w.heap.size A1 A2 n1 n2 P C) (q1 : n1 ≤ 1048576) (q2 : n2 ≤ 1048576) :
    Calls Try.prog 63 #[.agg #[.slice A1 n1 c1, .slice A2 n2 c2, .slice A3 n3 c3], .int .i64 a, .int .i64 b] w (Ans (.bool (freeF (P.map ptOf) (C.map chOf) a b)) w) := by
  have hlen : P.length = n1 := h.p.len
  obtain ⟨v, hv⟩ : ∃ v, v = freeF (P.map ptOf) (C.map chOf) a b := ⟨_, rfl⟩
  rw [← hv]
  unfold freeF at hv
  rw [List.length_map, hlen] at hv
  have HV := Lib.hid hv
  have hbw := bl1 w (.cells #[.slice A1 n1 c1, .slice A2 n2 c2, .slice A3 n3 c3] 31)
  have hbox := box_vec w (.slice A1 n1 c1) (.slice A2 n2 c2) (.slice A3 n3 c3) 31
  have hCf := h.on hbw
  have hgsz : w.heap.size < (w.alloc (.cells #[.slice A1 n1 c1, .slice A2 n2 c2, .slice A3 n3 c3] 31)).heap.size := by simp
  have HB0 := Lib.hid hbw
  have HHAS := Lib.hid fun (p : Int) (w' : World) => has_any A1 A2 A3 n1 n2 n3 c1 c2 c3 p w'
  clear h hbw hlen hv
  obtain ⟨m0, m1, m2⟩ := hbox.three
  go_enter Try.func63, Try.ntmps63
  go_upto_region 1 with fail
  generalize w.alloc (.cells #[.slice A1 n1 c1, .slice A2 n2 c2, .slice A3 n3 c3] 31) = W at HB0 hCf hbox m0 m1 m2 hgsz ⊢
  obtain ⟨gb, hgb⟩ : ∃ gb, gb = w.heap.size := ⟨_, rfl⟩
  rw [← hgb] at hbox m0 m1 m2 hgsz ⊢
  have HBOX := Lib.hid hbox
  have HCF := Lib.hid hCf
  have HGZ := Lib.hid hgsz
  clear hgb hbox hCf hgsz
  by_cases ha : a = -1
  · have t1 : (a == -1) = true := by simp [ha]
    by_cases hb : b = -1
    · have t2 : (b == -1) = true := by simp [hb]
      have hvt : v = true := by rw [HV.out]; simp [ha, hb]
      subst hvt
      clear ha hb
      go_wp2_with fail
      go_ret
      exact ⟨rfl, HB0.out⟩
    · have t2 : (b == -1) = false := by simp [hb]
      have hvt : v = inP n1 b := by rw [HV.out]; simp [ha, hb]
      have HF := Lib.hid (HHAS.out b W)
      rw [← hvt] at HF
      clear ha hb hvt
      go_wp2_with fail
      refine HF.out.mono ?_
      rintro e w2 ⟨rfl, hb2⟩
      go_wp2_with fail
      go_ret
      exact ⟨rfl, HB0.out.trans (hb2.mono HB0.out.size)⟩
  · have t1 : (a == -1) = false := by simp [ha]
    by_cases hb : b = -1
    · have t2 : (b == -1) = true := by simp [hb]
      have hvt : v = inP n1 a := by rw [HV.out]; simp [ha, hb]
      have HF := Lib.hid (HHAS.out a W)
      rw [← hvt] at HF
      clear ha hb hvt
      go_wp2_with fail
      refine HF.out.mono ?_
      rintro e w2 ⟨rfl, hb2⟩
      go_wp2_with fail
      go_ret
      exact ⟨rfl, HB0.out.trans (hb2.mono HB0.out.size)⟩
    · have t2 : (b == -1) = false := by simp [hb]
      have hvt : v = (inP n1 a && inP n1 b && !depF (P.map ptOf) (C.map chOf) a.toNat b.toNat) := by rw [HV.out]; simp [ha, hb]
      have HVT := Lib.hid hvt
      have HF := Lib.hid (HHAS.out a W)
      clear ha hb hvt
      cases hia : inP n1 a with
      | false =>
        rw [hia] at HF
        have hvf : v = false := by rw [HVT.out, hia]; rfl
        subst hvf
        clear hia
        go_wp2_with fail
        refine HF.out.mono ?_
        rintro e w2 ⟨rfl, hb2⟩
        go_wp2_with fail
        go_ret
        exact ⟨rfl, HB0.out.trans (hb2.mono HB0.out.size)⟩
      | true =>
        rw [hia] at HF
        have HIA := Lib.hid hia
        clear hia
        go_wp2_with fail
        refine HF.out.mono ?_
        rintro e w2 ⟨rfl, hb2⟩
        obtain ⟨m0, m1, m2⟩ := (HBOX.out.below hb2 HGZ.out).three
        have HF := Lib.hid (HHAS.out b w2)
        have HB2 := Lib.hid hb2
        clear hb2
        cases hib : inP n1 b with
        | false =>
          rw [hib] at HF
          have hvf : v = false := by rw [HVT.out, hib, Bool.and_false, Bool.false_and]
          subst hvf
          clear hib
          go_wp2_with fail
          refine HF.out.mono ?_
          rintro e w3 ⟨rfl, hb3⟩
          have hb4 := HB2.out.trans (hb3.mono HB2.out.size)
          go_wp2_with fail
          go_ret
          exact ⟨rfl, HB0.out.trans (hb4.mono HB0.out.size)⟩
        | true =>
          rw [hib] at HF
          have g1 := inP_iff.1 HIA.out
          have g2 := inP_iff.1 hib
          have hvf : v = !depF (P.map ptOf) (C.map chOf) a.toNat b.toNat := by rw [HVT.out, HIA.out, hib]; rfl
          obtain ⟨x, rfl⟩ := Int.eq_ofNat_of_zero_le g1.1
          obtain ⟨y, rfl⟩ := Int.eq_ofNat_of_zero_le g2.1
          rw [Int.toNat_natCast, Int.toNat_natCast] at hvf
          have HG1 := Lib.hid g1
          have HG2 := Lib.hid g2
          have HVF := Lib.hid hvf
          clear hib g1 g2 hvf
          go_wp2_with fail
          refine HF.out.mono ?_
          rintro e w3 ⟨rfl, hb3⟩
          have hb4 := HB2.out.trans (hb3.mono HB2.out.size)
          obtain ⟨m0, m1, m2⟩ := (HBOX.out.below hb4 HGZ.out).three
          have HD := Lib.hid (depend_any A1 A2 A3 n1 n2 n3 c1 c2 c3 P C x y w3 (HCF.out.on hb4) q1 q2 (by have := HG1.out; omega) (by have := HG2.out; omega))
          generalize depF (P.map ptOf) (C.map chOf) x y = q at HD HVF
          have hvq := HVF.out
          subst hvq
          clear hb3
          go_wp2_with fail
          refine HD.out.mono ?_
          rintro e w5 ⟨rfl, hb5⟩
          have hb6 := hb4.trans (hb5.mono hb4.size)
          go_wp2_with fail
          go_ret
          exact ⟨rfl, HB0.out.trans (hb6.mono HB0.out.size)⟩
end Go.Proofs.Ytoaocdmcjjohgaa

/- Package move: is a partition of a configuration; does one depend on any of those that have runs in a row? -/
namespace Go.Proofs.Ytoaocdmcjjohgaa
open Go.RowKit Tab
set_option linter.unusedSimpArgs false
set_option linter.unusedVariables false

set_option maxHeartbeats 400000 in
theorem mhas_any (A1 A2 A3 : Option Addr) (n1 n2 n3 c1 c2 c3 : Nat) (p : Int) (w : World) : Calls Try.prog 62 #[.agg #[.slice A1 n1 c1, .slice A2 n2 c2, .slice A3 n3 c3], .int .i64 p] w (Ans (.bool (inP n1 p)) w) := by
  go_enter Try.func62, Try.ntmps62
  go_wp2
  all_goals
    go_ret
    refine Ans.mk (congrArg Value.bool ?_) (bl1 _ _)
    rw [Bool.eq_iff_iff, inP_iff]
    simp only [decide_eq_true_eq, Bool.false_eq_true, iff_false] at *
    omega
/-- Is one tied to another? -/
def tieB (n : Nat) (P : List PtV) (C : List ChV) (p q : Int) : Bool := inP n p && (inP n q && !freeF (P.map ptOf) (C.map chOf) p q)
theorem tieB_way {P : List PtV} {C : List ChV} {n : Nat} (hn : P.length = n) {p q : Int} (h : q ≠ p) : tieB n P C p q = wayP (depW n (depF (P.map ptOf) (C.map chOf))) p q := by
  rw [wayP_ne h]
  unfold tieB depW
  rw [decide_eq_false (show ¬ p = q from fun e => h e.symm), Bool.false_or]
  cases h1 : inP n p with
  | false => simp
  | true =>
    cases h2 : inP n q with
    | false => simp
    | true =>
      have e1 := inP_iff.1 h1
      have e2 := inP_iff.1 h2
      unfold freeF
      rw [List.length_map, hn, h1, h2, decide_eq_false (show ¬ p = -1 by omega), decide_eq_false (show ¬ q = -1 by omega), decide_eq_true (show p ≠ -1 by omega), decide_eq_true (show q ≠ -1 by omega), depF_sym _ _ q.toNat p.toNat]
      simp
set_option maxRecDepth 100000 in
set_option maxHeartbeats 4000000 in
theorem tied_any (A1 A2 A3 A : Option Addr) (n1 n2 n3 n c1 c2 c3 c : Nat) (P : List PtV) (C : List ChV) (ps : List Int) (p : Int) (w : World) (hCf : CfW w w.heap.size A1 A2 n1 n2 P C) (h : RdP w w.heap.size A n ps)
    (q1 : n1 ≤ 1048576) (q2 : n2 ≤ 1048576) (hc : n ≤ c) (hn : n ≤ 1048576) :
    Calls Try.prog 51 #[.agg #[.slice A1 n1 c1, .slice A2 n2 c2, .slice A3 n3 c3], .int .i64 p, .slice A n c] w (Ans (.bool (ps.any (tieB n1 P C p))) w) := by
  have hb0 := bl1 w (.cells #[.slice A1 n1 c1, .slice A2 n2 c2, .slice A3 n3 c3] 31)
  have hbox := box_vec w (.slice A1 n1 c1) (.slice A2 n2 c2) (.slice A3 n3 c3) 31
  have HB0 := Lib.hid hb0
  have HCF := Lib.hid (hCf.on hb0)
  have HP := Lib.hid (h.on hb0)
  have HLN := Lib.hid h.len
  clear hCf h hb0
  obtain ⟨v, hv⟩ : ∃ v, v = ps.any (tieB n1 P C p) := ⟨_, rfl⟩
  rw [← hv]
  have HV := Lib.hid hv
  clear hv
  go_enter Try.func51, Try.ntmps51
  go_upto_region 1 with fail
  generalize w.alloc (.cells #[.slice A1 n1 c1, .slice A2 n2 c2, .slice A3 n3 c3] 31) = W at HB0 HCF HP hbox ⊢
  obtain ⟨gc, hgc⟩ : ∃ gc, gc = w.heap.size := ⟨_, rfl⟩
  rw [← hgc] at hbox ⊢
  clear hgc
  have HBX := Lib.hid hbox
  clear hbox
  go_wp2_with fail
  go_loopw [8, 11] (fun _ s wr => ∃ k : Nat, k ≤ n ∧ s = .int .i64 k ∧ (ps.take k).any (tieB n1 P C p) = false ∧ Below W.heap.size W wr) (fun _ s _ => n - (intOf s).toNat)
  case atStart => exact ⟨0, by omega, rfl, rfl, Below.refl _ _⟩
  case round =>
    obtain ⟨k, hk, rfl, hany, hb⟩ := hrel
    have HANY := Lib.hid hany
    clear hany
    by_cases hkn : k < n
    · have hkni : (k : Int) < (n : Int) := by omega
      obtain ⟨am, q, z, rfl, hab, hq, c0, c1'⟩ := (HP.out.on hb).at_ k hkn
      have hmo : (ps.take (k + 1)).any (tieB n1 P C p) = ((ps.take k).any (tieB n1 P C p) || tieB n1 P C p q) := any_more (tieB n1 P C p) hq
      have hme : tieB n1 P C p q = true → v = true := fun h => by rw [HV.out]; exact any_mem (tieB n1 P C p) hq h
      have HMO := Lib.hid hmo
      have HME := Lib.hid hme
      have hbl := bl1 wr (.cells #[.int .i64 q, .int .i64 z] 39)
      have g0 : (wr.alloc (.cells #[.int .i64 q, .int .i64 z] 39)).cell? ⟨wr.heap.size, 0, none⟩ = some (.int .i64 q) := World.cell?_alloc_mark _ _ _ _ _
      have hbb := hb.trans (hbl.mono hb.size)
      have HBB := Lib.hid hbb
      have HB1 := Lib.hid (HB0.out.trans (hbb.mono HB0.out.size))
      obtain ⟨m0, m1, m2⟩ := (HBX.out.on hbb).three
      clear hmo hme hbl hq hb hbb
      go_upto_region 4 with fail
      generalize wr.alloc (.cells #[.int .i64 q, .int .i64 z] 39) = W2 at g0 HB1 HBB m0 m1 m2 ⊢
      generalize wr.heap.size = gx at g0 ⊢
      have hgx : gx < W2.heap.size := World.block_lt_of_cell? _ _ g0
      have HGX := Lib.hid hgx
      have HG0 := Lib.hid g0
      clear hgx
      clear c0 c1' hab
      have HH1 := Lib.hid fun W => mhas_any A1 A2 A3 n1 n2 n3 c1 c2 c3 p W
      have HH2 := Lib.hid fun W => mhas_any A1 A2 A3 n1 n2 n3 c1 c2 c3 q W
      have HFR := Lib.hid fun W (hb : Below W2.heap.size W2 W) => free_any A1 A2 A3 n1 n2 n3 c1 c2 c3 P C p q W ((HCF.out.on HBB.out).on hb) q1 q2
      have htb : tieB n1 P C p q = (inP n1 p && (inP n1 q && !freeF (P.map ptOf) (C.map chOf) p q)) := rfl
      rw [htb] at HMO HME
      clear htb
      generalize inP n1 p = b1 at HH1 HMO HME
      generalize inP n1 q = b2 at HH2 HMO HME
      generalize freeF (P.map ptOf) (C.map chOf) p q = f at HFR HMO HME
      cases b1 with
      | false =>
        have HN : Hid ((ps.take (k + 1)).any (tieB n1 P C p) = false) := Lib.hid (by rw [HMO.out, HANY.out]; rfl)
        clear HMO HME
        go_wp2_with fail
        refine (HH1.out W2).mono ?_
        rintro e w5 ⟨rfl, hb5⟩
        have HS5 := Lib.hid hb5
        clear hb5 m0 m1 m2 g0
        go_wp2_with fail
        go_roundw
        case rel => exact ⟨k + 1, by omega, by go_num, HN.out, HBB.out.trans (HS5.out.mono HBB.out.size)⟩
        case measure => simp [intOf]; omega
      | true =>
        cases b2 with
        | false =>
          have HN : Hid ((ps.take (k + 1)).any (tieB n1 P C p) = false) := Lib.hid (by rw [HMO.out, HANY.out]; rfl)
          clear HMO HME
          go_wp2_with fail
          refine (HH1.out W2).mono ?_
          rintro e w5 ⟨rfl, hb5⟩
          have HS5 := Lib.hid hb5
          clear hb5 m0 m1 m2 g0
          obtain ⟨m0, m1, m2⟩ := (HBX.out.on (HBB.out.trans (HS5.out.mono HBB.out.size))).three
          have g0 := (HS5.out.cell (p := ⟨gx, 0, none⟩) HGX.out).trans HG0.out
          go_wp2_with fail
          refine (HH2.out w5).mono ?_
          rintro e w6 ⟨rfl, hb6⟩
          have HS6 := Lib.hid (HS5.out.trans (hb6.mono HS5.out.size))
          clear hb6 m0 m1 m2 g0
          go_wp2_with fail
          go_roundw
          case rel => exact ⟨k + 1, by omega, by go_num, HN.out, HBB.out.trans (HS6.out.mono HBB.out.size)⟩
          case measure => simp [intOf]; omega
        | true =>
          cases f with
          | true =>
            have HN : Hid ((ps.take (k + 1)).any (tieB n1 P C p) = false) := Lib.hid (by rw [HMO.out, HANY.out]; rfl)
            clear HMO HME
            go_wp2_with fail
            refine (HH1.out W2).mono ?_
            rintro e w5 ⟨rfl, hb5⟩
            have HS5 := Lib.hid hb5
            clear hb5 m0 m1 m2 g0
            obtain ⟨m0, m1, m2⟩ := (HBX.out.on (HBB.out.trans (HS5.out.mono HBB.out.size))).three
            have g0 := (HS5.out.cell (p := ⟨gx, 0, none⟩) HGX.out).trans HG0.out
            go_wp2_with fail
            refine (HH2.out w5).mono ?_
            rintro e w6 ⟨rfl, hb6⟩
            have HS6 := Lib.hid (HS5.out.trans (hb6.mono HS5.out.size))
            clear hb6 m0 m1 m2 g0
            obtain ⟨m0, m1, m2⟩ := (HBX.out.on (HBB.out.trans (HS6.out.mono HBB.out.size))).three
            have g0 := (HS6.out.cell (p := ⟨gx, 0, none⟩) HGX.out).trans HG0.out
            go_wp2_with fail
            refine (HFR.out w6 HS6.out).mono ?_
            rintro e w7 ⟨rfl, hb7⟩
            have HS7 := Lib.hid (HS6.out.trans (hb7.mono HS6.out.size))
            clear hb7 m0 m1 m2 g0
            go_wp2_with fail
            go_roundw
            case rel => exact ⟨k + 1, by omega, by go_num, HN.out, HBB.out.trans (HS7.out.mono HBB.out.size)⟩
            case measure => simp [intOf]; omega
          | false =>
            have HTR : Hid (v = true) := Lib.hid (HME.out rfl)
            clear HMO HME
            go_wp2_with fail
            refine (HH1.out W2).mono ?_
            rintro e w5 ⟨rfl, hb5⟩
            have HS5 := Lib.hid hb5
            clear hb5 m0 m1 m2 g0
            obtain ⟨m0, m1, m2⟩ := (HBX.out.on (HBB.out.trans (HS5.out.mono HBB.out.size))).three
            have g0 := (HS5.out.cell (p := ⟨gx, 0, none⟩) HGX.out).trans HG0.out
            go_wp2_with fail
            refine (HH2.out w5).mono ?_
            rintro e w6 ⟨rfl, hb6⟩
            have HS6 := Lib.hid (HS5.out.trans (hb6.mono HS5.out.size))
            clear hb6 m0 m1 m2 g0
            obtain ⟨m0, m1, m2⟩ := (HBX.out.on (HBB.out.trans (HS6.out.mono HBB.out.size))).three
            have g0 := (HS6.out.cell (p := ⟨gx, 0, none⟩) HGX.out).trans HG0.out
            go_wp2_with fail
            refine (HFR.out w6 HS6.out).mono ?_
            rintro e w7 ⟨rfl, hb7⟩
            have HS7 := Lib.hid (HS6.out.trans (hb7.mono HS6.out.size))
            clear hb7 m0 m1 m2 g0
            go_wp2_with fail
            go_ret
            exact Ans.mk (by rw [HTR.out]; rfl) (HB1.out.trans (HS7.out.mono HB1.out.size))
    · have hkni : ¬ (k : Int) < (n : Int) := by omega
      have e : v = false := by
        have h := HANY.out
        rw [List.take_of_length_le (by rw [HLN.out]; omega)] at h
        rw [HV.out, h]
      subst e
      go_wp2_with fail
      go_ret
      exact Ans.mk rfl (HB0.out.trans (hb.mono HB0.out.size))
end Go.Proofs.Ytoaocdmcjjohgaa
