/- Contracts and mathematics that the texts behind it stand on: Inv, Times, Len, Right, Curm, Enter, Cur, Rlv, Tidy. -/
import Derived.Orders
import Derived.RegionTactic
import Derived.Below
import Derived.Test.YtjbflndlfdekiaaLow1
import Derived.Great.BuildSlice
import Derived.IntWalk
import Derived.BigQuiet
import Derived.Deep.QuietTactic
import Derived.Test.YtjbflndlfdekiaaLow2
import Derived.StillTailTactics
import Derived.Laws.ResultCell
/- A region that draws its order, by what each of its operations yields: whatever order is drawn. Named here: the model's regions alone, no program. -/
namespace Go.Proofs.Ytjbflndlfdekiaa
open Go Go.RowKit
namespace Reg
set_option linter.unusedSimpArgs false

def dstN (ops : Array Oper) (j : Nat) : Tmp := ((ops[j]?).bind (·.dst)).getD 0
def waits (o : Oper) (j : Nat) : Bool := o.after.toList.any fun e => e.on == j && Region.binds .any e
def writes (ops : Array Oper) (t : Tmp) : Bool := ops.toList.any fun o => o.dst == some t
/-- Every operation has a slot of its own, and waits for earlier ones alone. -/
def good (ops : Array Oper) (n : Nat) : Bool :=
  (List.range ops.size).all fun i => match ops[i]? with
    | some o => (match o.dst with
        | some d => decide (d < n) && (List.range ops.size).all fun j => j == i || (match ops[j]? with | some p => !(p.dst == some d) | none => true)
        | none => false) && o.after.toList.all fun e => decide (e.on < i)
    | none => false

theorem good_at {ops : Array Oper} {n : Nat} (h : good ops n = true) {i : Nat} {o : Oper} (hi : ops[i]? = some o) :
    ∃ d, o.dst = some d ∧ d < n ∧ (∀ j p, ops[j]? = some p → j ≠ i → p.dst ≠ some d) ∧ ∀ e ∈ o.after, e.on < i := by
  have hlt : i < ops.size := (Array.getElem?_eq_some_iff.1 hi).1
  have h1 := List.all_eq_true.1 h i (List.mem_range.2 hlt)
  rw [hi] at h1
  simp only [Bool.and_eq_true] at h1
  obtain ⟨h2, h3⟩ := h1
  cases hd : o.dst with
  | none => rw [hd] at h2; cases h2
  | some d =>
    rw [hd] at h2
    simp only [Bool.and_eq_true, decide_eq_true_iff] at h2
    refine ⟨d, rfl, h2.1, fun j p hj hne => ?_, fun e he => ?_⟩
    · have hjl : j < ops.size := (Array.getElem?_eq_some_iff.1 hj).1
      have h4 := List.all_eq_true.1 h2.2 j (List.mem_range.2 hjl)
      rw [hj] at h4
      simp only [Bool.or_eq_true, beq_iff_eq, Bool.not_eq_true', beq_eq_false_iff_ne] at h4
      exact h4.resolve_left hne
    · have := List.all_eq_true.1 h3 e (Array.mem_toList_iff.2 he)
      simpa using this

theorem dst_of {ops : Array Oper} {i : Nat} {o : Oper} {d : Tmp} (hi : ops[i]? = some o) (hd : o.dst = some d) : dstN ops i = d := by
  simp [dstN, hi, hd]

/-- Whoever has come up, those that it waits for have. -/
def Closed (ops : Array Oper) (live : Nat → Bool) : Prop := ∀ j p, ops[j]? = some p → live j = true → ∀ k, waits p k = true → live k = true
structure Inv (ops : Array Oper) (a0 : Act) (V : Nat → Value → World → Prop) (W : World → Prop) (listed : Array Bool) (a : Act) (w : World) : Prop where
  size : a.tmps.size = a0.tmps.size
  defers : a.defers = a0.defers
  env : ∀ t, writes ops t = false → a.eval (.tmp t) = a0.eval (.tmp t)
  val : ∀ j, j < ops.size → listed.getD j false = true → V j (a.eval (.tmp (dstN ops j))) w
  world : W w
  closed : Closed ops fun j => listed.getD j false

theorem eval_same (a : Act) (d : Tmp) (v : Value) (h : d < a.tmps.size) : (a.put (some d) v).eval (.tmp d) = v := by
  simp [Act.eval, Act.put, h]
theorem eval_other (a : Act) (d t : Tmp) (v : Value) (h : d ≠ t) : (a.put (some d) v).eval (.tmp t) = a.eval (.tmp t) := by
  simp [Act.eval, Act.put, Array.getElem?_setIfInBounds_ne h]

/-- What a step owes; live: who has come up. -/
def Owes (live : Nat → Bool) (V : Nat → Value → World → Prop) (W : World → Prop) (i : Nat) (o : Oper) (a : Act) (w : World) (a' : Act) (w' : World) : Prop :=
  ∃ v, a' = a.put o.dst v ∧ V i v w' ∧ W w' ∧ ∀ j v, live j = true → V j v w → V j v w'

theorem Inv.step {ops : Array Oper} {a0 : Act} {V : Nat → Value → World → Prop} {W : World → Prop} {listed : Array Bool} {a a' : Act} {w w' : World} (hg : good ops a0.tmps.size = true)
    {i : Nat} {o : Oper} (hi : ops[i]? = some o) (h : Inv ops a0 V W listed a w) (hr : ∀ k, waits o k = true → listed.getD k false = true) (hs : Owes (fun j => listed.getD j false) V W i o a w a' w') : Inv ops a0 V W (listed.setIfInBounds i true) a' w' := by
  obtain ⟨v, rfl, hv, hw, hm⟩ := hs
  obtain ⟨d, hd, hdn, hdist, _⟩ := good_at hg hi
  have hsz : d < a.tmps.size := by rw [h.size]; exact hdn
  rw [hd]
  refine ⟨by simp [Act.put, h.size], by simp [Act.put, h.defers], fun t ht => ?_, fun j hj hl => ?_, hw, fun j p hj hl k hk => ?_⟩
  · have hne : d ≠ t := by
      rintro rfl
      have : writes ops d = true := List.any_eq_true.2 ⟨o, Array.mem_toList_iff.2 (Array.mem_of_getElem? hi), by simp [hd]⟩
      rw [this] at ht; cases ht
    rw [eval_other _ _ _ _ hne]; exact h.env t ht
  · by_cases hji : j = i
    · subst hji
      rw [dst_of hi hd, eval_same _ _ _ hsz]; exact hv
    · obtain ⟨p, hp⟩ : ∃ p, ops[j]? = some p := ⟨_, Array.getElem?_eq_getElem hj⟩
      obtain ⟨e, he, _⟩ := good_at hg hp
      have hne : d ≠ dstN ops j := by
        rw [dst_of hp he]
        rintro rfl
        exact hdist j p hp hji he
      rw [eval_other _ _ _ _ hne]
      rw [getD_set_ne false (Ne.symm hji)] at hl
      exact hm j _ hl (h.val j hj hl)
  · by_cases hji : j = i
    · subst hji
      rw [hi] at hj
      injection hj with hj
      subst hj
      exact getD_set_true (hr k hk)
    · have hl' : (listed.setIfInBounds i true).getD j false = true := hl
      rw [getD_set_ne false (Ne.symm hji)] at hl'
      exact getD_set_true (h.closed j p hj hl' k hk)

/-- How many have not come up. -/
def left (listed : Array Bool) : Nat := listed.toList.countP (· == false)

theorem left_set {listed : Array Bool} {i : Nat} (h : listed.getD i true = false) : left (listed.setIfInBounds i true) + 1 = left listed := by
  have hlt : i < listed.size := by
    rcases Nat.lt_or_ge i listed.size with h' | h'
    · exact h'
    · simp [Array.getElem?_eq_none h'] at h
  have hi : listed.toList[i]'(by simpa using hlt) = false := by
    simpa [hlt] using h
  unfold left
  rw [Array.toList_setIfInBounds, List.countP_set (by simpa using hlt), hi]
  have : 0 < listed.toList.countP (· == false) := List.countP_pos_iff.2 ⟨false, by rw [← hi]; exact List.getElem_mem _, rfl⟩
  rw [if_pos (by decide), if_neg (by decide)]
  omega

theorem all_listed {ops : Array Oper} {n : Nat} (hg : good ops n = true) {listed : Array Bool} (hs : listed.size = ops.size) (hr : Region.ready .any ops listed = []) :
    ∀ j, j < ops.size → listed.getD j false = true := by
  intro j
  induction j using Nat.strongRecOn with
  | ind j ih =>
    intro hj
    have hjl : j < listed.size := by omega
    cases hb : listed.getD j false with
    | true => rfl
    | false =>
      have hb' : listed.getD j true = false := by
        simpa [hjl] using hb
      obtain ⟨o, ho⟩ : ∃ o, ops[j]? = some o := ⟨_, Array.getElem?_eq_getElem hj⟩
      obtain ⟨_, _, _, _, hacy⟩ := good_at hg ho
      have : j ∈ Region.ready .any ops listed := mem_ready.2 ⟨hb', o, ho, fun e he _ => ih e.on (hacy e he) (by have := hacy e he; omega)⟩
      rw [hr] at this; cases this

/-- What is asked of one operation. -/
def Goal (P : Program) (ops : Array Oper) (Q : Exit → Act → World → Prop) (V : Nat → Value → World → Prop) (W : World → Prop) (i : Nat) (o : Oper) (a : Act) (w : World) : Prop :=
  ∀ live : Nat → Bool, Closed ops live → live i = false → wpOp P ops Q i (Owes live V W i o a w) a w
/-- The whole obligation. -/
def Steps (P : Program) (ops : Array Oper) (Q : Exit → Act → World → Prop) (a0 : Act) (V : Nat → Value → World → Prop) (W : World → Prop) : Prop :=
  ∀ i o, ops[i]? = some o → ∀ (a : Act) (w : World), (∀ t, writes ops t = false → a.eval (.tmp t) = a0.eval (.tmp t)) →
    (∀ j, waits o j = true → V j (a.eval (.tmp (dstN ops j))) w) → W w → Goal P ops Q V W i o a w

theorem any_of {P : Program} {ops : Array Oper} {Q : Exit → Act → World → Prop} {a0 : Act} {V : Nat → Value → World → Prop} {W : World → Prop} (hg : good ops a0.tmps.size = true) (hst : Steps P ops Q a0 V W)
    (hend : ∀ listed a w, Inv ops a0 V W listed a w → (∀ j, j < ops.size → listed.getD j false = true) → Q .normal a w) :
    ∀ (fuel : Nat) (listed : Array Bool) (a : Act) (w : World), listed.size = ops.size → left listed ≤ fuel → Inv ops a0 V W listed a w → wpAny P .any ops Q fuel listed a w := by
  intro fuel
  induction fuel with
  | zero =>
    intro listed a w hs hl h
    have hr : Region.ready .any ops listed = [] := by
      cases hc : Region.ready .any ops listed with
      | nil => rfl
      | cons i r =>
        have hi : i ∈ Region.ready .any ops listed := by rw [hc]; exact List.mem_cons_self
        have := left_set (mem_ready.1 hi).1
        omega
    exact ⟨hr, hend listed a w h (all_listed hg hs hr)⟩
  | succ fuel ih =>
    intro listed a w hs hl h
    refine ⟨fun hr => hend listed a w h (all_listed hg hs hr), fun i hi => ?_⟩
    obtain ⟨h0, o, ho, hall⟩ := mem_ready.1 hi
    have hi' : i < ops.size := (Array.getElem?_eq_some_iff.1 ho).1
    have hwait : ∀ k, waits o k = true → k < i ∧ listed.getD k false = true := fun k hk => by
      obtain ⟨e, he, heq⟩ := List.any_eq_true.1 hk
      have he := Array.mem_toList_iff.1 he
      simp only [Bool.and_eq_true, beq_iff_eq] at heq
      obtain ⟨rfl, hb⟩ := heq
      obtain ⟨_, _, _, _, hacy⟩ := good_at hg ho
      exact ⟨hacy e he, hall e he hb⟩
    have hstep := hst i o ho a w h.env (fun j hj => h.val j (by have := (hwait j hj).1; omega) (hwait j hj).2) h.world (fun j => listed.getD j false) h.closed (by
      have hlt : i < listed.size := by omega
      simpa [hlt] using h0)
    refine wpOp_mono (fun a' w' hw => ?_) hstep
    refine ih _ a' w' (by simpa using hs) ?_ (h.step hg ho (fun k hk => (hwait k hk).2) hw)
    have := left_set h0
    omega

theorem region {P : Program} {id : Nat} {ops : Array Oper} {Q : Exit → Act → World → Prop} {a0 : Act} {w0 : World} (hm : P.follows .mixedOrders = true) (hg : good ops a0.tmps.size = true) (V : Nat → Value → World → Prop) (W : World → Prop)
    (hW : W w0.drew) (hst : Steps P ops Q a0 V W)
    (hend : ∀ a w, a.tmps.size = a0.tmps.size → a.defers = a0.defers → (∀ t, writes ops t = false → a.eval (.tmp t) = a0.eval (.tmp t)) → (∀ j, j < ops.size → V j (a.eval (.tmp (dstN ops j))) w) → W w → Q .normal a w) :
    (Code.region id ops true).wp P Q a0 w0 := by
  refine wp_region_any hm ?_
  refine any_of hg hst (fun listed a w h hall => hend a w h.size h.defers h.env (fun j hj => h.val j hj (hall j hj)) h.world) ops.size (Array.replicate ops.size false) a0 w0.drew (by simp) ?_ ?_
  · unfold left
    have := List.countP_le_length (p := (· == false)) (l := (Array.replicate ops.size false).toList)
    simpa using this
  · refine ⟨rfl, rfl, fun _ _ => rfl, fun j hj hl => ?_, hW, fun j p hj hl k hk => ?_⟩
    · simp [hj] at hl
    · have hjl : j < ops.size := (Array.getElem?_eq_some_iff.1 hj).1
      have hl' : (Array.replicate ops.size false).getD j false = true := hl
      simp [hjl] at hl'

/-- The obligations one by one. -/
def All (F : Nat → Oper → Prop) : Nat → List Oper → Prop
  | _, [] => True
  | i, o :: l => F i o ∧ All F (i + 1) l
theorem All.get {F : Nat → Oper → Prop} (l : List Oper) : ∀ (i : Nat), All F i l → ∀ j o, l[j]? = some o → F (i + j) o := by
  induction l with
  | nil => intro i _ j o hp; simp at hp
  | cons q l ih =>
    intro i h j o hp
    cases j with
    | zero => simp at hp; subst hp; exact h.1
    | succ j =>
      have := ih (i + 1) h.2 j o (by simpa using hp)
      rwa [Nat.add_assoc, Nat.add_comm 1] at this
theorem steps_of {P : Program} {l : List Oper} {Q : Exit → Act → World → Prop} {a0 : Act} {V : Nat → Value → World → Prop} {W : World → Prop}
    (h : All (fun i o => ∀ (a : Act) (w : World), (∀ t, writes l.toArray t = false → a.eval (.tmp t) = a0.eval (.tmp t)) →
      (∀ j, waits o j = true → V j (a.eval (.tmp (dstN l.toArray j))) w) → W w → Goal P l.toArray Q V W i o a w) 0 l) : Steps P l.toArray Q a0 V W := by
  intro i o hi
  have := All.get l 0 h i o (by simpa using hi)
  rwa [Nat.zero_add] at this

section
variable {P : Program} {ops : Array Oper} {Q : Exit → Act → World → Prop} {V : Nat → Value → World → Prop} {W : World → Prop} {i : Nat} {o : Oper} {a : Act} {w : World}
/-- An operation that yields a value, and does nothing else. -/
theorem val (hi : ops[i]? = some o) (hw : Region.wanted o (yielded ops a.tmps) = true) (hW : W w) (v : Value) (hr : (execOp a.eval o).run P w = .ok (.value v) w) (hv : V i v w) : Goal P ops Q V W i o a w := by
  intro live _ _
  unfold wpOp
  rw [hi]
  simp only [hw, if_true]
  refine .inl ?_
  unfold Oper.wp
  rw [hr]
  exact ⟨v, rfl, hv, hW, fun _ _ _ h => h⟩
/-- An operation that yields a value, in another world; what those that have come up yielded is to stand. -/
theorem growL (hi : ops[i]? = some o) (hw : Region.wanted o (yielded ops a.tmps) = true) (v : Value) (w' : World) (hr : (execOp a.eval o).run P w = .ok (.value v) w') (hv : V i v w') (hW : W w')
    (hm : ∀ live : Nat → Bool, Closed ops live → live i = false → ∀ j v, live j = true → V j v w → V j v w') : Goal P ops Q V W i o a w := by
  intro live hc h0
  unfold wpOp
  rw [hi]
  simp only [hw, if_true]
  refine .inl ?_
  unfold Oper.wp
  rw [hr]
  exact ⟨v, rfl, hv, hW, hm live hc h0⟩
theorem grow (hi : ops[i]? = some o) (hw : Region.wanted o (yielded ops a.tmps) = true) (v : Value) (w' : World) (hr : (execOp a.eval o).run P w = .ok (.value v) w') (hv : V i v w') (hW : W w') (hm : ∀ j v, j ≠ i → V j v w → V j v w') : Goal P ops Q V W i o a w :=
  growL hi hw v w' hr hv hW fun live _ h0 j v hj h => hm j v (fun e => by rw [e, h0] at hj; cases hj) h
/-- A call of a Go function. -/
theorem call (hi : ops[i]? = some o) (hw : Region.wanted o (yielded ops a.tmps) = true) (f : FuncId) (args : Array Value) (hr : (execOp a.eval o).run P w = .ok (.enter f args) w)
    (hc : Calls P f args w fun e w' => ∃ v, e = .returned v ∧ V i v w' ∧ W w' ∧ ∀ j v, V j v w → V j v w') : Goal P ops Q V W i o a w := by
  intro live _ _
  unfold wpOp
  rw [hi]
  simp only [hw, if_true]
  refine .inl ?_
  unfold Oper.wp
  rw [hr]
  refine hc.mono fun e w' he => ?_
  obtain ⟨v, rfl, h1, h2, h3⟩ := he
  exact ⟨v, rfl, h1, h2, fun j v _ => h3 j v⟩
/-- An operation whose guard says no. -/
theorem skip (hi : ops[i]? = some o) (hw : Region.wanted o (yielded ops a.tmps) = false) (hW : W w) (hv : V i undef w) : Goal P ops Q V W i o a w := by
  intro live _ _
  unfold wpOp
  rw [hi]
  simp only [hw]
  exact ⟨undef, rfl, hv, hW, fun _ _ _ h => h⟩
/-- Whoever waits for one that has not come up has not either. -/
theorem not_live {live : Nat → Bool} (hc : Closed ops live) {k : Nat} (h : live k = false) {j : Nat} {p : Oper} (hj : ops[j]? = some p) (hw : waits p k = true) : live j = false := by
  cases e : live j with
  | false => rfl
  | true => rw [hc j p hj e k hw] at h; cases h
theorem wanted_free (h : o.guard = none) : Region.wanted o (yielded ops a.tmps) = true := by simp [Region.wanted, h]
theorem wanted_if {g : Nat} {want b : Bool} (h : o.guard = some (g, want)) {t : Tmp} (ht : (ops[g]?).bind (·.dst) = some t) (hv : a.eval (.tmp t) = .bool b) (hb : (b == want) = true) : Region.wanted o (yielded ops a.tmps) = true := by
  have hlt : t < a.tmps.size := by
    rcases Nat.lt_or_ge t a.tmps.size with h' | h'
    · exact h'
    · simp [Act.eval, Array.getElem?_eq_none h', undef] at hv
  have h2 : a.tmps[t]? = some (.bool b) := by
    simpa [Act.eval, hlt] using hv
  simp only [Region.wanted, h, yielded, ht, Option.bind_some, h2]
  have : b = want := by simpa using hb
  simp [this]
end

/-- What a frame says of constants and functions. -/
theorem consts (a : Act) : (∀ v, a.eval (.const v) = v) ∧ (∀ f, a.eval (.func f) = .func (.func f) #[] #[]) := ⟨fun _ => rfl, fun _ => rfl⟩

/-- A frame by its slots. -/
theorem act_lit (a : Act) (n : Nat) (h : a.tmps.size = n) : a = ⟨((List.range n).map fun t => a.eval (.tmp t)).toArray, a.defers⟩ := by
  cases a with
  | mk tmps defers =>
    simp only at h
    congr 1
    apply Array.ext
    · simp [h]
    · intro i h1 h2
      simp [Act.eval, h1]
end Reg
end Go.Proofs.Ytjbflndlfdekiaa

/- The path of open nodes in memory: how often the next node is gone through; the path behind a node. -/
namespace Go.Proofs.Ytjbflndlfdekiaa
open Go.RowKit Tab
set_option linter.unusedSimpArgs false
set_option linter.unusedVariables false

/-- A path as cells: the outermost first. -/
def os : List (Nat × Nat) → List Value
  | [] => []
  | (a, t) :: o => os o ++ [.int .i64 (a : Int), .int .i64 (t : Int)]
theorem os_length (st : List (Nat × Nat)) : (os st).length = st.length * 2 := by
  induction st with
  | nil => rfl
  | cons e o ih => obtain ⟨a, t⟩ := e; simp only [os, List.length_append, ih, List.length_cons, List.length_nil]; omega
theorem os_last (a t : Nat) (o : List (Nat × Nat)) : (os ((a, t) :: o))[o.length * 2]? = some (.int .i64 (a : Int)) ∧ (os ((a, t) :: o))[o.length * 2 + 1]? = some (.int .i64 (t : Int)) := by
  have := os_length o
  constructor
  · simp only [os]; rw [List.getElem?_append_right (by omega), this, Nat.sub_self]; rfl
  · simp only [os]; rw [List.getElem?_append_right (by omega), this, show o.length * 2 + 1 - o.length * 2 = 1 by omega]; rfl
theorem os_set (a t : Nat) (o : List (Nat × Nat)) (b : Nat) : (os ((a, t) :: o)).set (o.length * 2) (.int .i64 (b : Int)) = os ((b, t) :: o) := by
  have := os_length o
  simp only [os]
  rw [List.set_append_right _ _ (by omega), this, Nat.sub_self]
  rfl
theorem os_dec (a t : Nat) (o : List (Nat × Nat)) (h : 1 ≤ a) : (os ((a, t) :: o)).set (o.length * 2) (.int .i64 ((a : Int) - 1)) = os ((a - 1, t) :: o) := by
  rw [show (a : Int) - 1 = ((a - 1 : Nat) : Int) by omega]
  exact os_set a t o (a - 1)
theorem OwnV.front {E s : Nat} {w : World} {B : Nat} {A : Option Addr} {n c : Nat} {l : List Value} (h : OwnV E s w B A n c l) (m : Nat) (hm : m ≤ n) : OwnV E s w B A m c (l.take (m * s)) := by
  have h0 : m * s ≤ n * s := Nat.mul_le_mul_right _ hm
  refine ⟨by rw [List.length_take, h.1]; omega, ?_⟩
  rcases h.2 with ⟨hv, hz⟩ | ⟨g, cap, cur, hv, hbg, hg, hnc, hcm, hcs, ht⟩
  · refine .inl ⟨?_, by omega⟩
    simp only [Value.slice.injEq] at hv ⊢
    exact ⟨hv.1, by omega, hv.2.2⟩
  · simp only [Value.slice.injEq] at hv
    obtain ⟨rfl, _, rfl⟩ := hv
    refine .inr ⟨g, c, cur, rfl, hbg, hg, by omega, hcm, hcs, ?_⟩
    rw [← ht, List.take_take, Nat.min_eq_left h0]
theorem os_take (a t : Nat) (o : List (Nat × Nat)) : (os ((a, t) :: o)).take (o.length * 2) = os o := by
  simp only [os]
  exact List.take_left' (os_length o)
theorem pops_more {a t : Nat} {o : List (Nat × Nat)} (h : 1 < a) : pops ((a, t) :: o) = (a - 1, t) :: o := by simp only [pops]; rw [if_pos h]
theorem pops_less {a t : Nat} {o : List (Nat × Nat)} (h : ¬ 1 < a) : pops ((a, t) :: o) = pops o := by simp only [pops]; rw [if_neg h]
end Go.Proofs.Ytjbflndlfdekiaa

/- How many ticks a table has, how deep it goes, by the program. -/
namespace Go.Proofs.Ytjbflndlfdekiaa
open Go.RowKit Tab
set_option linter.unusedSimpArgs false
set_option linter.unusedVariables false

theorem Outer.low {o : List (Nat × Nat)} {fs : List F} (h : Outer o fs) (M : Nat) (hM : ∀ f ∈ fs, f.cnt < M) : ∀ e ∈ o, 1 ≤ e.1 ∧ e.1 ≤ M := by
  induction o generalizing fs with
  | nil => simp
  | cons x o ih =>
    obtain ⟨a, t⟩ := x
    cases fs with
    | nil => exact h.elim
    | cons f fs =>
      obtain ⟨h1, _, _, _, h5⟩ := h
      intro e he
      rcases List.mem_cons.1 he with rfl | he
      · have := hM f (by simp)
        dsimp only
        omega
      · exact ih h5 (fun g hg => hM g (by simp [hg])) e he
theorem flats_len (fs : List F) (f : F) (h : f ∈ fs) : f.cnt ≤ (flats fs).length := by
  induction fs with
  | nil => cases h
  | cons g fs ih =>
    simp only [flats, List.length_append]
    rcases List.mem_cons.1 h with rfl | h
    · have := F.cnt_le_sz f; rw [F.flat_length]; omega
    · have := ih h; omega
theorem InvP.low {st : List (Nat × Nat)} {cur : F} {fs : List F} (h : InvP st cur fs) {tl : List Nd} (hr : cur.flat ++ flats fs = tl) (M : Nat) (hM : tl.length < M) : ∀ e ∈ st, 1 ≤ e.1 ∧ e.1 ≤ M := by
  have hl := congrArg List.length hr
  rw [List.length_append, F.flat_length] at hl
  cases st with
  | nil => simp
  | cons x o =>
    obtain ⟨a, t⟩ := x
    obtain ⟨_, h1, h2, _, _, h5⟩ := h
    intro e he
    rcases List.mem_cons.1 he with rfl | he
    · have := F.cnt_le_sz cur
      dsimp only
      omega
    · exact Outer.low h5 M (fun f hf => by have := flats_len fs f hf; omega) e he

theorem pops_len (st : List (Nat × Nat)) : (pops st).length ≤ st.length := by
  induction st with
  | nil => simp [pops]
  | cons e o ih =>
    obtain ⟨a, t⟩ := e
    simp only [pops]
    split
    · simp
    · simp only [List.length_cons]; omega
theorem behind_len (st : List (Nat × Nat)) (x : Nd) : (behind st x).length ≤ st.length + 1 := by
  unfold behind
  split
  · simp
  · split
    · simp
    · have := pops_len st; omega
/-- What is told of so many ticks. -/
def lv (T : Nat) : Int := if T ≤ 4096 then (T : Int) else 0
def lb (T : Nat) : Bool := decide (T ≤ 4096)
def Len (T : Nat) (w : World) (e : Ending) (w' : World) : Prop := e = .returned (.tuple #[.int .i64 (lv T), .bool (lb T)]) ∧ Below w.heap.size w w'
theorem Len.mk {T : Nat} {z : Int} {b : Bool} {w w' : World} (h1 : lv T = z) (h2 : lb T = b) (hb : Below w.heap.size w w') : Len T w (.returned (.tuple #[.int .i64 z, .bool b])) w' := ⟨by rw [h1, h2], hb⟩
theorem kn_kz {x : Nd} (h : fine x = true) (h0 : kn x = 0) : kz x = 0 := by rw [kz_kn h, h0]; rfl
theorem kn_kz' {x : Nd} (h : fine x = true) (h0 : kn x ≠ 0) : ∃ K : Nat, kz x = (K : Int) ∧ 0 < K := ⟨kn x, kz_kn h, by omega⟩

end Go.Proofs.Ytjbflndlfdekiaa

/- Refusals of tables, by the program and by the document's own answer; rows that are the same. -/
namespace Go.Proofs.Ytjbflndlfdekiaa
open Go.RowKit Tab
set_option linter.unusedSimpArgs false
set_option linter.unusedVariables false

theorem whole_size {l : List Nd} (h : wholeB l = true) : 0 < l.length ∧ size l 0 = l.length := by
  unfold wholeB at h
  simp only [Bool.and_eq_true, decide_eq_true_eq] at h
  exact h
theorem not_whole {l : List Nd} (h : wholeB l = false) (h0 : 0 < l.length) : ¬ size l 0 = l.length := fun h1 => by
  unfold wholeB at h
  rw [decide_eq_true h0, decide_eq_true h1] at h
  cases h
set_option maxHeartbeats 400000 in
theorem rDepth_none (A : Option Addr) (n cap : Nat) (l : List Nd) (w : World) (h : RdN w w.heap.size A n l) (hc : n ≤ cap) (hn : n ≤ 1048576) (hw : wholeB l = false) :
    Calls Try.prog 40 #[.slice A n cap] w (Ans (.int .i64 (0 : Nat)) w) := by
  by_cases h0 : 0 < n
  · have hs := not_whole hw (by rw [h.len]; exact h0)
    rw [h.len] at hs
    generalize hS : size l 0 = S at hs
    have HS := Lib.hid hS
    have hs' : ((S : Int) == (n : Int)) = false := beq_eq_false_iff_ne.2 (by omega)
    have hn0 : ((n : Int) == 0) = false := beq_eq_false_iff_ne.2 (by omega)
    clear hS hs hw
    go_enter Try.func40, Try.ntmps40
    go_wp2_with fail
    refine (rsize_any A n cap l 0 w h hc (by omega)).mono ?_
    rw [HS.out]
    rintro e w1 ⟨rfl, hb1⟩
    go_wp2_with fail
    all_goals
      go_ret
      exact Ans.mk rfl hb1
  · have hn0 : ((n : Int) == 0) = true := beq_iff_eq.2 (by omega)
    clear hw
    go_enter Try.func40, Try.ntmps40
    go_wp2_with fail
    go_ret
    exact Ans.mk rfl (Below.refl _ _)
set_option maxHeartbeats 400000 in
theorem rDepth_tree (A : Option Addr) (n cap : Nat) (l : List Nd) (x0 : Nd) (k0 : F) (w : World) (h : RdN w w.heap.size A n l) (hc : n ≤ cap) (hn : n ≤ 1048576) (hok : (F.cons x0 k0 .nil).ok) (hl : l = x0 :: k0.flat) :
    Calls Try.prog 40 #[.slice A n cap] w (Ans (.int .i64 (k0.dep + 1 : Nat)) w) := by
  have hw : wholeB l = true := by rw [hl]; exact tree_whole hok
  obtain ⟨h0, hs⟩ := whole_size hw
  rw [h.len] at h0 hs
  have HS := Lib.hid hs
  have hd : l.drop 0 = (F.cons x0 k0 .nil).flat ++ [] := by rw [hl]; simp [F.flat]
  have hR := fun w (h : RdN w w.heap.size A n l) => rdepth_any A n cap l hc (by omega) (k0.sz + 1) 0 x0 k0 .nil [] w (by omega) h hok hd
  have HR := Lib.hid hR
  have hn0 : ((n : Int) == 0) = false := beq_eq_false_iff_ne.2 (by omega)
  clear hs hw hR hd hl hok
  go_enter Try.func40, Try.ntmps40
  go_wp2_with fail
  refine (rsize_any A n cap l 0 w h hc (by omega)).mono ?_
  rw [HS.out]
  rintro e w1 ⟨rfl, hb1⟩
  go_wp2_with fail
  refine (HR.out w1 (h.on hb1)).mono ?_
  rintro e w2 ⟨rfl, hb2⟩
  go_wp2_with fail
  go_ret
  exact Ans.mk rfl (hb1.trans (hb2.mono hb1.size))
set_option maxHeartbeats 400000 in
theorem rLength_none (A : Option Addr) (n cap : Nat) (l : List Nd) (w : World) (h : RdN w w.heap.size A n l) (hc : n ≤ cap) (hn : n ≤ 1048576) (hw : wholeB l = false) :
    Calls Try.prog 41 #[.slice A n cap] w (Len 4097 w) := by
  have HW := Lib.hid hw
  clear hw
  go_enter Try.func41, Try.ntmps41
  go_wp2_with fail
  refine (rDepth_none A n cap l w h hc hn HW.out).mono ?_
  rintro e w1 ⟨rfl, hb1⟩
  go_wp2_with fail
  go_ret2
  exact Len.mk rfl rfl hb1
set_option maxHeartbeats 400000 in
theorem rLength_tree (A : Option Addr) (n cap : Nat) (l : List Nd) (x0 : Nd) (k0 : F) (w : World) (h : RdN w w.heap.size A n l) (hc : n ≤ cap) (hn : n ≤ 1048576) (hok : (F.cons x0 k0 .nil).ok) (hl : l = x0 :: k0.flat) :
    Calls Try.prog 41 #[.slice A n cap] w (Len (F.tick x0 k0.len) w) := by
  have hD := fun w (h : RdN w w.heap.size A n l) => rDepth_tree A n cap l x0 k0 w h hc hn hok hl
  have hd : l.drop 0 = (F.cons x0 k0 .nil).flat ++ [] := by rw [hl]; simp [F.flat]
  have hR := fun w (h : RdN w w.heap.size A n l) => rlength_any A n cap l hc (by omega) (k0.sz + 1) 0 x0 k0 .nil [] w (by omega) h hok hd
  have HD := Lib.hid hD
  have HR := Lib.hid hR
  clear hD hR hd hl hok
  have hd0 : (((k0.dep + 1 : Nat) : Int) == 0) = false := beq_eq_false_iff_ne.2 (by omega)
  generalize k0.dep + 1 = D at HD hd0
  generalize F.tick x0 k0.len = T at HR ⊢
  generalize hHd : hl4 T = H at HR
  have hh : H = min T 4097 := by rw [← hHd]; rfl
  clear hHd
  by_cases hT : T ≤ 4096
  · obtain rfl : H = T := by omega
    clear hh
    go_enter Try.func41, Try.ntmps41
    go_wp2_with fail
    refine (HD.out w h).mono ?_
    rintro e w1 ⟨rfl, hb1⟩
    go_wp2_with fail
    refine (HR.out w1 (h.on hb1)).mono ?_
    rintro e w2 ⟨rfl, hb2⟩
    go_wp2_with fail
    go_ret2
    exact Len.mk (by unfold lv; rw [if_pos hT]) (by unfold lb; exact decide_eq_true hT) (hb1.trans (hb2.mono hb1.size))
  · obtain rfl : H = 4097 := by omega
    clear hh
    go_enter Try.func41, Try.ntmps41
    go_wp2_with fail
    refine (HD.out w h).mono ?_
    rintro e w1 ⟨rfl, hb1⟩
    go_wp2_with fail
    refine (HR.out w1 (h.on hb1)).mono ?_
    rintro e w2 ⟨rfl, hb2⟩
    go_wp2_with fail
    go_ret2
    exact Len.mk (by unfold lv; rw [if_neg hT]) (by unfold lb; exact decide_eq_false hT) (hb1.trans (hb2.mono hb1.size))
/-- The refusal of a table of n nodes, so deep, with so many ticks. -/
def rt (n D T : Nat) : Int := if 128 < n then 3 else if 16 < D then 14 else if 4096 < T then 18 else 0
/-- Of what is none. -/
def rn (n : Nat) : Int := if 128 < n then 3 else 12
set_option maxHeartbeats 400000 in
theorem rright_none (A : Option Addr) (n cap : Nat) (l : List Nd) (w : World) (h : RdN w w.heap.size A n l) (hc : n ≤ cap) (hn : n ≤ 1048576) (hw : wholeB l = false) :
    Calls Try.prog 25 #[.slice A n cap] w (Ans (.int .i64 (rn n)) w) := by
  have HW := Lib.hid hw
  clear hw
  by_cases h1 : 128 < n
  · have HE : Hid (rn n = 3) := Lib.hid (if_pos h1)
    have h1' : (128 : Int) < (n : Int) := by omega
    go_enter Try.func25, Try.ntmps25
    go_wp2_with fail
    go_ret
    exact Ans.mk (by rw [HE.out]; rfl) (Below.refl _ _)
  · have HE : Hid (rn n = 12) := Lib.hid (if_neg h1)
    have h1' : ¬ (128 : Int) < (n : Int) := by omega
    go_enter Try.func25, Try.ntmps25
    go_wp2_with fail
    refine (rDepth_none A n cap l w h hc hn HW.out).mono ?_
    rintro e w1 ⟨rfl, hb1⟩
    go_wp2_with fail
    go_ret
    exact Ans.mk (by rw [HE.out]; rfl) hb1
set_option maxHeartbeats 800000 in
theorem rright_tree (A : Option Addr) (n cap : Nat) (l : List Nd) (x0 : Nd) (k0 : F) (w : World) (h : RdN w w.heap.size A n l) (hc : n ≤ cap) (hn : n ≤ 1048576) (hok : (F.cons x0 k0 .nil).ok) (hl : l = x0 :: k0.flat) :
    Calls Try.prog 25 #[.slice A n cap] w (Ans (.int .i64 (rt n (k0.dep + 1) (F.tick x0 k0.len))) w) := by
  have hwh : wholeB l = true := by rw [hl]; exact tree_whole hok
  have HWH := Lib.hid hwh
  have HD := Lib.hid fun w (h : RdN w w.heap.size A n l) => rDepth_tree A n cap l x0 k0 w h hc hn hok hl
  have HL := Lib.hid fun w (h : RdN w w.heap.size A n l) => rLength_tree A n cap l x0 k0 w h hc hn hok hl
  clear hwh hok hl
  have hd0 : (((k0.dep + 1 : Nat) : Int) == 0) = false := beq_eq_false_iff_ne.2 (by omega)
  generalize k0.dep + 1 = D at HD hd0 ⊢
  generalize F.tick x0 k0.len = T at HL ⊢
  by_cases h1 : 128 < n
  · have HE : Hid (rt n D T = 3) := Lib.hid (if_pos h1)
    have h1' : (128 : Int) < (n : Int) := by omega
    go_enter Try.func25, Try.ntmps25
    go_wp2_with fail
    go_ret
    exact Ans.mk (by rw [HE.out]; rfl) (Below.refl _ _)
  have h1' : ¬ (128 : Int) < (n : Int) := by omega
  by_cases h2 : 16 < D
  · have HE : Hid (rt n D T = 14) := Lib.hid (by unfold rt; rw [if_neg h1, if_pos h2])
    have h2' : (16 : Int) < (D : Int) := by omega
    go_enter Try.func25, Try.ntmps25
    go_wp2_with fail
    refine (HD.out w h).mono ?_
    rintro e w1 ⟨rfl, hb1⟩
    go_wp2_with fail
    refine (HD.out w1 (h.on hb1)).mono ?_
    rintro e w2 ⟨rfl, hb2⟩
    have k2 := hb1.trans (hb2.mono hb1.size)
    go_wp2_with fail
    go_ret
    exact Ans.mk (by rw [HE.out]; rfl) k2
  have h2' : ¬ (16 : Int) < (D : Int) := by omega
  by_cases h3 : 4096 < T
  · have HE : Hid (rt n D T = 18) := Lib.hid (by unfold rt; rw [if_neg h1, if_neg h2, if_pos h3])
    have hB : lb T = false := by unfold lb; exact decide_eq_false (by omega)
    have HB := Lib.hid hB
    clear hB
    go_enter Try.func25, Try.ntmps25
    go_wp2_with fail
    refine (HD.out w h).mono ?_
    rintro e w1 ⟨rfl, hb1⟩
    go_wp2_with fail
    refine (HD.out w1 (h.on hb1)).mono ?_
    rintro e w2 ⟨rfl, hb2⟩
    have k2 := hb1.trans (hb2.mono hb1.size)
    go_wp2_with fail
    refine (HL.out w2 (h.on k2)).mono ?_
    unfold Len
    rw [HB.out]
    rintro e w3 ⟨rfl, hb3⟩
    have k3 := k2.trans (hb3.mono k2.size)
    go_wp2_with fail
    go_ret
    exact Ans.mk (by rw [HE.out]; rfl) k3
  · have HE : Hid (rt n D T = 0) := Lib.hid (by unfold rt; rw [if_neg h1, if_neg h2, if_neg h3])
    have hB : lb T = true := by unfold lb; exact decide_eq_true (by omega)
    have HB := Lib.hid hB
    clear hB
    go_enter Try.func25, Try.ntmps25
    go_wp2_with fail
    refine (HD.out w h).mono ?_
    rintro e w1 ⟨rfl, hb1⟩
    go_wp2_with fail
    refine (HD.out w1 (h.on hb1)).mono ?_
    rintro e w2 ⟨rfl, hb2⟩
    have k2 := hb1.trans (hb2.mono hb1.size)
    go_wp2_with fail
    refine (HL.out w2 (h.on k2)).mono ?_
    unfold Len
    rw [HB.out]
    rintro e w3 ⟨rfl, hb3⟩
    have k3 := k2.trans (hb3.mono k2.size)
    go_wp2_with fail
    go_ret
    exact Ans.mk (by rw [HE.out]; rfl) k3
end Go.Proofs.Ytjbflndlfdekiaa

/- A cursor in memory: its cells; the levels above a leaf. -/
namespace Go.Proofs.Ytjbflndlfdekiaa
open Go.RowKit Tab
set_option linter.unusedSimpArgs false
set_option linter.unusedVariables false

/-- The 37 cells of block b. -/
def Blk (w : World) (b : Nat) (c : Nat → Value) : Prop := ∀ o, o < 37 → w.cell? ⟨b, o, none⟩ = some (c o) ∧ w.frozen? ⟨b, o, none⟩ = false
def upd (c : Nat → Value) (i : Nat) (v : Value) : Nat → Value := fun j => if j = i then v else c j
theorem upd_same (c : Nat → Value) (i : Nat) (v : Value) : upd c i v i = v := if_pos rfl
theorem upd_other {c : Nat → Value} {i j : Nat} {v : Value} (h : j ≠ i) : upd c i v j = c j := if_neg h
section
variable {w w' : World} {b : Nat} {c : Nat → Value}
theorem Blk.set (h : Blk w b c) {i : Nat} (hi : i < 37) (v : Value) : Blk (w.setCell ⟨b, i, none⟩ v) b (upd c i v) := fun o ho => by
  refine ⟨?_, by simpa using (h o ho).2⟩
  by_cases e : o = i
  · subst e
    rw [upd_same]
    exact World.cell?_setCell_same _ _ _ (h o ho).1
  · rw [upd_other e, World.cell?_setCell_other _ _ _ _ (by simp [e])]
    exact (h o ho).1
theorem Blk.drewN (h : Blk w b c) (q : Nat) : Blk (w.drewN q) b c := h
theorem Blk.lt (h : Blk w b c) : b < w.heap.size := World.block_lt_of_cell? w _ (h 0 (by omega)).1
theorem Blk.keep (h : Blk w b c) (hk : w'.heap[b]? = w.heap[b]?) : Blk w' b c := fun o ho => by
  exact ⟨(World.cell?_of_block hk).trans (h o ho).1, (World.frozen?_of_block hk).trans (h o ho).2⟩
theorem gb_set {a : World} {x : Nat} (h : a.grownBy w (some x)) (o : Nat) (v : Value) : a.grownBy (w.setCell ⟨x, o, none⟩ v) (some x) :=
  ⟨h.os, h.tape, h.output, by have := h.size; simpa [World.setCell] using this, fun k hk hne => (Below.heap_setCell w ⟨x, o, none⟩ v k (fun e => hne (by rw [e]))).trans (h.block k hk hne)⟩
theorem gb_refl (w : World) (x : Option Nat) : w.grownBy w x := ⟨rfl, rfl, rfl, Nat.le_refl _, fun _ _ _ => rfl⟩
theorem gb_drew {a : World} {x : Option Nat} (h : a.grownBy w x) : a.grownBy w.drew x := ⟨h.os, h.tape, h.output, h.size, h.block⟩
theorem gb_drewN {a : World} {x : Option Nat} (h : a.grownBy w x) (q : Nat) : a.grownBy (w.drewN q) x := ⟨h.os, h.tape, h.output, h.size, h.block⟩
end
/-- One level more, d being how many there are. -/
def pushC (c : Nat → Value) (d : Nat) (a b : Int) : Nat → Value := upd (upd (upd c (1 + d * 2) (.int .i64 a)) (1 + d * 2 + 1) (.int .i64 b)) 33 (.int .i64 ((d : Int) + 1))
/-- The levels, the innermost first. -/
def StC (c : Nat → Value) : List (Nat × Nat) → Prop
  | [] => True
  | (a, b) :: o => c (1 + o.length * 2) = .int .i64 (a : Int) ∧ c (1 + o.length * 2 + 1) = .int .i64 (b : Int) ∧ StC c o
theorem StC.put {c : Nat → Value} {st : List (Nat × Nat)} (h : StC c st) {i : Nat} (hi : 1 + st.length * 2 ≤ i) (v : Value) : StC (upd c i v) st := by
  induction st with
  | nil => trivial
  | cons e o ih =>
    obtain ⟨a, b⟩ := e
    simp only [List.length_cons] at hi
    exact ⟨by rw [upd_other (by omega)]; exact h.1, by rw [upd_other (by omega)]; exact h.2.1, ih h.2.2 (by omega)⟩
/-- The path's cells: the levels, how many. -/
def PathC (c : Nat → Value) (st : List (Nat × Nat)) : Prop := StC c st ∧ c 33 = .int .i64 (st.length : Int) ∧ st.length ≤ 16
theorem PathC.push {c : Nat → Value} {st : List (Nat × Nat)} (h : PathC c st) (hl : st.length ≤ 15) (a b : Nat) : PathC (pushC c st.length (a : Int) (b : Int)) ((a, b) :: st) := by
  unfold pushC
  refine ⟨⟨?_, ?_, ?_⟩, ?_, by simp only [List.length_cons]; omega⟩
  · rw [upd_other (by omega), upd_other (by omega), upd_same]
  · rw [upd_other (by omega), show 1 + st.length * 2 + 1 = 1 + st.length * 2 + 1 from rfl, upd_same]
  · exact ((h.1.put (by omega) _).put (by omega) _).put (by omega) _
  · rw [upd_same]; simp
theorem pushC_other (c : Nat → Value) (d : Nat) (a b : Int) (hd : d ≤ 15) {j : Nat} (hj : j = 0 ∨ 33 < j) : pushC c d a b j = c j := by
  unfold pushC
  rw [upd_other (by omega), upd_other (by omega), upd_other (by omega)]
/-- But for the path's cells c and c' are the same. -/
def Rest (c c' : Nat → Value) : Prop := c' 0 = c 0 ∧ ∀ j, 33 < j → c' j = c j
theorem Rest.refl (c : Nat → Value) : Rest c c := ⟨rfl, fun _ _ => rfl⟩
theorem Rest.put {c c' : Nat → Value} (h : Rest c c') {i : Nat} (hi : 1 ≤ i) (hi2 : i ≤ 33) (v : Value) : Rest c (upd c' i v) :=
  ⟨by rw [upd_other (by omega)]; exact h.1, fun j hj => by rw [upd_other (by omega)]; exact h.2 j hj⟩
theorem StC.dec {c : Nat → Value} {a b : Nat} {o : List (Nat × Nat)} (h : StC c ((a, b) :: o)) (x : Nat) : StC (upd c (1 + o.length * 2) (.int .i64 (x : Int))) ((x, b) :: o) :=
  ⟨upd_same _ _ _, by rw [upd_other (by omega)]; exact h.2.1, h.2.2.put (by omega) _⟩
/-- How many levels a cell says. -/
def deepOf (w : World) (b : Nat) : Nat := match w.cell? ⟨b, 33, none⟩ with
  | some (.int _ z) => z.toNat
  | _ => 0
theorem deepOf_eq {w : World} {b : Nat} {c : Nat → Value} {d : Nat} (h : Blk w b c) (e : c 33 = .int .i64 (d : Int)) : deepOf w b = d := by
  unfold deepOf
  rw [(h 33 (by omega)).1, e]
  simp
/-- What behind leaves. -/
def Went (b : Nat) (c : Nat → Value) (st : List (Nat × Nat)) (p : Nat) (w : World) (e : Ending) (w' : World) : Prop :=
  e = .returned (.int .i64 ((popm st p).2 : Nat)) ∧ ∃ c', Blk w' b c' ∧ PathC c' (popm st p).1 ∧ Rest c c' ∧ w.grownBy w' (some b)
theorem Went.mk {b : Nat} {c c' : Nat → Value} {st st' : List (Nat × Nat)} {p p' : Nat} {w w' : World} {z : Int} (h : popm st p = (st', p')) (hz : z = (p' : Int)) (hB : Blk w' b c') (hP : PathC c' st') (hR : Rest c c') (hG : w.grownBy w' (some b)) : Went b c st p w (.returned (.int .i64 z)) w' := by
  unfold Went
  rw [h, hz]
  exact ⟨rfl, c', hB, hP, hR, hG⟩
end Go.Proofs.Ytjbflndlfdekiaa

/- A cursor in memory: from a node down to its first leaf. -/
namespace Go.Proofs.Ytjbflndlfdekiaa
open Go.RowKit Tab
set_option linter.unusedSimpArgs false
set_option linter.unusedVariables false

/-- The cursor's table, below its block. -/
structure Tb (w : World) (b : Nat) (A : Option Addr) (n cap : Nat) (l : List Nd) : Prop where
  rd : RdN w b A n l
  cap : n ≤ cap
  hn : n ≤ 128
theorem RdN.gb {w w' : World} {b n : Nat} {A : Option Addr} {l : List Nd} (h : RdN w b A n l) (hb : b ≤ w.heap.size) (hg : w.grownBy w' (some b)) : RdN w' b A n l :=
  ⟨h.len, h.rd.keep fun p hp => World.cell?_of_block (hg.block p.block (by omega) (fun e => by injection e with e; omega)), h.bd⟩
theorem Tb.gb {w w' : World} {b n cap : Nat} {A : Option Addr} {l : List Nd} (h : Tb w b A n cap l) (hb : b ≤ w.heap.size) (hg : w.grownBy w' (some b)) : Tb w' b A n cap l := ⟨h.rd.gb hb hg, h.cap, h.hn⟩
theorem Tb.drewN {w : World} {b n cap : Nat} {A : Option Addr} {l : List Nd} (h : Tb w b A n cap l) (q : Nat) : Tb (w.drewN q) b A n cap l := ⟨⟨h.rd.len, h.rd.rd, h.rd.bd⟩, h.cap, h.hn⟩
def atOf (w : World) (b : Nat) : Nat := match w.cell? ⟨b, 34, none⟩ with
  | some (.int _ z) => z.toNat
  | _ => 0
theorem atOf_eq {w : World} {b : Nat} {c : Nat → Value} {d : Nat} (h : Blk w b c) (e : c 34 = .int .i64 (d : Int)) : atOf w b = d := by
  unfold atOf
  rw [(h 34 (by omega)).1, e]
  simp
/-- What enter leaves. -/
def Entd (b : Nat) (A : Option Addr) (n cap : Nat) (l : List Nd) (c : Nat → Value) (td : List Rn) (w : World) (e : Ending) (w' : World) : Prop :=
  e = .returned (.tuple #[]) ∧ ∃ (c' : Nat → Value) (st : List (Nat × Nat)) (p : Nat), Blk w' b c' ∧ PathC c' st ∧ c' 34 = .int .i64 (p : Int) ∧ c' 0 = c 0 ∧ c' 35 = c 35 ∧ c' 36 = c 36 ∧ AtL l st p td ∧ w.grownBy w' (some b)
end Go.Proofs.Ytjbflndlfdekiaa

/- A cursor in memory: what is left of its leaf, taking of it, the next leaf, the next tick. -/
namespace Go.Proofs.Ytjbflndlfdekiaa
open Go.RowKit Tab
set_option linter.unusedSimpArgs false
set_option linter.unusedVariables false

/-- A cursor over the table l at block b: the leaves td are to come, of the first tk ticks are taken; gn are gone. -/
structure Cur (w : World) (b : Nat) (A : Option Addr) (n cap : Nat) (l : List Nd) (td : List Rn) (tk gn : Nat) : Prop where
  tb : Tb w b A n cap l
  ex : ∃ (c : Nat → Value) (st : List (Nat × Nat)) (p : Nat), Blk w b c ∧ PathC c st ∧ c 0 = .slice A n cap ∧ c 34 = .int .i64 (p : Int) ∧ c 35 = .int .i64 (tk : Int) ∧ c 36 = .int .i64 (gn : Int) ∧ AtL l st p td
  low : ∀ r s, td = r :: s → tk < r.n
  low0 : td = [] → tk = 0
  sum : gn + ticks td ≤ 1048576 + tk
  pos : ∀ r ∈ td, 1 ≤ r.n
theorem Cur.lt {w : World} {b : Nat} {A : Option Addr} {n cap : Nat} {l : List Nd} {td : List Rn} {tk gn : Nat} (h : Cur w b A n cap l td tk gn) : b < w.heap.size := by
  obtain ⟨c, st, p, hB, _⟩ := h.ex
  exact hB.lt
theorem Cur.below {w w' : World} {b : Nat} {A : Option Addr} {n cap : Nat} {l : List Nd} {td : List Rn} {tk gn : Nat} (h : Cur w b A n cap l td tk gn) (hb : Below w.heap.size w w') : Cur w' b A n cap l td tk gn := by
  obtain ⟨c, st, p, hB, r⟩ := h.ex
  have hlt := hB.lt
  exact ⟨⟨⟨h.tb.rd.len, h.tb.rd.rd.keep fun q hq => World.cell?_of_block (hb.block q.block (by omega)), h.tb.rd.bd⟩, h.tb.cap, h.tb.hn⟩, ⟨c, st, p, hB.keep (hb.block b hlt), r⟩, h.low, h.low0, h.sum, h.pos⟩
theorem Below.drewN {B : Nat} {w w' : World} (h : Below B w w') (q : Nat) : Below B w (w'.drewN q) := ⟨h.os, h.tape, h.output, h.size, h.block⟩
/-- The run that is left: of none -1, 0. -/
def leftR : List Rn → Nat → Rn
  | [], _ => ⟨-1, 0⟩
  | r :: _, tk => ⟨r.p, r.n - tk⟩
abbrev rv (p n : Int) : Value := .agg #[.int .i64 p, .int .i64 n]
theorem loadVar_run {w : World} {g : Nat} {x y : Int} (h0 : w.cell? ⟨g, 0, none⟩ = some (.int .i64 x)) (h1 : w.cell? ⟨g, 1, none⟩ = some (.int .i64 y)) : (loadVar 41 ⟨g, 0, none⟩).run Try.prog w = .ok (rv x y) w := by
  have e : (isAgg 41).run Try.prog w = .ok true w := by go_simp
  have e2 : (sizeOf 41).run Try.prog w = .ok 2 w := by go_simp
  unfold loadVar
  rw [Sem.run_bind, e, Result.andThen_ok]
  simp only [if_true]
  rw [Sem.run_bind, e2, Result.andThen_ok, Sem.run_bind]
  have := run_loadCells_list (P := Try.prog) (w := w) ⟨g, 0, none⟩ [.int .i64 x, .int .i64 y] (fun j v hj => by
    match j with
    | 0 => simp at hj; subst hj; simpa [Addr.add] using h0
    | 1 => simp at hj; subst hj; simpa [Addr.add] using h1
    | j + 2 => simp at hj)
  simp only [List.length_cons, List.length_nil] at this
  rw [this, Result.andThen_ok]
  rfl
theorem results_cell1 {fn : Func} {p : Tmp} {ty : TypeId} (h : fn.results = #[.cell p ty]) (tmps : Array Value) (P : Program) (w : World) :
    (results fn tmps).run P w = ((asAddr (tmps.getD p undef)).run P w).andThen fun a w₁ => (loadVar ty a).run P w₁ := by
  simp only [results, h]
  simp [Sem.run_bind, Result.andThen]
theorem results_run {fn : Func} {p : Tmp} (h : fn.results = #[.cell p 41]) {tmps : Array Value} {w : World} {g : Nat} {x y : Int} (hp : tmps.getD p undef = .pointer (some ⟨g, 0, none⟩)) (h0 : w.cell? ⟨g, 0, none⟩ = some (.int .i64 x)) (h1 : w.cell? ⟨g, 1, none⟩ = some (.int .i64 y)) :
    (results fn tmps).run Try.prog w = .ok (rv x y) w := by
  have e : (asAddr (.pointer (some ⟨g, 0, none⟩))).run Try.prog w = .ok ⟨g, 0, none⟩ w := rfl
  rw [results_cell1 h, hp, e, Result.andThen_ok, loadVar_run h0 h1]
theorem results_run2 {fn : Func} {p q : Tmp} (h : fn.results = #[.cell p 41, .tmp q]) {tmps : Array Value} {w : World} {g : Nat} {x y : Int} (hp : tmps.getD p undef = .pointer (some ⟨g, 0, none⟩)) (h0 : w.cell? ⟨g, 0, none⟩ = some (.int .i64 x)) (h1 : w.cell? ⟨g, 1, none⟩ = some (.int .i64 y)) :
    (results fn tmps).run Try.prog w = .ok (.tuple #[rv x y, tmps.getD q undef]) w := by
  have e : (asAddr (.pointer (some ⟨g, 0, none⟩))).run Try.prog w = .ok ⟨g, 0, none⟩ w := rfl
  rw [results_cell_tmp h, hp, e, Result.andThen_ok, loadVar_run h0 h1, Result.andThen_ok]
end Go.Proofs.Ytjbflndlfdekiaa

/- The leaves of a table that is right, by the document's own answer. -/
namespace Go.Proofs.Ytjbflndlfdekiaa
open Go.RowKit Tab
set_option linter.unusedSimpArgs false
set_option linter.unusedVariables false

/-- It answers a row of runs, new. -/
def MadeR (L : List Rn) (w : World) (e : Ending) (w' : World) : Prop := ∃ A c, e = .returned (.slice A L.length c) ∧ RdR w' w'.heap.size A L.length L ∧ L.length ≤ c ∧ Below w.heap.size w w' ∧ ∀ ad, A = some ad → w.heap.size ≤ ad.block
theorem OwnV.rdr {w : World} {B n c : Nat} {A : Option Addr} {L : List Rn} (h : OwnV 41 2 w B A n c (rs L)) : RdR w w.heap.size A n L := ⟨by have := h.len; rw [rs_length] at this; omega, h.rd⟩
set_option maxHeartbeats 400000 in
theorem rLeaves_right (A : Option Addr) (n cap : Nat) (x : Nd) (k : F) (w : World) (h : RdN w w.heap.size A n (x :: k.flat)) (hc : n ≤ cap) (hok : (F.cons x k .nil).ok) (hn : n ≤ 128) (hl : F.tick x k.len ≤ 4096) :
    Calls Try.prog 26 #[.slice A n cap] w (MadeR (one x k.lvs) w) := by
  have hpos : ∀ r ∈ one x k.lvs, 1 ≤ r.n := fun r hr => lvs_pos hok r (by simpa [F.lvs] using hr)
  have hlen := length_le_ticks hpos
  rw [one_ticks, lvs_ticks] at hlen
  have hdr : (x :: k.flat).drop 0 = (F.cons x k .nil).flat ++ [] := by simp [F.flat]
  have hL : Calls Try.prog 42 #[.slice A n cap, .int .i64 0, .slice none 0 0] w (MoreR w.heap.size none (one x k.lvs) w) := by
    have := rleaves_any w.heap.size A n cap _ hc (by omega) (k.sz + 1) 0 x k .nil [] w none 0 0 [] (by omega) h hok hdr (Nat.le_refl _) rfl (OwnV.nil _ _ _ _) (by omega)
    simpa using this
  have HL := Lib.hid hL
  clear hL hpos hlen hdr hok
  generalize one x k.lvs = L at HL ⊢
  go_enter Try.func26, Try.ntmps26
  go_wp2_with fail
  refine HL.out.mono ?_
  rintro e w1 ⟨A1, c1, rfl, ho, hb, _⟩
  have HO := Lib.hid ho
  clear ho
  generalize hq : L.length = q
  have HQ := Lib.hid hq
  clear hq
  go_wp2_with fail
  go_ret
  refine ⟨A1, c1, by rw [HQ.out]; rfl, HO.out.rdr, HO.out.cap, hb, HO.out.newer⟩
end Go.Proofs.Ytjbflndlfdekiaa

/- Runs side by side of one as one; whose ticks they are: plain mathematics. -/
namespace Go.Proofs.Ytjbflndlfdekiaa
namespace Tab

/-- One run more behind a tidy row. -/
def tpush (out : List Rn) (x : Rn) : List Rn := if x.n = 0 then out else match out.getLast? with
  | some y => if y.p = x.p then out.dropLast ++ [⟨y.p, y.n + x.n⟩] else out ++ [x]
  | none => [x]
def tidyOn (out l : List Rn) : List Rn := l.foldl tpush out
def tidy (l : List Rn) : List Rn := tidyOn [] l
/-- How many ticks are of p. -/
def tkOf (p : Int) : List Rn → Nat
  | [] => 0
  | r :: s => (if r.p = p then r.n else 0) + tkOf p s
/-- No run without ticks, no two side by side of one. -/
def Apart : List Rn → Prop
  | [] => True
  | [r] => 1 ≤ r.n
  | r :: q :: s => 1 ≤ r.n ∧ r.p ≠ q.p ∧ Apart (q :: s)

theorem tpush_none {out : List Rn} {x : Rn} (h : x.n = 0) : tpush out x = out := if_pos h
theorem tpush_nil {x : Rn} (h : x.n ≠ 0) : tpush [] x = [x] := by unfold tpush; rw [if_neg h]; rfl
theorem tpush_one {o : List Rn} {y x : Rn} (h : x.n ≠ 0) (hp : y.p = x.p) : tpush (o ++ [y]) x = o ++ [⟨y.p, y.n + x.n⟩] := by
  unfold tpush
  rw [if_neg h]
  simp [hp]
theorem tpush_new {o : List Rn} {y x : Rn} (h : x.n ≠ 0) (hp : y.p ≠ x.p) : tpush (o ++ [y]) x = o ++ [y] ++ [x] := by
  unfold tpush
  rw [if_neg h]
  simp [hp]
/-- The cases of one run more. -/
theorem tpush_cases (out : List Rn) (x : Rn) : (x.n = 0 ∧ tpush out x = out) ∨ (x.n ≠ 0 ∧ out = [] ∧ tpush out x = [x]) ∨ (∃ o y, x.n ≠ 0 ∧ out = o ++ [y] ∧ y.p = x.p ∧ tpush out x = o ++ [⟨y.p, y.n + x.n⟩]) ∨
    ∃ o y, x.n ≠ 0 ∧ out = o ++ [y] ∧ y.p ≠ x.p ∧ tpush out x = out ++ [x] := by
  by_cases h : x.n = 0
  · exact .inl ⟨h, tpush_none h⟩
  · rcases List.eq_nil_or_concat out with rfl | ⟨o, y, rfl⟩
    · exact .inr (.inl ⟨h, rfl, tpush_nil h⟩)
    · simp only [List.concat_eq_append]
      by_cases hp : y.p = x.p
      · exact .inr (.inr (.inl ⟨o, y, h, rfl, hp, tpush_one h hp⟩))
      · exact .inr (.inr (.inr ⟨o, y, h, rfl, hp, tpush_new h hp⟩))

theorem tidyOn_append (out a b : List Rn) : tidyOn out (a ++ b) = tidyOn (tidyOn out a) b := List.foldl_append
theorem tidy_more {l : List Rn} {i : Nat} {r : Rn} (h : l[i]? = some r) : tidy (l.take (i + 1)) = tpush (tidy (l.take i)) r := by
  obtain ⟨hi, e⟩ := List.getElem?_eq_some_iff.1 h
  unfold tidy tidyOn
  rw [List.take_succ_eq_append_getElem hi, List.foldl_append, e]
  rfl

theorem tkOf_append (p : Int) (a b : List Rn) : tkOf p (a ++ b) = tkOf p a + tkOf p b := by
  induction a with
  | nil => simp [tkOf]
  | cons x a ih => simp only [List.cons_append, tkOf, ih]; omega
theorem tkOf_le (p : Int) (l : List Rn) : tkOf p l ≤ ticks l := by
  induction l with
  | nil => simp [tkOf, ticks]
  | cons x a ih => simp only [tkOf, ticks]; split <;> omega
theorem tkOf_push (p : Int) (out : List Rn) (x : Rn) : tkOf p (tpush out x) = tkOf p out + if x.p = p then x.n else 0 := by
  rcases tpush_cases out x with ⟨h, e⟩ | ⟨h, rfl, e⟩ | ⟨o, y, h, rfl, hp, e⟩ | ⟨o, y, h, rfl, hp, e⟩
  · rw [e, h]; split <;> rfl
  · rw [e]; simp [tkOf]
  · rw [e, tkOf_append, tkOf_append]
    simp only [tkOf, hp]
    split <;> omega
  · rw [e, tkOf_append _ (o ++ [y])]
    simp only [tkOf]
    omega
theorem tkOf_tidyOn (p : Int) (l : List Rn) : ∀ out, tkOf p (tidyOn out l) = tkOf p out + tkOf p l := by
  induction l with
  | nil => intro out; simp [tidyOn, tkOf]
  | cons x l ih =>
    intro out
    have := ih (tpush out x)
    unfold tidyOn at this ⊢
    rw [List.foldl_cons, this, tkOf_push]
    simp only [tkOf]
    omega
theorem tkOf_tidy (p : Int) (l : List Rn) : tkOf p (tidy l) = tkOf p l := by
  unfold tidy
  rw [tkOf_tidyOn]
  simp [tkOf]
theorem ticks_push (out : List Rn) (x : Rn) : ticks (tpush out x) = ticks out + x.n := by
  rcases tpush_cases out x with ⟨h, e⟩ | ⟨h, rfl, e⟩ | ⟨o, y, h, rfl, hp, e⟩ | ⟨o, y, h, rfl, hp, e⟩
  · rw [e, h]; rfl
  · rw [e]; simp [ticks]
  · rw [e, ticks_append, ticks_append]
    simp only [ticks]
    omega
  · rw [e, ticks_append (o ++ [y])]
    simp only [ticks]
    omega
theorem ticks_tidyOn (l : List Rn) : ∀ out, ticks (tidyOn out l) = ticks out + ticks l := by
  induction l with
  | nil => intro out; simp [tidyOn, ticks]
  | cons x l ih =>
    intro out
    have := ih (tpush out x)
    unfold tidyOn at this ⊢
    rw [List.foldl_cons, this, ticks_push]
    simp only [ticks]
    omega
theorem ticks_tidy (l : List Rn) : ticks (tidy l) = ticks l := by
  unfold tidy
  rw [ticks_tidyOn]
  simp [ticks]

theorem whoAt_low (a b : List Rn) (t : Int) (h : t < ticks a) : whoAt (a ++ b) t = whoAt a t := by
  induction a generalizing t with
  | nil => simp only [ticks] at h; rw [whoAt_neg _ _ (by omega), whoAt_neg _ _ (by omega)]
  | cons x a ih =>
    simp only [ticks] at h
    simp only [List.cons_append, whoAt]
    split
    · rfl
    · split
      · rfl
      · exact ih _ (by omega)
theorem whoAt_high (a b : List Rn) (t : Int) (h : (ticks a : Int) ≤ t) : whoAt (a ++ b) t = whoAt b (t - ticks a) := by
  induction a generalizing t with
  | nil => simp [ticks]
  | cons x a ih =>
    simp only [ticks] at h
    simp only [List.cons_append, whoAt, ticks]
    rw [if_neg (by omega), if_neg (by omega), ih _ (by omega)]
    congr 1
    omega
theorem whoAt_one (p : Int) (n : Nat) (t : Int) (h : 0 ≤ t) : whoAt [⟨p, n⟩] t = if t < n then p else -1 := by
  simp only [whoAt]
  rw [if_neg (by omega)]
/-- Rows that are the same tick by tick. -/
def Alike (a b : List Rn) : Prop := ticks a = ticks b ∧ ∀ t : Int, 0 ≤ t → whoAt a t = whoAt b t
theorem alike_push (out : List Rn) (x : Rn) : Alike (tpush out x) (out ++ [x]) := by
  refine ⟨by rw [ticks_push, ticks_append]; simp [ticks], fun t ht => ?_⟩
  rcases tpush_cases out x with ⟨h, e⟩ | ⟨h, rfl, e⟩ | ⟨o, y, h, rfl, hp, e⟩ | ⟨o, y, h, rfl, hp, e⟩
  · rw [e]
    by_cases h1 : t < ticks out
    · rw [whoAt_low _ _ _ h1]
    · obtain ⟨xp, xn⟩ := x
      dsimp only at h
      subst h
      rw [whoAt_high _ _ _ (by omega), whoAt_one _ _ _ (by omega), if_neg (by omega), whoAt_out _ _ (by omega)]
  · rw [e]; rfl
  · rw [e, List.append_assoc]
    by_cases h1 : t < ticks o
    · rw [whoAt_low _ _ _ h1, whoAt_low _ _ _ h1]
    · rw [whoAt_high _ _ _ (by omega), whoAt_high _ _ _ (by omega)]
      obtain ⟨xp, xn⟩ := x
      obtain ⟨yp, yn⟩ := y
      dsimp only at hp h ⊢
      subst hp
      have e1 : ticks [⟨yp, yn⟩] = yn := by simp [ticks]
      rw [whoAt_one _ _ _ (by omega)]
      by_cases h2 : t - ticks o < yn
      · rw [whoAt_low _ _ _ (by rw [e1]; exact h2), whoAt_one _ _ _ (by omega), if_pos (by omega), if_pos h2]
      · rw [whoAt_high _ _ _ (by rw [e1]; omega), e1, whoAt_one _ _ _ (by omega)]
        by_cases h3 : t - ticks o < ((yn + xn : Nat) : Int)
        · rw [if_pos h3, if_pos (by omega)]
        · rw [if_neg h3, if_neg (by omega)]
  · rw [e]
theorem Alike.trans {a b c : List Rn} (h : Alike a b) (k : Alike b c) : Alike a c := ⟨h.1.trans k.1, fun t ht => (h.2 t ht).trans (k.2 t ht)⟩
theorem Alike.back {a b : List Rn} (h : Alike a b) (c : List Rn) : Alike (a ++ c) (b ++ c) := by
  refine ⟨by rw [ticks_append, ticks_append, h.1], fun t ht => ?_⟩
  by_cases h1 : t < ticks a
  · rw [whoAt_low _ _ _ h1, whoAt_low _ _ _ (by rw [← h.1]; exact h1), h.2 t ht]
  · rw [whoAt_high _ _ _ (by omega), whoAt_high _ _ _ (by rw [← h.1]; omega), h.1]
theorem alike_tidyOn (l : List Rn) : ∀ out, Alike (tidyOn out l) (out ++ l) := by
  induction l with
  | nil => intro out; simp only [tidyOn, List.foldl_nil, List.append_nil]; exact ⟨rfl, fun _ _ => rfl⟩
  | cons x l ih =>
    intro out
    have h1 := ih (tpush out x)
    have h2 := (alike_push out x).back l
    rw [List.append_assoc] at h2
    exact h1.trans h2
theorem whoAt_tidy (l : List Rn) (t : Int) : whoAt (tidy l) t = whoAt l t := by
  by_cases h : 0 ≤ t
  · have := (alike_tidyOn l []).2 t h
    simpa [tidy] using this
  · rw [whoAt_neg _ _ (by omega), whoAt_neg _ _ (by omega)]

theorem Apart.pos {l : List Rn} (h : Apart l) : ∀ r ∈ l, 1 ≤ r.n := by
  induction l with
  | nil => simp
  | cons r l ih =>
    cases l with
    | nil => intro q hq; simp at hq; subst hq; exact h
    | cons q s =>
      intro y hy
      rcases List.mem_cons.1 hy with rfl | hy
      · exact h.1
      · exact ih h.2.2 y hy
theorem Apart.snoc {o : List Rn} {y x : Rn} (h : Apart (o ++ [y])) (hx : 1 ≤ x.n) (hp : y.p ≠ x.p) : Apart (o ++ [y] ++ [x]) := by
  induction o with
  | nil => exact ⟨h, hp, hx⟩
  | cons r o ih =>
    cases o with
    | nil => exact ⟨h.1, h.2.1, ih h.2.2⟩
    | cons q s => exact ⟨h.1, h.2.1, ih h.2.2⟩
theorem Apart.more {o : List Rn} {y : Rn} (h : Apart (o ++ [y])) (k : Nat) : Apart (o ++ [⟨y.p, y.n + k⟩]) := by
  induction o with
  | nil => have h' : 1 ≤ y.n := h; show 1 ≤ y.n + k; omega
  | cons r o ih =>
    cases o with
    | nil => exact ⟨h.1, h.2.1, ih h.2.2⟩
    | cons q s => exact ⟨h.1, h.2.1, ih h.2.2⟩
theorem Apart.push {out : List Rn} (h : Apart out) (x : Rn) : Apart (tpush out x) := by
  rcases tpush_cases out x with ⟨h0, e⟩ | ⟨h0, rfl, e⟩ | ⟨o, y, h0, rfl, hp, e⟩ | ⟨o, y, h0, rfl, hp, e⟩
  · rw [e]; exact h
  · rw [e]; show 1 ≤ x.n; omega
  · rw [e]; exact h.more _
  · rw [e]; exact h.snoc (by omega) hp
theorem tidyOn_apart (l : List Rn) : ∀ out, Apart out → Apart (tidyOn out l) := by
  induction l with
  | nil => intro out h; exact h
  | cons x l ih => intro out h; exact ih _ (h.push x)
theorem tidy_apart (l : List Rn) : Apart (tidy l) := tidyOn_apart l [] trivial
/-- Two that stand side by side. -/
theorem Apart.at_ {l : List Rn} (h : Apart l) {i : Nat} {r q : Rn} (hr : l[i]? = some r) (hq : l[i + 1]? = some q) : r.p ≠ q.p := by
  induction l generalizing i with
  | nil => simp at hr
  | cons x l ih =>
    cases l with
    | nil => simp at hq
    | cons y s =>
      cases i with
      | zero => simp at hr hq; subst hr; subst hq; exact h.2.1
      | succ i => exact ih h.2.2 (by simpa using hr) (by simpa using hq)
/-- What is tidy stays. -/
theorem tidyOn_stays (l : List Rn) : ∀ out, Apart (out ++ l) → tidyOn out l = out ++ l := by
  induction l with
  | nil => intro out _; simp [tidyOn]
  | cons x l ih =>
    intro out h
    have e : tpush out x = out ++ [x] := by
      have hx : x.n ≠ 0 := by have := h.pos x (by simp); omega
      rcases List.eq_nil_or_concat out with rfl | ⟨o, y, rfl⟩
      · exact tpush_nil hx
      · simp only [List.concat_eq_append] at h ⊢
        refine tpush_new hx (h.at_ (i := o.length) ?_ ?_)
        · rw [List.append_assoc, List.getElem?_append_right (Nat.le_refl _)]; simp
        · rw [List.append_assoc, List.getElem?_append_right (by omega)]; simp
    have := ih (out ++ [x]) (by rw [List.append_assoc]; exact h)
    show tidyOn (tpush out x) l = _
    rw [e, this, List.append_assoc]
    rfl
theorem tidy_tidy (l : List Rn) : tidy (tidy l) = tidy l := by
  have := tidyOn_stays (tidy l) [] (by simpa using tidy_apart l)
  simpa [tidy] using this

theorem tpush_le (out : List Rn) (x : Rn) : (tpush out x).length ≤ out.length + 1 ∧ out.length ≤ (tpush out x).length := by
  rcases tpush_cases out x with ⟨h0, e⟩ | ⟨h0, rfl, e⟩ | ⟨o, y, h0, rfl, hp, e⟩ | ⟨o, y, h0, rfl, hp, e⟩ <;> rw [e] <;> simp
theorem tidyOn_le (l : List Rn) : ∀ out, (tidyOn out l).length ≤ out.length + l.length := by
  induction l with
  | nil => intro out; simp [tidyOn]
  | cons x l ih =>
    intro out
    have h1 := ih (tpush out x)
    have h2 := (tpush_le out x).1
    simp only [List.length_cons]
    show (tidyOn (tpush out x) l).length ≤ _
    omega
theorem tidy_le (l : List Rn) : (tidy l).length ≤ l.length := by
  have := tidyOn_le l []
  simpa [tidy] using this
theorem tidy_take_le (l : List Rn) (i : Nat) : (tidy (l.take i)).length ≤ i := by
  have := tidy_le (l.take i)
  rw [List.length_take] at this
  omega
/-- Two runs of one behind a row, one by one or as one. -/
theorem tpush_two (o : List Rn) (y x : Rn) (hy : y.n ≠ 0) (hp : y.p = x.p) : tpush (tpush o y) x = tpush o ⟨y.p, y.n + x.n⟩ := by
  by_cases hx : x.n = 0
  · rw [tpush_none hx]
    obtain ⟨yp, yn⟩ := y
    dsimp only at hp ⊢
    rw [hx]
    rfl
  · have hz : (⟨y.p, y.n + x.n⟩ : Rn).n ≠ 0 := by dsimp only; omega
    rcases tpush_cases o y with ⟨h0, e⟩ | ⟨h0, rfl, e⟩ | ⟨q, z, h0, rfl, hq, e⟩ | ⟨q, z, h0, rfl, hq, e⟩
    · exact absurd h0 hy
    · rw [e, tpush_nil hz]
      exact tpush_one (o := []) hx hp
    · rw [e, tpush_one hx (by dsimp only; rw [hq, hp]), tpush_one hz hq]
      dsimp only
      rw [Nat.add_assoc]
    · rw [e, tpush_one (o := q ++ [z]) hx hp, tpush_new (o := q) hz hq]
theorem tidyOn_push (o out : List Rn) (x : Rn) (h : Apart out) : tidyOn o (tpush out x) = tpush (tidyOn o out) x := by
  rcases tpush_cases out x with ⟨h0, e⟩ | ⟨h0, rfl, e⟩ | ⟨q, y, h0, rfl, hq, e⟩ | ⟨q, y, h0, rfl, hq, e⟩
  · rw [e, tpush_none h0]
  · rw [e]; rfl
  · rw [e, tidyOn_append, tidyOn_append]
    have hy : y.n ≠ 0 := by have := h.pos y (by simp); omega
    exact (tpush_two _ y x hy hq).symm
  · rw [e, tidyOn_append]
    rfl
theorem tidyOn_tidyOn (o l : List Rn) : ∀ out, Apart out → tidyOn o (tidyOn out l) = tidyOn (tidyOn o out) l := by
  induction l with
  | nil => intro out _; rfl
  | cons x l ih =>
    intro out h
    show tidyOn o (tidyOn (tpush out x) l) = tidyOn (tpush (tidyOn o out) x) l
    rw [ih _ (h.push x), tidyOn_push o out x h]
theorem tidy_append (a b : List Rn) : tidy (a ++ b) = tidyOn (tidy a) (tidy b) := by
  unfold tidy
  rw [tidyOn_tidyOn _ b [] trivial, tidyOn_append]
  rfl
theorem tidy_append_le (a b : List Rn) : (tidy (a ++ b)).length ≤ (tidy a).length + (tidy b).length := by
  rw [tidy_append]
  exact tidyOn_le _ _
theorem tidy_reps_le (m : Nat) (s : List Rn) : (tidy (reps m s)).length ≤ (tidy s).length * m := by
  induction m with
  | zero => simp [reps, tidy, tidyOn]
  | succ m ih =>
    have := tidy_append_le s (reps m s)
    show (tidy (s ++ reps m s)).length ≤ _
    rw [Nat.mul_succ]
    omega
theorem tkOf_reps (p : Int) (m : Nat) (s : List Rn) : tkOf p (reps m s) = m * tkOf p s := by
  induction m with
  | zero => simp [reps, tkOf]
  | succ m ih =>
    show tkOf p (s ++ reps m s) = _
    rw [tkOf_append, ih, Nat.succ_mul]
    omega
/-- How many are of somebody. -/
def swi : List Rn → Nat
  | [] => 0
  | r :: s => (if r.p = -1 then 0 else 1) + swi s
theorem swi_append (a b : List Rn) : swi (a ++ b) = swi a + swi b := by
  induction a with
  | nil => simp [swi]
  | cons x a ih => simp only [List.cons_append, swi, ih]; omega
theorem swi_le (l : List Rn) : swi l ≤ l.length := by
  induction l with
  | nil => simp [swi]
  | cons x l ih => simp only [swi, List.length_cons]; split <;> omega
theorem swi_take (l : List Rn) (i : Nat) : swi (l.take i) ≤ i := by
  have := swi_le (l.take i)
  rw [List.length_take] at this
  omega
theorem swi_more {l : List Rn} {i : Nat} {r : Rn} (h : l[i]? = some r) : swi (l.take (i + 1)) = swi (l.take i) + if r.p = -1 then 0 else 1 := by
  obtain ⟨hi, e⟩ := List.getElem?_eq_some_iff.1 h
  rw [List.take_succ_eq_append_getElem hi, swi_append, e]
  simp [swi]
theorem tkOf_more {p : Int} {l : List Rn} {i : Nat} {r : Rn} (h : l[i]? = some r) : tkOf p (l.take (i + 1)) = tkOf p (l.take i) + if r.p = p then r.n else 0 := by
  obtain ⟨hi, e⟩ := List.getElem?_eq_some_iff.1 h
  rw [List.take_succ_eq_append_getElem hi, tkOf_append, e]
  simp [tkOf]
/-- Parts of a tidied row are parts of the row. -/
theorem tpush_part {out : List Rn} {x r : Rn} (h : r ∈ tpush out x) : r.p = x.p ∨ ∃ q ∈ out, q.p = r.p := by
  rcases tpush_cases out x with ⟨h0, e⟩ | ⟨h0, rfl, e⟩ | ⟨q, y, h0, rfl, hq, e⟩ | ⟨q, y, h0, rfl, hq, e⟩
  · rw [e] at h; exact .inr ⟨r, h, rfl⟩
  · rw [e] at h; simp at h; subst h; exact .inl rfl
  · rw [e] at h
    rcases List.mem_append.1 h with h | h
    · exact .inr ⟨r, by simp [h], rfl⟩
    · simp at h; subst h; exact .inl hq
  · rw [e] at h
    rcases List.mem_append.1 h with h | h
    · exact .inr ⟨r, h, rfl⟩
    · simp at h; subst h; exact .inl rfl
theorem tidyOn_part (l : List Rn) : ∀ out, ∀ r ∈ tidyOn out l, (∃ q ∈ out, q.p = r.p) ∨ ∃ q ∈ l, q.p = r.p := by
  induction l with
  | nil => intro out r h; exact .inl ⟨r, h, rfl⟩
  | cons x l ih =>
    intro out r h
    rcases ih (tpush out x) r h with ⟨q, hq, e⟩ | ⟨q, hq, e⟩
    · rcases tpush_part hq with h | ⟨z, hz, e2⟩
      · exact .inr ⟨x, by simp, by rw [← h, e]⟩
      · exact .inl ⟨z, hz, by rw [e2, e]⟩
    · exact .inr ⟨q, by simp [hq], e⟩
theorem tidy_part {l : List Rn} {r : Rn} (h : r ∈ tidy l) : ∃ q ∈ l, q.p = r.p := by
  rcases tidyOn_part l [] r h with ⟨q, hq, _⟩ | h
  · simp at hq
  · exact h
theorem mem_ticks {l : List Rn} {r : Rn} (h : r ∈ l) : r.n ≤ ticks l := by
  induction l with
  | nil => simp at h
  | cons x l ih =>
    simp only [ticks]
    rcases List.mem_cons.1 h with rfl | h
    · omega
    · have := ih h; omega
/-- Whose the leaves of a table are. -/
theorem one_parts {x : Nd} {s : List Rn} (hf : fine x = true) (h : ∀ r ∈ s, -1 ≤ r.p ∧ r.p ≤ 5) : ∀ r ∈ one x s, -1 ≤ r.p ∧ r.p ≤ 5 := by
  intro r hr
  unfold one at hr
  split at hr
  · exact h r hr
  · split at hr
    · exact h r (reps_mem hr)
    · simp at hr
      subst hr
      unfold fine at hf
      unfold whose
      dsimp only
      simp only [Bool.and_eq_true, decide_eq_true_eq] at hf
      rename_i h3 h4
      split
      · omega
      · have h5 := hf.2
        rename_i h2
        by_cases h1 : x.k = 1
        · rw [if_pos h1] at h5
          simp at h5
          omega
        · rw [if_neg h1] at h5
          simp [h2, h3, h4] at h5
theorem lvs_parts {f : F} (h : f.ok) : ∀ r ∈ f.lvs, -1 ≤ r.p ∧ r.p ≤ 5 := by
  induction f with
  | nil => intro r hr; simp [F.lvs] at hr
  | cons x k r hk hr =>
    intro q hq
    rcases List.mem_append.1 hq with hq | hq
    · exact one_parts h.1 (hk h.2.2.1) q hq
    · exact hr h.2.2.2 q hq
end Tab
end Go.Proofs.Ytjbflndlfdekiaa
