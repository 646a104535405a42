/- A region that draws its order, by what each of its operations yields: whatever order is drawn. Named here: the model's regions alone, no program. -/
import Derived.Orders
import Derived.RegionTactic
import Derived.Below
namespace Go.Proofs.YtomaommamjhmmaaDoor
open Go Go.RowKit
namespace Reg
set_option linter.unusedSimpArgs false

def dstN (ops : Array Oper) (j : Nat) : Tmp := ((ops[j]?).bind (·.dst)).getD 0
def waits (o : Oper) (j : Nat) : Bool := o.after.toList.any fun e => e.on == j && Region.binds .any e
def writes (ops : Array Oper) (t : Tmp) : Bool := ops.toList.any fun o => o.dst == some t
/-- Every operation has a slot of its own, and waits for earlier ones alone. -/
def good (ops : Array Oper) (n : Nat) : Bool :=
  (List.range ops.size).all fun i => match ops[i]? with
    | some o => (match o.dst with
        | some d => decide (d < n) && (List.range ops.size).all fun j => j == i || (match ops[j]? with | some p => !(p.dst == some d) | none => true)
        | none => false) && o.after.toList.all fun e => decide (e.on < i)
    | none => false

theorem good_at {ops : Array Oper} {n : Nat} (h : good ops n = true) {i : Nat} {o : Oper} (hi : ops[i]? = some o) :
    ∃ d, o.dst = some d ∧ d < n ∧ (∀ j p, ops[j]? = some p → j ≠ i → p.dst ≠ some d) ∧ ∀ e ∈ o.after, e.on < i := by
  have hlt : i < ops.size := (Array.getElem?_eq_some_iff.1 hi).1
  have h1 := List.all_eq_true.1 h i (List.mem_range.2 hlt)
  rw [hi] at h1
  simp only [Bool.and_eq_true] at h1
  obtain ⟨h2, h3⟩ := h1
  cases hd : o.dst with
  | none => rw [hd] at h2; cases h2
  | some d =>
    rw [hd] at h2
    simp only [Bool.and_eq_true, decide_eq_true_iff] at h2
    refine ⟨d, rfl, h2.1, fun j p hj hne => ?_, fun e he => ?_⟩
    · have hjl : j < ops.size := (Array.getElem?_eq_some_iff.1 hj).1
      have h4 := List.all_eq_true.1 h2.2 j (List.mem_range.2 hjl)
      rw [hj] at h4
      simp only [Bool.or_eq_true, beq_iff_eq, Bool.not_eq_true', beq_eq_false_iff_ne] at h4
      exact h4.resolve_left hne
    · have := List.all_eq_true.1 h3 e (Array.mem_toList_iff.2 he)
      simpa using this

theorem dst_of {ops : Array Oper} {i : Nat} {o : Oper} {d : Tmp} (hi : ops[i]? = some o) (hd : o.dst = some d) : dstN ops i = d := by
  simp [dstN, hi, hd]

/-- Whoever has come up, those that it waits for have. -/
def Closed (ops : Array Oper) (live : Nat → Bool) : Prop := ∀ j p, ops[j]? = some p → live j = true → ∀ k, waits p k = true → live k = true
structure Inv (ops : Array Oper) (a0 : Act) (V : Nat → Value → World → Prop) (W : World → Prop) (listed : Array Bool) (a : Act) (w : World) : Prop where
  size : a.tmps.size = a0.tmps.size
  defers : a.defers = a0.defers
  env : ∀ t, writes ops t = false → a.eval (.tmp t) = a0.eval (.tmp t)
  val : ∀ j, j < ops.size → listed.getD j false = true → V j (a.eval (.tmp (dstN ops j))) w
  world : W w
  closed : Closed ops fun j => listed.getD j false

theorem eval_same (a : Act) (d : Tmp) (v : Value) (h : d < a.tmps.size) : (a.put (some d) v).eval (.tmp d) = v := by
  simp [Act.eval, Act.put, h]
theorem eval_other (a : Act) (d t : Tmp) (v : Value) (h : d ≠ t) : (a.put (some d) v).eval (.tmp t) = a.eval (.tmp t) := by
  simp [Act.eval, Act.put, Array.getElem?_setIfInBounds_ne h]

/-- What a step owes; live: who has come up. -/
def Owes (live : Nat → Bool) (V : Nat → Value → World → Prop) (W : World → Prop) (i : Nat) (o : Oper) (a : Act) (w : World) (a' : Act) (w' : World) : Prop :=
  ∃ v, a' = a.put o.dst v ∧ V i v w' ∧ W w' ∧ ∀ j v, live j = true → V j v w → V j v w'

theorem Inv.step {ops : Array Oper} {a0 : Act} {V : Nat → Value → World → Prop} {W : World → Prop} {listed : Array Bool} {a a' : Act} {w w' : World} (hg : good ops a0.tmps.size = true)
    {i : Nat} {o : Oper} (hi : ops[i]? = some o) (h : Inv ops a0 V W listed a w) (hr : ∀ k, waits o k = true → listed.getD k false = true) (hs : Owes (fun j => listed.getD j false) V W i o a w a' w') : Inv ops a0 V W (listed.setIfInBounds i true) a' w' := by
  obtain ⟨v, rfl, hv, hw, hm⟩ := hs
  obtain ⟨d, hd, hdn, hdist, _⟩ := good_at hg hi
  have hsz : d < a.tmps.size := by rw [h.size]; exact hdn
  rw [hd]
  refine ⟨by simp [Act.put, h.size], by simp [Act.put, h.defers], fun t ht => ?_, fun j hj hl => ?_, hw, fun j p hj hl k hk => ?_⟩
  · have hne : d ≠ t := by
      rintro rfl
      have : writes ops d = true := List.any_eq_true.2 ⟨o, Array.mem_toList_iff.2 (Array.mem_of_getElem? hi), by simp [hd]⟩
      rw [this] at ht; cases ht
    rw [eval_other _ _ _ _ hne]; exact h.env t ht
  · by_cases hji : j = i
    · subst hji
      rw [dst_of hi hd, eval_same _ _ _ hsz]; exact hv
    · obtain ⟨p, hp⟩ : ∃ p, ops[j]? = some p := ⟨_, Array.getElem?_eq_getElem hj⟩
      obtain ⟨e, he, _⟩ := good_at hg hp
      have hne : d ≠ dstN ops j := by
        rw [dst_of hp he]
        rintro rfl
        exact hdist j p hp hji he
      rw [eval_other _ _ _ _ hne]
      rw [getD_set_ne false (Ne.symm hji)] at hl
      exact hm j _ hl (h.val j hj hl)
  · by_cases hji : j = i
    · subst hji
      rw [hi] at hj
      injection hj with hj
      subst hj
      exact getD_set_true (hr k hk)
    · have hl' : (listed.setIfInBounds i true).getD j false = true := hl
      rw [getD_set_ne false (Ne.symm hji)] at hl'
      exact getD_set_true (h.closed j p hj hl' k hk)

/-- How many have not come up. -/
def left (listed : Array Bool) : Nat := listed.toList.countP (· == false)

theorem left_set {listed : Array Bool} {i : Nat} (h : listed.getD i true = false) : left (listed.setIfInBounds i true) + 1 = left listed := by
  have hlt : i < listed.size := by
    rcases Nat.lt_or_ge i listed.size with h' | h'
    · exact h'
    · simp [Array.getElem?_eq_none h'] at h
  have hi : listed.toList[i]'(by simpa using hlt) = false := by
    simpa [hlt] using h
  unfold left
  rw [Array.toList_setIfInBounds, List.countP_set (by simpa using hlt), hi]
  have : 0 < listed.toList.countP (· == false) := List.countP_pos_iff.2 ⟨false, by rw [← hi]; exact List.getElem_mem _, rfl⟩
  rw [if_pos (by decide), if_neg (by decide)]
  omega

theorem all_listed {ops : Array Oper} {n : Nat} (hg : good ops n = true) {listed : Array Bool} (hs : listed.size = ops.size) (hr : Region.ready .any ops listed = []) :
    ∀ j, j < ops.size → listed.getD j false = true := by
  intro j
  induction j using Nat.strongRecOn with
  | ind j ih =>
    intro hj
    have hjl : j < listed.size := by omega
    cases hb : listed.getD j false with
    | true => rfl
    | false =>
      have hb' : listed.getD j true = false := by
        simpa [hjl] using hb
      obtain ⟨o, ho⟩ : ∃ o, ops[j]? = some o := ⟨_, Array.getElem?_eq_getElem hj⟩
      obtain ⟨_, _, _, _, hacy⟩ := good_at hg ho
      have : j ∈ Region.ready .any ops listed := mem_ready.2 ⟨hb', o, ho, fun e he _ => ih e.on (hacy e he) (by have := hacy e he; omega)⟩
      rw [hr] at this; cases this

/-- What is asked of one operation. -/
def Goal (P : Program) (ops : Array Oper) (Q : Exit → Act → World → Prop) (V : Nat → Value → World → Prop) (W : World → Prop) (i : Nat) (o : Oper) (a : Act) (w : World) : Prop :=
  ∀ live : Nat → Bool, Closed ops live → live i = false → wpOp P ops Q i (Owes live V W i o a w) a w
/-- The whole obligation. -/
def Steps (P : Program) (ops : Array Oper) (Q : Exit → Act → World → Prop) (a0 : Act) (V : Nat → Value → World → Prop) (W : World → Prop) : Prop :=
  ∀ i o, ops[i]? = some o → ∀ (a : Act) (w : World), (∀ t, writes ops t = false → a.eval (.tmp t) = a0.eval (.tmp t)) →
    (∀ j, waits o j = true → V j (a.eval (.tmp (dstN ops j))) w) → W w → Goal P ops Q V W i o a w

theorem any_of {P : Program} {ops : Array Oper} {Q : Exit → Act → World → Prop} {a0 : Act} {V : Nat → Value → World → Prop} {W : World → Prop} (hg : good ops a0.tmps.size = true) (hst : Steps P ops Q a0 V W)
    (hend : ∀ listed a w, Inv ops a0 V W listed a w → (∀ j, j < ops.size → listed.getD j false = true) → Q .normal a w) :
    ∀ (fuel : Nat) (listed : Array Bool) (a : Act) (w : World), listed.size = ops.size → left listed ≤ fuel → Inv ops a0 V W listed a w → wpAny P .any ops Q fuel listed a w := by
  intro fuel
  induction fuel with
  | zero =>
    intro listed a w hs hl h
    have hr : Region.ready .any ops listed = [] := by
      cases hc : Region.ready .any ops listed with
      | nil => rfl
      | cons i r =>
        have hi : i ∈ Region.ready .any ops listed := by rw [hc]; exact List.mem_cons_self
        have := left_set (mem_ready.1 hi).1
        omega
    exact ⟨hr, hend listed a w h (all_listed hg hs hr)⟩
  | succ fuel ih =>
    intro listed a w hs hl h
    refine ⟨fun hr => hend listed a w h (all_listed hg hs hr), fun i hi => ?_⟩
    obtain ⟨h0, o, ho, hall⟩ := mem_ready.1 hi
    have hi' : i < ops.size := (Array.getElem?_eq_some_iff.1 ho).1
    have hwait : ∀ k, waits o k = true → k < i ∧ listed.getD k false = true := fun k hk => by
      obtain ⟨e, he, heq⟩ := List.any_eq_true.1 hk
      have he := Array.mem_toList_iff.1 he
      simp only [Bool.and_eq_true, beq_iff_eq] at heq
      obtain ⟨rfl, hb⟩ := heq
      obtain ⟨_, _, _, _, hacy⟩ := good_at hg ho
      exact ⟨hacy e he, hall e he hb⟩
    have hstep := hst i o ho a w h.env (fun j hj => h.val j (by have := (hwait j hj).1; omega) (hwait j hj).2) h.world (fun j => listed.getD j false) h.closed (by
      have hlt : i < listed.size := by omega
      simpa [hlt] using h0)
    refine wpOp_mono (fun a' w' hw => ?_) hstep
    refine ih _ a' w' (by simpa using hs) ?_ (h.step hg ho (fun k hk => (hwait k hk).2) hw)
    have := left_set h0
    omega

theorem region {P : Program} {id : Nat} {ops : Array Oper} {Q : Exit → Act → World → Prop} {a0 : Act} {w0 : World} (hm : P.follows .mixedOrders = true) (hg : good ops a0.tmps.size = true) (V : Nat → Value → World → Prop) (W : World → Prop)
    (hW : W w0.drew) (hst : Steps P ops Q a0 V W)
    (hend : ∀ a w, a.tmps.size = a0.tmps.size → a.defers = a0.defers → (∀ t, writes ops t = false → a.eval (.tmp t) = a0.eval (.tmp t)) → (∀ j, j < ops.size → V j (a.eval (.tmp (dstN ops j))) w) → W w → Q .normal a w) :
    (Code.region id ops true).wp P Q a0 w0 := by
  refine wp_region_any hm ?_
  refine any_of hg hst (fun listed a w h hall => hend a w h.size h.defers h.env (fun j hj => h.val j hj (hall j hj)) h.world) ops.size (Array.replicate ops.size false) a0 w0.drew (by simp) ?_ ?_
  · unfold left
    have := List.countP_le_length (p := (· == false)) (l := (Array.replicate ops.size false).toList)
    simpa using this
  · refine ⟨rfl, rfl, fun _ _ => rfl, fun j hj hl => ?_, hW, fun j p hj hl k hk => ?_⟩
    · simp [hj] at hl
    · have hjl : j < ops.size := (Array.getElem?_eq_some_iff.1 hj).1
      have hl' : (Array.replicate ops.size false).getD j false = true := hl
      simp [hjl] at hl'

/-- The obligations one by one. -/
def All (F : Nat → Oper → Prop) : Nat → List Oper → Prop
  | _, [] => True
  | i, o :: l => F i o ∧ All F (i + 1) l
theorem All.get {F : Nat → Oper → Prop} (l : List Oper) : ∀ (i : Nat), All F i l → ∀ j o, l[j]? = some o → F (i + j) o := by
  induction l with
  | nil => intro i _ j o hp; simp at hp
  | cons q l ih =>
    intro i h j o hp
    cases j with
    | zero => simp at hp; subst hp; exact h.1
    | succ j =>
      have := ih (i + 1) h.2 j o (by simpa using hp)
      rwa [Nat.add_assoc, Nat.add_comm 1] at this
theorem steps_of {P : Program} {l : List Oper} {Q : Exit → Act → World → Prop} {a0 : Act} {V : Nat → Value → World → Prop} {W : World → Prop}
    (h : All (fun i o => ∀ (a : Act) (w : World), (∀ t, writes l.toArray t = false → a.eval (.tmp t) = a0.eval (.tmp t)) →
      (∀ j, waits o j = true → V j (a.eval (.tmp (dstN l.toArray j))) w) → W w → Goal P l.toArray Q V W i o a w) 0 l) : Steps P l.toArray Q a0 V W := by
  intro i o hi
  have := All.get l 0 h i o (by simpa using hi)
  rwa [Nat.zero_add] at this

section
variable {P : Program} {ops : Array Oper} {Q : Exit → Act → World → Prop} {V : Nat → Value → World → Prop} {W : World → Prop} {i : Nat} {o : Oper} {a : Act} {w : World}
/-- An operation that yields a value, and does nothing else. -/
theorem val (hi : ops[i]? = some o) (hw : Region.wanted o (yielded ops a.tmps) = true) (hW : W w) (v : Value) (hr : (execOp a.eval o).run P w = .ok (.value v) w) (hv : V i v w) : Goal P ops Q V W i o a w := by
  intro live _ _
  unfold wpOp
  rw [hi]
  simp only [hw, if_true]
  refine .inl ?_
  unfold Oper.wp
  rw [hr]
  exact ⟨v, rfl, hv, hW, fun _ _ _ h => h⟩
/-- An operation that yields a value, in another world; what those that have come up yielded is to stand. -/
theorem growL (hi : ops[i]? = some o) (hw : Region.wanted o (yielded ops a.tmps) = true) (v : Value) (w' : World) (hr : (execOp a.eval o).run P w = .ok (.value v) w') (hv : V i v w') (hW : W w')
    (hm : ∀ live : Nat → Bool, Closed ops live → live i = false → ∀ j v, live j = true → V j v w → V j v w') : Goal P ops Q V W i o a w := by
  intro live hc h0
  unfold wpOp
  rw [hi]
  simp only [hw, if_true]
  refine .inl ?_
  unfold Oper.wp
  rw [hr]
  exact ⟨v, rfl, hv, hW, hm live hc h0⟩
theorem grow (hi : ops[i]? = some o) (hw : Region.wanted o (yielded ops a.tmps) = true) (v : Value) (w' : World) (hr : (execOp a.eval o).run P w = .ok (.value v) w') (hv : V i v w') (hW : W w') (hm : ∀ j v, j ≠ i → V j v w → V j v w') : Goal P ops Q V W i o a w :=
  growL hi hw v w' hr hv hW fun live _ h0 j v hj h => hm j v (fun e => by rw [e, h0] at hj; cases hj) h
/-- A call of a Go function. -/
theorem call (hi : ops[i]? = some o) (hw : Region.wanted o (yielded ops a.tmps) = true) (f : FuncId) (args : Array Value) (hr : (execOp a.eval o).run P w = .ok (.enter f args) w)
    (hc : Calls P f args w fun e w' => ∃ v, e = .returned v ∧ V i v w' ∧ W w' ∧ ∀ j v, V j v w → V j v w') : Goal P ops Q V W i o a w := by
  intro live _ _
  unfold wpOp
  rw [hi]
  simp only [hw, if_true]
  refine .inl ?_
  unfold Oper.wp
  rw [hr]
  refine hc.mono fun e w' he => ?_
  obtain ⟨v, rfl, h1, h2, h3⟩ := he
  exact ⟨v, rfl, h1, h2, fun j v _ => h3 j v⟩
/-- An operation whose guard says no. -/
theorem skip (hi : ops[i]? = some o) (hw : Region.wanted o (yielded ops a.tmps) = false) (hW : W w) (hv : V i undef w) : Goal P ops Q V W i o a w := by
  intro live _ _
  unfold wpOp
  rw [hi]
  simp only [hw]
  exact ⟨undef, rfl, hv, hW, fun _ _ _ h => h⟩
/-- Whoever waits for one that has not come up has not either. -/
theorem not_live {live : Nat → Bool} (hc : Closed ops live) {k : Nat} (h : live k = false) {j : Nat} {p : Oper} (hj : ops[j]? = some p) (hw : waits p k = true) : live j = false := by
  cases e : live j with
  | false => rfl
  | true => rw [hc j p hj e k hw] at h; cases h
theorem wanted_free (h : o.guard = none) : Region.wanted o (yielded ops a.tmps) = true := by simp [Region.wanted, h]
theorem wanted_if {g : Nat} {want b : Bool} (h : o.guard = some (g, want)) {t : Tmp} (ht : (ops[g]?).bind (·.dst) = some t) (hv : a.eval (.tmp t) = .bool b) (hb : (b == want) = true) : Region.wanted o (yielded ops a.tmps) = true := by
  have hlt : t < a.tmps.size := by
    rcases Nat.lt_or_ge t a.tmps.size with h' | h'
    · exact h'
    · simp [Act.eval, Array.getElem?_eq_none h', undef] at hv
  have h2 : a.tmps[t]? = some (.bool b) := by
    simpa [Act.eval, hlt] using hv
  simp only [Region.wanted, h, yielded, ht, Option.bind_some, h2]
  have : b = want := by simpa using hb
  simp [this]
end

/-- What a frame says of constants and functions. -/
theorem consts (a : Act) : (∀ v, a.eval (.const v) = v) ∧ (∀ f, a.eval (.func f) = .func (.func f) #[] #[]) := ⟨fun _ => rfl, fun _ => rfl⟩

/-- A frame by its slots. -/
theorem act_lit (a : Act) (n : Nat) (h : a.tmps.size = n) : a = ⟨((List.range n).map fun t => a.eval (.tmp t)).toArray, a.defers⟩ := by
  cases a with
  | mk tmps defers =>
    simp only at h
    congr 1
    apply Array.ext
    · simp [h]
    · intro i h1 h2
      simp [Act.eval, h1]
end Reg
end Go.Proofs.YtomaommamjhmmaaDoor
