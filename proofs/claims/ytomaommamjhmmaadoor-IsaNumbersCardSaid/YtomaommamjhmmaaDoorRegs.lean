/- A region that draws its order and stores: by what each of its operations yields, and what the world is by then. -/
import Derived.Test.YtomaommamjhmmaaDoorInv
namespace Go.Proofs.YtomaommamjhmmaaDoor
open Go Go.RowKit
namespace Rgs
open Reg (waits writes left left_set all_listed Closed)
set_option linter.unusedSimpArgs false

/-- As Reg.good; an operation may have no slot. -/
def good (ops : Array Oper) (n : Nat) : Bool :=
  (List.range ops.size).all fun i => match ops[i]? with
    | some o => (match o.dst with
        | some d => decide (d < n) && (List.range ops.size).all fun j => j == i || (match ops[j]? with | some p => !(p.dst == some d) | none => true)
        | none => true) && o.after.toList.all fun e => !Region.binds .any e || decide (e.on < i)
    | none => false
theorem good_at {ops : Array Oper} {n : Nat} (h : good ops n = true) {i : Nat} {o : Oper} (hi : ops[i]? = some o) :
    (∀ d, o.dst = some d → d < n ∧ ∀ j p, ops[j]? = some p → j ≠ i → p.dst ≠ some d) ∧ ∀ e ∈ o.after, Region.binds .any e = true → e.on < i := by
  have hlt : i < ops.size := (Array.getElem?_eq_some_iff.1 hi).1
  have h1 := List.all_eq_true.1 h i (List.mem_range.2 hlt)
  rw [hi] at h1
  simp only [Bool.and_eq_true] at h1
  obtain ⟨h2, h3⟩ := h1
  refine ⟨fun d hd => ?_, fun e he hbd => ?_⟩
  · rw [hd] at h2
    simp only [Bool.and_eq_true, decide_eq_true_iff] at h2
    refine ⟨h2.1, fun j p hj hne => ?_⟩
    have hjl : j < ops.size := (Array.getElem?_eq_some_iff.1 hj).1
    have h4 := List.all_eq_true.1 h2.2 j (List.mem_range.2 hjl)
    rw [hj] at h4
    simp only [Bool.or_eq_true, beq_iff_eq, Bool.not_eq_true', beq_eq_false_iff_ne] at h4
    exact h4.resolve_left hne
  · have := List.all_eq_true.1 h3 e (Array.mem_toList_iff.2 he)
    rw [hbd] at this
    simpa using this
def upd (live : Nat → Bool) (i : Nat) : Nat → Bool := fun j => j == i || live j
structure Inv (ops : Array Oper) (a0 : Act) (V : Nat → Value → World → Prop) (W : (Nat → Bool) → Act → World → Prop) (listed : Array Bool) (a : Act) (w : World) : Prop where
  size : a.tmps.size = a0.tmps.size
  defers : a.defers = a0.defers
  env : ∀ t, writes ops t = false → a.eval (.tmp t) = a0.eval (.tmp t)
  val : ∀ j o, ops[j]? = some o → listed.getD j false = true → ∃ v, V j v w ∧ ∀ d, o.dst = some d → a.eval (.tmp d) = v
  world : W (fun j => listed.getD j false) a w
  closed : Closed ops fun j => listed.getD j false
/-- What a step owes; live: who has come up. -/
def Owes (live : Nat → Bool) (V : Nat → Value → World → Prop) (W : (Nat → Bool) → Act → World → Prop) (i : Nat) (o : Oper) (a : Act) (w : World) (a' : Act) (w' : World) : Prop :=
  ∃ v, a' = a.put o.dst v ∧ V i v w' ∧ W (upd live i) (a.put o.dst v) w' ∧ ∀ j v, live j = true → V j v w → V j v w'
theorem live_set {listed : Array Bool} {i : Nat} (hi : i < listed.size) : (fun j => (listed.setIfInBounds i true).getD j false) = upd (fun j => listed.getD j false) i := by
  funext j
  unfold upd
  by_cases h : j = i
  · subst h
    simp [hi]
  · rw [getD_set_ne false (Ne.symm h)]
    simp [h]
theorem upd_off {live : Nat → Bool} {i k : Nat} (h : upd live i k = false) : live k = false := by
  unfold upd at h
  cases e : live k with
  | false => rfl
  | true => rw [e] at h; simp at h
theorem upd_self (live : Nat → Bool) (i : Nat) : upd live i i = true := by simp [upd]
theorem upd_on {live : Nat → Bool} {i k : Nat} (h : live k = true) : upd live i k = true := by simp [upd, h]
theorem put_none (a : Act) (v : Value) : a.put none v = a := rfl
theorem Inv.step {ops : Array Oper} {a0 : Act} {V : Nat → Value → World → Prop} {W : (Nat → Bool) → Act → World → Prop} {listed : Array Bool} {a a' : Act} {w w' : World} (hg : good ops a0.tmps.size = true)
    {i : Nat} {o : Oper} (hi : ops[i]? = some o) (hil : i < listed.size) (h : Inv ops a0 V W listed a w) (hr : ∀ k, waits o k = true → listed.getD k false = true) (hs : Owes (fun j => listed.getD j false) V W i o a w a' w') : Inv ops a0 V W (listed.setIfInBounds i true) a' w' := by
  obtain ⟨v, rfl, hv, hw, hm⟩ := hs
  obtain ⟨hgd, _⟩ := good_at hg hi
  have hcl : Closed ops fun j => (listed.setIfInBounds i true).getD j false := fun j p hj hl k hk => by
    by_cases hji : j = i
    · subst hji
      rw [hi] at hj
      injection hj with hj
      subst hj
      exact getD_set_true (hr k hk)
    · have hl' : (listed.setIfInBounds i true).getD j false = true := hl
      rw [getD_set_ne false (Ne.symm hji)] at hl'
      exact getD_set_true (h.closed j p hj hl' k hk)
  cases hd : o.dst with
  | none =>
    rw [hd] at hw
    rw [put_none] at hw ⊢
    refine ⟨h.size, h.defers, h.env, fun j p hj hl => ?_, by rw [live_set hil]; exact hw, hcl⟩
    by_cases hji : j = i
    · subst hji
      rw [hi] at hj
      injection hj with hj
      subst hj
      exact ⟨v, hv, fun d e => by rw [hd] at e; cases e⟩
    · rw [getD_set_ne false (Ne.symm hji)] at hl
      obtain ⟨u, hu, he⟩ := h.val j p hj hl
      exact ⟨u, hm j u hl hu, he⟩
  | some d =>
    rw [hd] at hw
    obtain ⟨hdn, hdist⟩ := hgd d hd
    have hsz : d < a.tmps.size := by rw [h.size]; exact hdn
    refine ⟨by simp [Act.put, h.size], by simp [Act.put, h.defers], fun t ht => ?_, fun j p hj hl => ?_, by rw [live_set hil]; exact hw, hcl⟩
    · have hne : d ≠ t := by
        rintro rfl
        have : writes ops d = true := List.any_eq_true.2 ⟨o, Array.mem_toList_iff.2 (Array.mem_of_getElem? hi), by simp [hd]⟩
        rw [this] at ht; cases ht
      rw [Reg.eval_other _ _ _ _ hne]; exact h.env t ht
    · by_cases hji : j = i
      · subst hji
        rw [hi] at hj
        injection hj with hj
        subst hj
        exact ⟨v, hv, fun d' e => by rw [hd] at e; injection e with e; subst e; exact Reg.eval_same _ _ _ hsz⟩
      · rw [getD_set_ne false (Ne.symm hji)] at hl
        obtain ⟨u, hu, he⟩ := h.val j p hj hl
        refine ⟨u, hm j u hl hu, fun d' e => ?_⟩
        rw [Reg.eval_other _ _ _ _ fun e2 => hdist j p hj hji (by rw [e, e2])]
        exact he d' e
theorem all_live {ops : Array Oper} {n : Nat} (hg : good ops n = true) {listed : Array Bool} (hs : listed.size = ops.size) (hr : Region.ready .any ops listed = []) :
    ∀ j, j < ops.size → listed.getD j false = true := by
  intro j
  induction j using Nat.strongRecOn with
  | ind j ih =>
    intro hj
    have hjl : j < listed.size := by omega
    cases hb : listed.getD j false with
    | true => rfl
    | false =>
      have hb' : listed.getD j true = false := by
        simpa [hjl] using hb
      obtain ⟨o, ho⟩ : ∃ o, ops[j]? = some o := ⟨_, Array.getElem?_eq_getElem hj⟩
      obtain ⟨_, hacy⟩ := good_at hg ho
      have : j ∈ Region.ready .any ops listed := mem_ready.2 ⟨hb', o, ho, fun e he hbd => ih e.on (hacy e he hbd) (by have := hacy e he hbd; omega)⟩
      rw [hr] at this; cases this
/-- What is asked of one operation. -/
def Goal (P : Program) (ops : Array Oper) (Q : Exit → Act → World → Prop) (V : Nat → Value → World → Prop) (W : (Nat → Bool) → Act → World → Prop) (live : Nat → Bool) (i : Nat) (o : Oper) (a : Act) (w : World) : Prop :=
  wpOp P ops Q i (Owes live V W i o a w) a w
/-- The obligation for an operation. -/
def Step (P : Program) (ops : Array Oper) (Q : Exit → Act → World → Prop) (a0 : Act) (V : Nat → Value → World → Prop) (W : (Nat → Bool) → Act → World → Prop) (i : Nat) (o : Oper) : Prop :=
  ∀ (a : Act) (w : World) (live : Nat → Bool), a.tmps.size = a0.tmps.size → (∀ t, writes ops t = false → a.eval (.tmp t) = a0.eval (.tmp t)) →
    (∀ j, waits o j = true → ∀ p d, ops[j]? = some p → p.dst = some d → V j (a.eval (.tmp d)) w) → Closed ops live → live i = false → (∀ k, waits o k = true → live k = true) → W live a w → Goal P ops Q V W live i o a w
def Steps (P : Program) (ops : Array Oper) (Q : Exit → Act → World → Prop) (a0 : Act) (V : Nat → Value → World → Prop) (W : (Nat → Bool) → Act → World → Prop) : Prop :=
  ∀ i o, ops[i]? = some o → Step P ops Q a0 V W i o
theorem any_of {P : Program} {ops : Array Oper} {Q : Exit → Act → World → Prop} {a0 : Act} {V : Nat → Value → World → Prop} {W : (Nat → Bool) → Act → World → Prop} (hg : good ops a0.tmps.size = true) (hst : Steps P ops Q a0 V W)
    (hend : ∀ listed a w, Inv ops a0 V W listed a w → (∀ j, j < ops.size → listed.getD j false = true) → Q .normal a w) :
    ∀ (fuel : Nat) (listed : Array Bool) (a : Act) (w : World), listed.size = ops.size → left listed ≤ fuel → Inv ops a0 V W listed a w → wpAny P .any ops Q fuel listed a w := by
  intro fuel
  induction fuel with
  | zero =>
    intro listed a w hs hl h
    have hr : Region.ready .any ops listed = [] := by
      cases hc : Region.ready .any ops listed with
      | nil => rfl
      | cons i r =>
        have hi : i ∈ Region.ready .any ops listed := by rw [hc]; exact List.mem_cons_self
        have := left_set (mem_ready.1 hi).1
        omega
    exact ⟨hr, hend listed a w h (all_live hg hs hr)⟩
  | succ fuel ih =>
    intro listed a w hs hl h
    refine ⟨fun hr => hend listed a w h (all_live hg hs hr), fun i hi => ?_⟩
    obtain ⟨h0, o, ho, hall⟩ := mem_ready.1 hi
    have hi' : i < ops.size := (Array.getElem?_eq_some_iff.1 ho).1
    have hlt : i < listed.size := by omega
    have hwait : ∀ k, waits o k = true → k < i ∧ listed.getD k false = true := fun k hk => by
      obtain ⟨e, he, heq⟩ := List.any_eq_true.1 hk
      have he := Array.mem_toList_iff.1 he
      simp only [Bool.and_eq_true, beq_iff_eq] at heq
      obtain ⟨rfl, hb⟩ := heq
      obtain ⟨_, hacy⟩ := good_at hg ho
      exact ⟨hacy e he hb, hall e he hb⟩
    have hstep := hst i o ho a w (fun j => listed.getD j false) h.size h.env (fun j hj p d hp hd => by
      obtain ⟨v, hv, he⟩ := h.val j p hp (hwait j hj).2
      rw [he d hd]
      exact hv) h.closed (by simpa [hlt] using h0) (fun k hk => (hwait k hk).2) h.world
    refine wpOp_mono (fun a' w' hw => ?_) hstep
    refine ih _ a' w' (by simpa using hs) ?_ (h.step hg ho hlt (fun k hk => (hwait k hk).2) hw)
    have := left_set h0
    omega
theorem region {P : Program} {id : Nat} {ops : Array Oper} {Q : Exit → Act → World → Prop} {a0 : Act} {w0 : World} (hm : P.follows .mixedOrders = true) (hg : good ops a0.tmps.size = true) (V : Nat → Value → World → Prop) (W : (Nat → Bool) → Act → World → Prop)
    (hW : W (fun _ => false) a0 w0.drew) (hst : Steps P ops Q a0 V W)
    (hend : ∀ a w live, a.tmps.size = a0.tmps.size → a.defers = a0.defers → (∀ t, writes ops t = false → a.eval (.tmp t) = a0.eval (.tmp t)) → (∀ j p, ops[j]? = some p → ∃ v, V j v w ∧ ∀ d, p.dst = some d → a.eval (.tmp d) = v) → (∀ j, j < ops.size → live j = true) → W live a w → Q .normal a w) :
    (Code.region id ops true).wp P Q a0 w0 := by
  refine wp_region_any hm ?_
  have hfalse : (fun j => (Array.replicate ops.size false).getD j false) = fun _ => false := by
    funext j
    by_cases hj : j < ops.size <;> simp [hj]
  refine any_of hg hst (fun listed a w h hall => hend a w (fun j => listed.getD j false) h.size h.defers h.env (fun j p hj => h.val j p hj (hall j (Array.getElem?_eq_some_iff.1 hj).1)) hall h.world) ops.size (Array.replicate ops.size false) a0 w0.drew (by simp) ?_ ?_
  · unfold left
    have := List.countP_le_length (p := (· == false)) (l := (Array.replicate ops.size false).toList)
    simpa using this
  · refine ⟨rfl, rfl, fun _ _ => rfl, fun j p hj hl => ?_, by rw [hfalse]; exact hW, fun j p hj hl k hk => ?_⟩
    · have hjl : j < ops.size := (Array.getElem?_eq_some_iff.1 hj).1
      simp [hjl] at hl
    · have hjl : j < ops.size := (Array.getElem?_eq_some_iff.1 hj).1
      have hl' : (Array.replicate ops.size false).getD j false = true := hl
      simp [hjl] at hl'
theorem steps_of {P : Program} {l : List Oper} {Q : Exit → Act → World → Prop} {a0 : Act} {V : Nat → Value → World → Prop} {W : (Nat → Bool) → Act → World → Prop}
    (h : Reg.All (fun i o => Step P l.toArray Q a0 V W i o) 0 l) : Steps P l.toArray Q a0 V W := by
  intro i o hi
  have := Reg.All.get l 0 h i o (by simpa using hi)
  rwa [Nat.zero_add] at this
section
variable {P : Program} {ops : Array Oper} {Q : Exit → Act → World → Prop} {V : Nat → Value → World → Prop} {W : (Nat → Bool) → Act → World → Prop} {live : Nat → Bool} {i : Nat} {o : Oper} {a : Act} {w : World}
/-- An operation that yields a value, and does nothing else. -/
theorem val (hi : ops[i]? = some o) (hw : Region.wanted o (yielded ops a.tmps) = true) (v : Value) (hr : (execOp a.eval o).run P w = .ok (.value v) w) (hv : V i v w) (hW : W (upd live i) (a.put o.dst v) w) : Goal P ops Q V W live i o a w := by
  unfold Goal wpOp
  rw [hi]
  simp only [hw, if_true]
  refine .inl ?_
  unfold Oper.wp
  rw [hr]
  exact ⟨v, rfl, hv, hW, fun _ _ _ h => h⟩
/-- An operation that yields a value, in another world; what those that have come up yielded is to stand. -/
theorem grow (hi : ops[i]? = some o) (hw : Region.wanted o (yielded ops a.tmps) = true) (v : Value) (w' : World) (hr : (execOp a.eval o).run P w = .ok (.value v) w') (hv : V i v w') (hW : W (upd live i) (a.put o.dst v) w')
    (hm : ∀ j v, live j = true → V j v w → V j v w') : Goal P ops Q V W live i o a w := by
  unfold Goal wpOp
  rw [hi]
  simp only [hw, if_true]
  refine .inl ?_
  unfold Oper.wp
  rw [hr]
  exact ⟨v, rfl, hv, hW, hm⟩
/-- A store. -/
theorem store (hi : ops[i]? = some o) (hw : Region.wanted o (yielded ops a.tmps) = true) (w' : World) (hr : (execOp a.eval o).run P w = .ok .skip w') (hv : V i undef w') (hW : W (upd live i) (a.put o.dst undef) w')
    (hm : ∀ j v, live j = true → V j v w → V j v w') : Goal P ops Q V W live i o a w := by
  unfold Goal wpOp
  rw [hi]
  simp only [hw, if_true]
  refine .inl ?_
  unfold Oper.wp
  rw [hr]
  exact ⟨undef, rfl, hv, hW, hm⟩
/-- A call of a Go function. -/
theorem call (hi : ops[i]? = some o) (hw : Region.wanted o (yielded ops a.tmps) = true) (f : FuncId) (args : Array Value) (hr : (execOp a.eval o).run P w = .ok (.enter f args) w)
    (hc : Calls P f args w fun e w' => ∃ v, e = .returned v ∧ V i v w' ∧ W (upd live i) (a.put o.dst v) w' ∧ ∀ j v, live j = true → V j v w → V j v w') : Goal P ops Q V W live i o a w := by
  unfold Goal wpOp
  rw [hi]
  simp only [hw, if_true]
  refine .inl ?_
  unfold Oper.wp
  rw [hr]
  refine hc.mono fun e w' he => ?_
  obtain ⟨v, rfl, h1, h2, h3⟩ := he
  exact ⟨v, rfl, h1, h2, h3⟩
/-- An operation whose guard says no. -/
theorem skip (hi : ops[i]? = some o) (hw : Region.wanted o (yielded ops a.tmps) = false) (hv : V i undef w) (hW : W (upd live i) (a.put o.dst undef) w) : Goal P ops Q V W live i o a w := by
  unfold Goal wpOp
  rw [hi]
  simp only [hw]
  exact ⟨undef, rfl, hv, hW, fun _ _ _ h => h⟩
end
theorem wanted_not {ops : Array Oper} {o : Oper} {a : Act} {g : Nat} {want b : Bool} (h : o.guard = some (g, want)) {t : Tmp} (ht : (ops[g]?).bind (·.dst) = some t) (hv : a.eval (.tmp t) = .bool b) (hb : (b == want) = false) : Region.wanted o (yielded ops a.tmps) = false := by
  have hlt : t < a.tmps.size := by
    rcases Nat.lt_or_ge t a.tmps.size with h' | h'
    · exact h'
    · simp [Act.eval, Array.getElem?_eq_none h', undef] at hv
  have h2 : a.tmps[t]? = some (.bool b) := by
    simpa [Act.eval, hlt] using hv
  simp only [Region.wanted, h, yielded, ht, Option.bind_some, h2]
  have : b ≠ want := by simpa using hb
  simp [this]
theorem wanted_undef {ops : Array Oper} {o : Oper} {a : Act} {g : Nat} {want : Bool} (h : o.guard = some (g, want)) {t : Tmp} (ht : (ops[g]?).bind (·.dst) = some t) (hv : a.eval (.tmp t) = undef) : Region.wanted o (yielded ops a.tmps) = false := by
  have h2 : ∀ b, a.tmps[t]? ≠ some (.bool b) := fun b e => by
    simp [Act.eval, e, undef] at hv
  simp only [Region.wanted, h, yielded, ht, Option.bind_some]
  rfl
theorem foldl_set (g : Nat → Value) (ws : List Nat) : ∀ arr : Array Value, (ws.foldl (fun r t => r.setIfInBounds t (g t)) arr).size = arr.size ∧ ∀ t, t < arr.size → (ws.foldl (fun r t => r.setIfInBounds t (g t)) arr)[t]? = if t ∈ ws then some (g t) else arr[t]? := by
  induction ws with
  | nil => intro arr; exact ⟨rfl, fun t _ => by simp⟩
  | cons x ws ih =>
    intro arr
    rw [List.foldl_cons]
    obtain ⟨h1, h2⟩ := ih (arr.setIfInBounds x (g x))
    refine ⟨by rw [h1]; simp, fun t ht => ?_⟩
    rw [h2 t (by simpa using ht)]
    by_cases hm : t ∈ ws
    · rw [if_pos hm, if_pos (List.mem_cons_of_mem _ hm)]
    · rw [if_neg hm]
      by_cases hx : t = x
      · subst hx
        rw [if_pos List.mem_cons_self]
        simp [ht]
      · rw [if_neg (by simp [hx, hm]), Array.getElem?_setIfInBounds_ne (Ne.symm hx)]
/-- A frame behind a region: as it was, but for the slots that the region writes. -/
theorem act_ws {ops : Array Oper} (a : Act) (T : Array Value) (dl : List Deferred) (hs : a.tmps.size = T.size) (hd : a.defers = dl) (E : ∀ t, writes ops t = false → a.eval (.tmp t) = (Act.mk T dl).eval (.tmp t)) (ws : List Nat)
    (hw : ((List.range T.size).all fun t => !writes ops t || ws.contains t) = true) : a = ⟨ws.foldl (fun r t => r.setIfInBounds t (a.eval (.tmp t))) T, dl⟩ := by
  obtain ⟨h1, h2⟩ := foldl_set (fun t => a.eval (.tmp t)) ws T
  obtain ⟨tmps, defers⟩ := a
  simp only at hs hd
  subst hd
  congr 1
  apply Array.ext_getElem?
  intro t
  by_cases ht : t < T.size
  · rw [h2 t ht]
    have hta : tmps[t]? = some ((Act.mk tmps defers).eval (.tmp t)) := by
      have : t < tmps.size := by omega
      simp [Act.eval, this]
    by_cases hm : t ∈ ws
    · rw [if_pos hm, hta]
    · rw [if_neg hm, hta]
      have hnw : writes ops t = false := by
        have := List.all_eq_true.1 hw t (List.mem_range.2 ht)
        simp only [Bool.or_eq_true, Bool.not_eq_true'] at this
        rcases this with h | h
        · exact h
        · exact absurd (List.contains_iff_mem.1 h) hm
      rw [E t hnw]
      simp [Act.eval, ht]
  · rw [Array.getElem?_eq_none (by omega), Array.getElem?_eq_none (by rw [h1]; omega)]
/-- A region that reads, and stores once, at its operation N. -/
def StW (w0 : World) (N : Nat) (p : Addr) (v : Value) (live : Nat → Bool) (w : World) : Prop := w = if live N = true then w0.setCell p v else w0
section
variable {w0 w : World} {N i : Nat} {p : Addr} {v : Value} {live : Nat → Bool}
theorem StW.off (h : StW w0 N p v live w) (hl : live N = false) : w = w0 := by unfold StW at h; rw [hl] at h; exact h
theorem StW.upd (h : StW w0 N p v live w) (hi : i ≠ N) : StW w0 N p v (upd live i) w := by
  have e : Rgs.upd live i N = live N := by unfold Rgs.upd; simp [Ne.symm hi]
  unfold StW at h ⊢
  rw [e]; exact h
theorem StW.put (w0 : World) (N : Nat) (p : Addr) (v : Value) (live : Nat → Bool) : StW w0 N p v (Rgs.upd live N) (w0.setCell p v) := by
  unfold StW
  rw [upd_self]; rfl
theorem StW.keepN (h : StW w0 N p v live w) : w = w0 ∨ w = w0.setCell p v := by unfold StW at h; split at h <;> simp [h]
theorem StW.on (h : StW w0 N p v live w) (hl : live N = true) : w = w0.setCell p v := by unfold StW at h; rw [hl] at h; exact h
end
/-- A region that stores twice, N ahead of M. -/
def StW2 (w0 : World) (N M : Nat) (p q : Addr) (u v : Value) (live : Nat → Bool) (w : World) : Prop := w = if live M = true then (w0.setCell p u).setCell q v else if live N = true then w0.setCell p u else w0
section
variable {w0 w : World} {N M i : Nat} {p q : Addr} {u v : Value} {live : Nat → Bool}
theorem StW2.any (h : StW2 w0 N M p q u v live w) : w = w0 ∨ w = w0.setCell p u ∨ w = (w0.setCell p u).setCell q v := by
  unfold StW2 at h
  split at h
  · exact .inr (.inr h)
  · split at h
    · exact .inr (.inl h)
    · exact .inl h
theorem StW2.upd (h : StW2 w0 N M p q u v live w) (h1 : i ≠ N) (h2 : i ≠ M) : StW2 w0 N M p q u v (upd live i) w := by
  have e1 : Rgs.upd live i N = live N := by unfold Rgs.upd; simp [Ne.symm h1]
  have e2 : Rgs.upd live i M = live M := by unfold Rgs.upd; simp [Ne.symm h2]
  unfold StW2 at h ⊢
  rw [e1, e2]; exact h
theorem StW2.off (h : StW2 w0 N M p q u v live w) (h1 : live N = false) (h2 : live M = false) : w = w0 := by unfold StW2 at h; rw [h1, h2] at h; exact h
theorem StW2.mid (h : StW2 w0 N M p q u v live w) (h1 : live N = true) (h2 : live M = false) : w = w0.setCell p u := by unfold StW2 at h; rw [h1, h2] at h; exact h
theorem StW2.on (h : StW2 w0 N M p q u v live w) (h2 : live M = true) : w = (w0.setCell p u).setCell q v := by unfold StW2 at h; rw [h2] at h; exact h
theorem StW2.put1 (w0 : World) (hMN : M ≠ N) (p q : Addr) (u v : Value) (live : Nat → Bool) (h2 : live M = false) : StW2 w0 N M p q u v (Rgs.upd live N) (w0.setCell p u) := by
  unfold StW2
  have e2 : Rgs.upd live N M = false := by unfold Rgs.upd; simp [hMN, h2]
  rw [upd_self, e2]; rfl
theorem StW2.put2 (w0 : World) (N M : Nat) (p q : Addr) (u v : Value) (live : Nat → Bool) : StW2 w0 N M p q u v (Rgs.upd live M) ((w0.setCell p u).setCell q v) := by
  unfold StW2
  rw [upd_self]; rfl
end
/-- A region that stores twice, by whatever worlds. -/
def StG (w0 w1 w2 : World) (N M : Nat) (live : Nat → Bool) (w : World) : Prop := w = if live M = true then w2 else if live N = true then w1 else w0
section
variable {w0 w1 w2 w : World} {N M i : Nat} {live : Nat → Bool}
theorem StG.upd (h : StG w0 w1 w2 N M live w) (h1 : i ≠ N) (h2 : i ≠ M) : StG w0 w1 w2 N M (Rgs.upd live i) w := by
  have e1 : Rgs.upd live i N = live N := by unfold Rgs.upd; simp [Ne.symm h1]
  have e2 : Rgs.upd live i M = live M := by unfold Rgs.upd; simp [Ne.symm h2]
  unfold StG at h ⊢
  rw [e1, e2]; exact h
theorem StG.off (h : StG w0 w1 w2 N M live w) (h1 : live N = false) (h2 : live M = false) : w = w0 := by unfold StG at h; rw [h1, h2] at h; exact h
theorem StG.mid (h : StG w0 w1 w2 N M live w) (h1 : live N = true) (h2 : live M = false) : w = w1 := by unfold StG at h; rw [h1, h2] at h; exact h
theorem StG.on (h : StG w0 w1 w2 N M live w) (h2 : live M = true) : w = w2 := by unfold StG at h; rw [h2] at h; exact h
theorem StG.put1 (w0 w1 w2 : World) (hMN : M ≠ N) (live : Nat → Bool) (h2 : live M = false) : StG w0 w1 w2 N M (Rgs.upd live N) w1 := by
  unfold StG
  have e2 : Rgs.upd live N M = false := by unfold Rgs.upd; simp [hMN, h2]
  rw [upd_self, e2]; rfl
theorem StG.put2 (w0 w1 w2 : World) (N M : Nat) (live : Nat → Bool) : StG w0 w1 w2 N M (Rgs.upd live M) w2 := by
  unfold StG
  rw [upd_self]; rfl
end
end Rgs
end Go.Proofs.YtomaommamjhmmaaDoor
