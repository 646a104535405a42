/- Contracts and mathematics that the texts behind it stand on: FrameN, Inv, Conf, Ya, More, Leaf, Tidy, Runs, KidsM. -/
import Derived.Test.YtebcfiifaclniaaGreatLow1
import Derived.ProofKit
import Derived.OpenShut
import Derived.ChangeOld
import Derived.SizedLaws
import Derived.Deep.CondSized
import Derived.JoinedCond
import Derived.Deep.Strs
import Derived.Orders
import Derived.RegionTactic
import Derived.Below
import Derived.Deep.Cut
import Derived.Deep.AppendLies
import Derived.Deep.RegionLaw
/- A slice of integers among a law's arguments. -/
namespace Go.Proofs.YtebcfiifaclniaaGreat
open Go.ChangeShapes Go.WideShapes Go.ChangeAt Go.RowKit Go.Deep

theorem own : ownKnob Tryz.prog.godebug = none := by kernel_rfl
theorem laidOut : laidOutB Tryz.prog = true := by kernel_rfl
theorem ints_view {H : Type} {enc : TypeId × Value → H} {W : World} {A : Option Addr} {n k : Nat} {d : DataW H} {p : List MemPlace}
    (h : DataW.Trod enc Tryz.prog W 0 (fun _ => true) true 22 (.slice A n k) d p) :
    ∃ f : Nat → Int, RdC W W.heap.size A n (fun j => .int .i64 (f j)) ∧ n ≤ k ∧ (∀ j, j < n → (Lit.int .i64 (f j)).wf = true) ∧ (k = 0 ∨ ∃ elems spare, d = .slice elems spare ∧ elems.length + spare.length = k) := by
  obtain ⟨fuel, hf⟩ := h
  rcases open_ints Tryz.underlying22 Tryz.underlying3 (by kernel_rfl) hf with ⟨hcs, _⟩ | ⟨x, l, c, zs, hcs, _, hl, hm, hz, hx, hcell, hwz⟩
  · simp [Value.cells] at hcs
    obtain ⟨rfl, rfl, rfl⟩ := hcs
    exact ⟨fun _ => 0, fun h => absurd h (by omega), Nat.le_refl _, fun j h => absurd h (by omega), .inl rfl⟩
  · simp [Value.cells] at hcs
    obtain ⟨rfl, rfl, rfl⟩ := hcs
    have hz' : zs.length = k := by simpa using hz
    refine ⟨fun j => zs.getD j 0, fun h0 => ⟨x, rfl, ?_, fun j hj => hcell j (by omega)⟩, hl, fun j hj => ?_, .inr ⟨_, _, (Prod.mk.inj hx).1, ?_⟩⟩
    · have h1 := hcell 0 (by omega)
      have h2 := World.block_lt_of_cell? W _ h1
      have e1 : (x.add 0).block = x.block := by unfold Addr.add; split <;> rfl
      rw [← e1]; exact h2
    · have : j < zs.length := by omega
      simp only [List.getD, List.getElem?_eq_getElem this, Option.getD_some]
      exact hwz _ (List.getElem_mem this)
    · simp [lits]; omega
theorem ints_sized {H : Type} {enc : TypeId × Value → H} {W : World} {A : Option Addr} {n k : Nat} {d : DataW H} {p : List MemPlace}
    (h : DataW.Trod enc Tryz.prog W 0 (fun _ => true) true 22 (.slice A n k) d p)
    (hs : ∀ elems spare, d = .slice elems spare → (elems.length + spare.length) * Tryz.prog.bytesOf 3 ≤ reachBytes) :
    ∃ f : Nat → Int, RdC W W.heap.size A n (fun j => .int .i64 (f j)) ∧ n ≤ k ∧ k ≤ 140737488351232 ∧ ∀ j, j < n → (Lit.int .i64 (f j)).wf = true := by
  obtain ⟨f, h1, h2, h4, h3⟩ := ints_view h
  refine ⟨f, h1, h2, ?_, h4⟩
  rcases h3 with h3 | ⟨elems, spare, hd, hk⟩
  · omega
  · have := hs elems spare hd
    have e : Tryz.prog.bytesOf 3 = 8 := by kernel_rfl
    rw [e, hk] at this
    simp only [reachBytes] at this
    omega
end Go.Proofs.YtebcfiifaclniaaGreat

/- A region that draws its order, by what each of its operations yields: whatever order is drawn. Named here: the model's regions alone, no program. -/
namespace Go.Proofs.YtebcfiifaclniaaGreat
open Go Go.RowKit
namespace Reg
set_option linter.unusedSimpArgs false

def dstN (ops : Array Oper) (j : Nat) : Tmp := ((ops[j]?).bind (·.dst)).getD 0
def waits (o : Oper) (j : Nat) : Bool := o.after.toList.any fun e => e.on == j && Region.binds .any e
def writes (ops : Array Oper) (t : Tmp) : Bool := ops.toList.any fun o => o.dst == some t
/-- Every operation has a slot of its own, and waits for earlier ones alone. -/
def good (ops : Array Oper) (n : Nat) : Bool :=
  (List.range ops.size).all fun i => match ops[i]? with
    | some o => (match o.dst with
        | some d => decide (d < n) && (List.range ops.size).all fun j => j == i || (match ops[j]? with | some p => !(p.dst == some d) | none => true)
        | none => false) && o.after.toList.all fun e => decide (e.on < i)
    | none => false

theorem good_at {ops : Array Oper} {n : Nat} (h : good ops n = true) {i : Nat} {o : Oper} (hi : ops[i]? = some o) :
    ∃ d, o.dst = some d ∧ d < n ∧ (∀ j p, ops[j]? = some p → j ≠ i → p.dst ≠ some d) ∧ ∀ e ∈ o.after, e.on < i := by
  have hlt : i < ops.size := (Array.getElem?_eq_some_iff.1 hi).1
  have h1 := List.all_eq_true.1 h i (List.mem_range.2 hlt)
  rw [hi] at h1
  simp only [Bool.and_eq_true] at h1
  obtain ⟨h2, h3⟩ := h1
  cases hd : o.dst with
  | none => rw [hd] at h2; cases h2
  | some d =>
    rw [hd] at h2
    simp only [Bool.and_eq_true, decide_eq_true_iff] at h2
    refine ⟨d, rfl, h2.1, fun j p hj hne => ?_, fun e he => ?_⟩
    · have hjl : j < ops.size := (Array.getElem?_eq_some_iff.1 hj).1
      have h4 := List.all_eq_true.1 h2.2 j (List.mem_range.2 hjl)
      rw [hj] at h4
      simp only [Bool.or_eq_true, beq_iff_eq, Bool.not_eq_true', beq_eq_false_iff_ne] at h4
      exact h4.resolve_left hne
    · have := List.all_eq_true.1 h3 e (Array.mem_toList_iff.2 he)
      simpa using this

theorem dst_of {ops : Array Oper} {i : Nat} {o : Oper} {d : Tmp} (hi : ops[i]? = some o) (hd : o.dst = some d) : dstN ops i = d := by
  simp [dstN, hi, hd]

/-- Whoever has come up, those that it waits for have. -/
def Closed (ops : Array Oper) (live : Nat → Bool) : Prop := ∀ j p, ops[j]? = some p → live j = true → ∀ k, waits p k = true → live k = true
structure Inv (ops : Array Oper) (a0 : Act) (V : Nat → Value → World → Prop) (W : World → Prop) (listed : Array Bool) (a : Act) (w : World) : Prop where
  size : a.tmps.size = a0.tmps.size
  defers : a.defers = a0.defers
  env : ∀ t, writes ops t = false → a.eval (.tmp t) = a0.eval (.tmp t)
  val : ∀ j, j < ops.size → listed.getD j false = true → V j (a.eval (.tmp (dstN ops j))) w
  world : W w
  closed : Closed ops fun j => listed.getD j false

theorem eval_same (a : Act) (d : Tmp) (v : Value) (h : d < a.tmps.size) : (a.put (some d) v).eval (.tmp d) = v := by
  simp [Act.eval, Act.put, h]
theorem eval_other (a : Act) (d t : Tmp) (v : Value) (h : d ≠ t) : (a.put (some d) v).eval (.tmp t) = a.eval (.tmp t) := by
  simp [Act.eval, Act.put, Array.getElem?_setIfInBounds_ne h]

/-- What a step owes; live: who has come up. -/
def Owes (live : Nat → Bool) (V : Nat → Value → World → Prop) (W : World → Prop) (i : Nat) (o : Oper) (a : Act) (w : World) (a' : Act) (w' : World) : Prop :=
  ∃ v, a' = a.put o.dst v ∧ V i v w' ∧ W w' ∧ ∀ j v, live j = true → V j v w → V j v w'

theorem Inv.step {ops : Array Oper} {a0 : Act} {V : Nat → Value → World → Prop} {W : World → Prop} {listed : Array Bool} {a a' : Act} {w w' : World} (hg : good ops a0.tmps.size = true)
    {i : Nat} {o : Oper} (hi : ops[i]? = some o) (h : Inv ops a0 V W listed a w) (hr : ∀ k, waits o k = true → listed.getD k false = true) (hs : Owes (fun j => listed.getD j false) V W i o a w a' w') : Inv ops a0 V W (listed.setIfInBounds i true) a' w' := by
  obtain ⟨v, rfl, hv, hw, hm⟩ := hs
  obtain ⟨d, hd, hdn, hdist, _⟩ := good_at hg hi
  have hsz : d < a.tmps.size := by rw [h.size]; exact hdn
  rw [hd]
  refine ⟨by simp [Act.put, h.size], by simp [Act.put, h.defers], fun t ht => ?_, fun j hj hl => ?_, hw, fun j p hj hl k hk => ?_⟩
  · have hne : d ≠ t := by
      rintro rfl
      have : writes ops d = true := List.any_eq_true.2 ⟨o, Array.mem_toList_iff.2 (Array.mem_of_getElem? hi), by simp [hd]⟩
      rw [this] at ht; cases ht
    rw [eval_other _ _ _ _ hne]; exact h.env t ht
  · by_cases hji : j = i
    · subst hji
      rw [dst_of hi hd, eval_same _ _ _ hsz]; exact hv
    · obtain ⟨p, hp⟩ : ∃ p, ops[j]? = some p := ⟨_, Array.getElem?_eq_getElem hj⟩
      obtain ⟨e, he, _⟩ := good_at hg hp
      have hne : d ≠ dstN ops j := by
        rw [dst_of hp he]
        rintro rfl
        exact hdist j p hp hji he
      rw [eval_other _ _ _ _ hne]
      rw [getD_set_ne false (Ne.symm hji)] at hl
      exact hm j _ hl (h.val j hj hl)
  · by_cases hji : j = i
    · subst hji
      rw [hi] at hj
      injection hj with hj
      subst hj
      exact getD_set_true (hr k hk)
    · have hl' : (listed.setIfInBounds i true).getD j false = true := hl
      rw [getD_set_ne false (Ne.symm hji)] at hl'
      exact getD_set_true (h.closed j p hj hl' k hk)

/-- How many have not come up. -/
def left (listed : Array Bool) : Nat := listed.toList.countP (· == false)

theorem left_set {listed : Array Bool} {i : Nat} (h : listed.getD i true = false) : left (listed.setIfInBounds i true) + 1 = left listed := by
  have hlt : i < listed.size := by
    rcases Nat.lt_or_ge i listed.size with h' | h'
    · exact h'
    · simp [Array.getElem?_eq_none h'] at h
  have hi : listed.toList[i]'(by simpa using hlt) = false := by
    simpa [hlt] using h
  unfold left
  rw [Array.toList_setIfInBounds, List.countP_set (by simpa using hlt), hi]
  have : 0 < listed.toList.countP (· == false) := List.countP_pos_iff.2 ⟨false, by rw [← hi]; exact List.getElem_mem _, rfl⟩
  rw [if_pos (by decide), if_neg (by decide)]
  omega

theorem all_listed {ops : Array Oper} {n : Nat} (hg : good ops n = true) {listed : Array Bool} (hs : listed.size = ops.size) (hr : Region.ready .any ops listed = []) :
    ∀ j, j < ops.size → listed.getD j false = true := by
  intro j
  induction j using Nat.strongRecOn with
  | ind j ih =>
    intro hj
    have hjl : j < listed.size := by omega
    cases hb : listed.getD j false with
    | true => rfl
    | false =>
      have hb' : listed.getD j true = false := by
        simpa [hjl] using hb
      obtain ⟨o, ho⟩ : ∃ o, ops[j]? = some o := ⟨_, Array.getElem?_eq_getElem hj⟩
      obtain ⟨_, _, _, _, hacy⟩ := good_at hg ho
      have : j ∈ Region.ready .any ops listed := mem_ready.2 ⟨hb', o, ho, fun e he _ => ih e.on (hacy e he) (by have := hacy e he; omega)⟩
      rw [hr] at this; cases this

/-- What is asked of one operation. -/
def Goal (P : Program) (ops : Array Oper) (Q : Exit → Act → World → Prop) (V : Nat → Value → World → Prop) (W : World → Prop) (i : Nat) (o : Oper) (a : Act) (w : World) : Prop :=
  ∀ live : Nat → Bool, Closed ops live → live i = false → wpOp P ops Q i (Owes live V W i o a w) a w
/-- The whole obligation. -/
def Steps (P : Program) (ops : Array Oper) (Q : Exit → Act → World → Prop) (a0 : Act) (V : Nat → Value → World → Prop) (W : World → Prop) : Prop :=
  ∀ i o, ops[i]? = some o → ∀ (a : Act) (w : World), (∀ t, writes ops t = false → a.eval (.tmp t) = a0.eval (.tmp t)) →
    (∀ j, waits o j = true → V j (a.eval (.tmp (dstN ops j))) w) → W w → Goal P ops Q V W i o a w

theorem any_of {P : Program} {ops : Array Oper} {Q : Exit → Act → World → Prop} {a0 : Act} {V : Nat → Value → World → Prop} {W : World → Prop} (hg : good ops a0.tmps.size = true) (hst : Steps P ops Q a0 V W)
    (hend : ∀ listed a w, Inv ops a0 V W listed a w → (∀ j, j < ops.size → listed.getD j false = true) → Q .normal a w) :
    ∀ (fuel : Nat) (listed : Array Bool) (a : Act) (w : World), listed.size = ops.size → left listed ≤ fuel → Inv ops a0 V W listed a w → wpAny P .any ops Q fuel listed a w := by
  intro fuel
  induction fuel with
  | zero =>
    intro listed a w hs hl h
    have hr : Region.ready .any ops listed = [] := by
      cases hc : Region.ready .any ops listed with
      | nil => rfl
      | cons i r =>
        have hi : i ∈ Region.ready .any ops listed := by rw [hc]; exact List.mem_cons_self
        have := left_set (mem_ready.1 hi).1
        omega
    exact ⟨hr, hend listed a w h (all_listed hg hs hr)⟩
  | succ fuel ih =>
    intro listed a w hs hl h
    refine ⟨fun hr => hend listed a w h (all_listed hg hs hr), fun i hi => ?_⟩
    obtain ⟨h0, o, ho, hall⟩ := mem_ready.1 hi
    have hi' : i < ops.size := (Array.getElem?_eq_some_iff.1 ho).1
    have hwait : ∀ k, waits o k = true → k < i ∧ listed.getD k false = true := fun k hk => by
      obtain ⟨e, he, heq⟩ := List.any_eq_true.1 hk
      have he := Array.mem_toList_iff.1 he
      simp only [Bool.and_eq_true, beq_iff_eq] at heq
      obtain ⟨rfl, hb⟩ := heq
      obtain ⟨_, _, _, _, hacy⟩ := good_at hg ho
      exact ⟨hacy e he, hall e he hb⟩
    have hstep := hst i o ho a w h.env (fun j hj => h.val j (by have := (hwait j hj).1; omega) (hwait j hj).2) h.world (fun j => listed.getD j false) h.closed (by
      have hlt : i < listed.size := by omega
      simpa [hlt] using h0)
    refine wpOp_mono (fun a' w' hw => ?_) hstep
    refine ih _ a' w' (by simpa using hs) ?_ (h.step hg ho (fun k hk => (hwait k hk).2) hw)
    have := left_set h0
    omega

theorem region {P : Program} {id : Nat} {ops : Array Oper} {Q : Exit → Act → World → Prop} {a0 : Act} {w0 : World} (hm : P.follows .mixedOrders = true) (hg : good ops a0.tmps.size = true) (V : Nat → Value → World → Prop) (W : World → Prop)
    (hW : W w0.drew) (hst : Steps P ops Q a0 V W)
    (hend : ∀ a w, a.tmps.size = a0.tmps.size → a.defers = a0.defers → (∀ t, writes ops t = false → a.eval (.tmp t) = a0.eval (.tmp t)) → (∀ j, j < ops.size → V j (a.eval (.tmp (dstN ops j))) w) → W w → Q .normal a w) :
    (Code.region id ops true).wp P Q a0 w0 := by
  refine wp_region_any hm ?_
  refine any_of hg hst (fun listed a w h hall => hend a w h.size h.defers h.env (fun j hj => h.val j hj (hall j hj)) h.world) ops.size (Array.replicate ops.size false) a0 w0.drew (by simp) ?_ ?_
  · unfold left
    have := List.countP_le_length (p := (· == false)) (l := (Array.replicate ops.size false).toList)
    simpa using this
  · refine ⟨rfl, rfl, fun _ _ => rfl, fun j hj hl => ?_, hW, fun j p hj hl k hk => ?_⟩
    · simp [hj] at hl
    · have hjl : j < ops.size := (Array.getElem?_eq_some_iff.1 hj).1
      have hl' : (Array.replicate ops.size false).getD j false = true := hl
      simp [hjl] at hl'

/-- The obligations one by one. -/
def All (F : Nat → Oper → Prop) : Nat → List Oper → Prop
  | _, [] => True
  | i, o :: l => F i o ∧ All F (i + 1) l
theorem All.get {F : Nat → Oper → Prop} (l : List Oper) : ∀ (i : Nat), All F i l → ∀ j o, l[j]? = some o → F (i + j) o := by
  induction l with
  | nil => intro i _ j o hp; simp at hp
  | cons q l ih =>
    intro i h j o hp
    cases j with
    | zero => simp at hp; subst hp; exact h.1
    | succ j =>
      have := ih (i + 1) h.2 j o (by simpa using hp)
      rwa [Nat.add_assoc, Nat.add_comm 1] at this
theorem steps_of {P : Program} {l : List Oper} {Q : Exit → Act → World → Prop} {a0 : Act} {V : Nat → Value → World → Prop} {W : World → Prop}
    (h : All (fun i o => ∀ (a : Act) (w : World), (∀ t, writes l.toArray t = false → a.eval (.tmp t) = a0.eval (.tmp t)) →
      (∀ j, waits o j = true → V j (a.eval (.tmp (dstN l.toArray j))) w) → W w → Goal P l.toArray Q V W i o a w) 0 l) : Steps P l.toArray Q a0 V W := by
  intro i o hi
  have := All.get l 0 h i o (by simpa using hi)
  rwa [Nat.zero_add] at this

section
variable {P : Program} {ops : Array Oper} {Q : Exit → Act → World → Prop} {V : Nat → Value → World → Prop} {W : World → Prop} {i : Nat} {o : Oper} {a : Act} {w : World}
/-- An operation that yields a value, and does nothing else. -/
theorem val (hi : ops[i]? = some o) (hw : Region.wanted o (yielded ops a.tmps) = true) (hW : W w) (v : Value) (hr : (execOp a.eval o).run P w = .ok (.value v) w) (hv : V i v w) : Goal P ops Q V W i o a w := by
  intro live _ _
  unfold wpOp
  rw [hi]
  simp only [hw, if_true]
  refine .inl ?_
  unfold Oper.wp
  rw [hr]
  exact ⟨v, rfl, hv, hW, fun _ _ _ h => h⟩
/-- An operation that yields a value, in another world; what those that have come up yielded is to stand. -/
theorem growL (hi : ops[i]? = some o) (hw : Region.wanted o (yielded ops a.tmps) = true) (v : Value) (w' : World) (hr : (execOp a.eval o).run P w = .ok (.value v) w') (hv : V i v w') (hW : W w')
    (hm : ∀ live : Nat → Bool, Closed ops live → live i = false → ∀ j v, live j = true → V j v w → V j v w') : Goal P ops Q V W i o a w := by
  intro live hc h0
  unfold wpOp
  rw [hi]
  simp only [hw, if_true]
  refine .inl ?_
  unfold Oper.wp
  rw [hr]
  exact ⟨v, rfl, hv, hW, hm live hc h0⟩
theorem grow (hi : ops[i]? = some o) (hw : Region.wanted o (yielded ops a.tmps) = true) (v : Value) (w' : World) (hr : (execOp a.eval o).run P w = .ok (.value v) w') (hv : V i v w') (hW : W w') (hm : ∀ j v, j ≠ i → V j v w → V j v w') : Goal P ops Q V W i o a w :=
  growL hi hw v w' hr hv hW fun live _ h0 j v hj h => hm j v (fun e => by rw [e, h0] at hj; cases hj) h
/-- A call of a Go function. -/
theorem call (hi : ops[i]? = some o) (hw : Region.wanted o (yielded ops a.tmps) = true) (f : FuncId) (args : Array Value) (hr : (execOp a.eval o).run P w = .ok (.enter f args) w)
    (hc : Calls P f args w fun e w' => ∃ v, e = .returned v ∧ V i v w' ∧ W w' ∧ ∀ j v, V j v w → V j v w') : Goal P ops Q V W i o a w := by
  intro live _ _
  unfold wpOp
  rw [hi]
  simp only [hw, if_true]
  refine .inl ?_
  unfold Oper.wp
  rw [hr]
  refine hc.mono fun e w' he => ?_
  obtain ⟨v, rfl, h1, h2, h3⟩ := he
  exact ⟨v, rfl, h1, h2, fun j v _ => h3 j v⟩
/-- An operation whose guard says no. -/
theorem skip (hi : ops[i]? = some o) (hw : Region.wanted o (yielded ops a.tmps) = false) (hW : W w) (hv : V i undef w) : Goal P ops Q V W i o a w := by
  intro live _ _
  unfold wpOp
  rw [hi]
  simp only [hw]
  exact ⟨undef, rfl, hv, hW, fun _ _ _ h => h⟩
/-- Whoever waits for one that has not come up has not either. -/
theorem not_live {live : Nat → Bool} (hc : Closed ops live) {k : Nat} (h : live k = false) {j : Nat} {p : Oper} (hj : ops[j]? = some p) (hw : waits p k = true) : live j = false := by
  cases e : live j with
  | false => rfl
  | true => rw [hc j p hj e k hw] at h; cases h
theorem wanted_free (h : o.guard = none) : Region.wanted o (yielded ops a.tmps) = true := by simp [Region.wanted, h]
theorem wanted_if {g : Nat} {want b : Bool} (h : o.guard = some (g, want)) {t : Tmp} (ht : (ops[g]?).bind (·.dst) = some t) (hv : a.eval (.tmp t) = .bool b) (hb : (b == want) = true) : Region.wanted o (yielded ops a.tmps) = true := by
  have hlt : t < a.tmps.size := by
    rcases Nat.lt_or_ge t a.tmps.size with h' | h'
    · exact h'
    · simp [Act.eval, Array.getElem?_eq_none h', undef] at hv
  have h2 : a.tmps[t]? = some (.bool b) := by
    simpa [Act.eval, hlt] using hv
  simp only [Region.wanted, h, yielded, ht, Option.bind_some, h2]
  have : b = want := by simpa using hb
  simp [this]
end

/-- What a frame says of constants and functions. -/
theorem consts (a : Act) : (∀ v, a.eval (.const v) = v) ∧ (∀ f, a.eval (.func f) = .func (.func f) #[] #[]) := ⟨fun _ => rfl, fun _ => rfl⟩

/-- A frame by its slots. -/
theorem act_lit (a : Act) (n : Nat) (h : a.tmps.size = n) : a = ⟨((List.range n).map fun t => a.eval (.tmp t)).toArray, a.defers⟩ := by
  cases a with
  | mk tmps defers =>
    simp only at h
    congr 1
    apply Array.ext
    · simp [h]
    · intro i h1 h2
      simp [Act.eval, h1]
end Reg
end Go.Proofs.YtebcfiifaclniaaGreat

/- Partitions and channels in memory; whether one of them may be, by the document's own answer (that it answers). -/
namespace Go.Proofs.YtebcfiifaclniaaGreat
open Go.RowKit Tab
set_option linter.unusedSimpArgs false
set_option linter.unusedVariables false

/-- A channel, whole. -/
structure ChV where
  from_ : Int
  to_ : Int
  queue : Bool
  cap : Int
  max : Int
  late : Int
/-- A partition, whole; its processes as the slice that holds them. -/
structure PtV where
  name : ByteArray
  bud : Int
  per : Int
  sched : Bool
  stop : Bool
  pa : Option Addr
  pn : Nat
  pc : Nat
  h0 : Int
  h1 : Int
  h2 : Int
  h3 : Int
  h4 : Int
abbrev cv (x : ChV) : Value := .agg #[.int .i64 x.from_, .int .i64 x.to_, .bool x.queue, .int .i64 x.cap, .int .u32 x.max, .int .i64 x.late]
abbrev pv (x : PtV) : Value := .agg #[.string x.name, .int .i64 x.bud, .int .i64 x.per, .bool x.sched, .bool x.stop, .slice x.pa x.pn x.pc, .int .i64 x.h0, .int .i64 x.h1, .int .i64 x.h2, .int .i64 x.h3, .int .i64 x.h4]
/-- It answers yes or no, and leaves what was there. -/
def SomB (w : World) (e : Ending) (w' : World) : Prop := ∃ b, e = .returned (.bool b) ∧ Below w.heap.size w w'
set_option maxRecDepth 100000 in
set_option maxHeartbeats 4000000 in
theorem chanRight_any (x : ChV) (n : Int) (w : World) : Calls Tryz.prog 67 #[cv x, .int .i64 n] w (SomB w) := by
  obtain ⟨f, t, q, c, m, l⟩ := x
  go_enter Tryz.func67, Tryz.ntmps67
  cases q <;> go_wp2 <;> (go_ret; exact ⟨_, rfl, bl1 _ _⟩)
end Go.Proofs.YtebcfiifaclniaaGreat

/- Whether a name is one, whether a partition, a channel may be: by the document's own answer, exactly. -/
namespace Go.Proofs.YtebcfiifaclniaaGreat
open Go.RowKit Tab
set_option linter.unusedSimpArgs false
set_option linter.unusedVariables false

def chB (i b : Nat) : Bool := (decide (97 ≤ b) && decide (b ≤ 122)) || ((decide (48 ≤ b) && decide (b ≤ 57) || decide (b = 95)) && decide (i ≠ 0))
def byteN (s : ByteArray) (j : Nat) : Nat := if h : j < s.size then s[j].toNat else 0
/-- Is it a name? -/
def nameF (s : ByteArray) : Bool := (List.range s.size).all (fun j => chB j (byteN s j)) && (decide (1 ≤ s.size) && decide (s.size ≤ 12))
theorem nameF_bad {s : ByteArray} {i : Nat} (hi : i < s.size) (h : chB i (byteN s i) = false) : nameF s = false := by
  unfold nameF
  have : (List.range s.size).all (fun j => chB j (byteN s j)) = false := by
    rw [List.all_eq_false]
    exact ⟨i, List.mem_range.2 hi, by rw [h]; simp⟩
  rw [this]
  rfl
theorem nameF_end {s : ByteArray} (h : ∀ j, j < s.size → chB j (byteN s j) = true) : nameF s = (decide (1 ≤ s.size) && decide (s.size ≤ 12)) := by
  unfold nameF
  have : (List.range s.size).all (fun j => chB j (byteN s j)) = true := by
    rw [List.all_eq_true]
    exact fun j hj => h j (List.mem_range.1 hj)
  rw [this]
  rfl
set_option maxRecDepth 100000 in
set_option maxHeartbeats 2000000 in
theorem xname_any (s : ByteArray) (w : World) (hs : s.size ≤ 140737488351232) : Calls Tryz.prog 65 #[.string s] w (fun e w' => e = .returned (.bool (nameF s)) ∧ w = w') := by
  have HBAD := Lib.hid fun i (hi : i < s.size) (h : chB i (byteN s i) = false) => nameF_bad hi h
  have HEND := Lib.hid fun (h : ∀ j, j < s.size → chB j (byteN s j) = true) => nameF_end h
  generalize nameF s = v at HBAD HEND
  go_enter Tryz.func65, Tryz.ntmps65
  go_wp2_with fail
  go_loopw [3, 4] (fun q _ wr => ∃ i : Nat, i ≤ s.size ∧ q = .int .i64 i ∧ (∀ j, j < i → chB j (byteN s j) = true) ∧ w = wr) (fun q _ _ => s.size - (intOf q).toNat)
  case atStart => exact ⟨0, by omega, rfl, fun j h => by omega, rfl⟩
  case round =>
    obtain ⟨i, hi, rfl, hok, rfl⟩ := hrel
    have HOK := Lib.hid hok
    clear hok
    by_cases hlt : i < s.size
    · have hlti : (i : Int) < (s.size : Int) := by omega
      have hb : byteN s i = s[i].toNat := dif_pos hlt
      have HB := Lib.hid hb
      have HNX : Hid (chB i (byteN s i) = true → ∀ j, j < i + 1 → chB j (byteN s j) = true) := Lib.hid fun h j hj => by
        rcases Nat.lt_or_ge j i with h1 | h1
        · exact HOK.out j h1
        · obtain rfl : j = i := by omega
          exact h
      rw [hb] at HNX
      have HBD := Lib.hid (HBAD.out i hlt)
      rw [hb] at HBD
      clear hb HB HBAD HEND HOK
      have HC : Hid (∀ b : Nat, b = s[i].toNat → chB i b = (decide (97 ≤ b) && decide (b ≤ 122) || (decide (48 ≤ b) && decide (b ≤ 57) || decide (b = 95)) && decide (i ≠ 0))) := Lib.hid fun b _ => rfl
      obtain ⟨b, hb⟩ : ∃ b, b = s[i].toNat := ⟨_, rfl⟩
      have hc := HC.out b hb
      rw [← hb] at HNX HBD
      have hix : (Instr.index 9 (.string s) (.int .i64 (i : Int))).run Tryz.prog w = .ok (.int .u8 (b : Int)) w := by
        rw [hb]
        rw [run_index_string (h := Tryz.underlying9)]
        simp [hlt]
      have HCC := Lib.hid hc
      clear HC hc hb
      rcases (by omega : (97 ≤ b ∧ b ≤ 122) ∨ (48 ≤ b ∧ b ≤ 57 ∧ i < 1) ∨ (48 ≤ b ∧ b ≤ 57 ∧ 1 ≤ i) ∨ (95 ≤ b ∧ b ≤ 95 ∧ i < 1) ∨ (95 ≤ b ∧ b ≤ 95 ∧ 1 ≤ i) ∨ (b < 48) ∨ (57 < b ∧ b < 95) ∨ (95 < b ∧ b < 97) ∨ (122 < b)) with h | h | h | h | h | h | h | h | h
      all_goals
        first
        | (have k5 : chB i b = true := by rw [HCC.out]; simp; omega)
        | (have k5 : chB i b = false := by rw [HCC.out]; simp; omega)
        have K5 := Lib.hid k5
        clear k5
        first
        | have i1 : (48 : Int) ≤ (b : Int) := by omega
        | have i1 : ¬ (48 : Int) ≤ (b : Int) := by omega
        first
        | have i2 : (b : Int) ≤ 57 := by omega
        | have i2 : ¬ (b : Int) ≤ 57 := by omega
        first
        | have i3 : ((b : Int) == 95) = true := by simp; omega
        | have i3 : ((b : Int) == 95) = false := by simp; omega
        first
        | have i4 : (b : Int) < 97 := by omega
        | have i4 : ¬ (b : Int) < 97 := by omega
        first
        | have i5 : (122 : Int) < (b : Int) := by omega
        | have i5 : ¬ (122 : Int) < (b : Int) := by omega
        try first
          | have i6 : ((i : Int) == 0) = true := by simp; omega
          | have i6 : ((i : Int) == 0) = false := by simp; omega
        go_wp2_with fail
        first
        | (go_ret; exact ⟨by rw [HBD.out K5.out]; rfl, by first | rfl | trivial⟩)
        | (go_roundw
           case rel => exact ⟨i + 1, by omega, by go_num, HNX.out K5.out, by first | rfl | trivial⟩
           case measure => simp [intOf]; omega)
    · have hlti : ¬ (i : Int) < (s.size : Int) := by omega
      have hv := HEND.out fun j hj => HOK.out j (by omega)
      have HV := Lib.hid hv
      clear hv HBAD HEND
      have hf : ∀ (p : Prop) [Decidable p], (p ∨ ¬ p) := fun p _ => Decidable.em p
      rcases hf (1 ≤ s.size) with h1 | h1 <;> rcases hf (s.size ≤ 12) with h2 | h2 <;> (try (exfalso; omega))
      all_goals
        first
        | have i1 : (1 : Int) ≤ (s.size : Int) := by omega
        | have i1 : ¬ (1 : Int) ≤ (s.size : Int) := by omega
        first
        | have i2 : (s.size : Int) ≤ 12 := by omega
        | have i2 : ¬ (s.size : Int) ≤ 12 := by omega
        go_wp2_with fail
        go_ret
        exact ⟨by rw [HV.out]; simp [h1, h2], by first | rfl | trivial⟩
/-- May a channel be, of so many partitions? -/
def chanF (x : ChV) (n : Int) : Bool := (decide (0 ≤ x.from_) && (decide (x.from_ < n) && (decide (0 ≤ x.to_) && (decide (x.to_ < n) && (decide (x.from_ ≠ x.to_) && (decide (0 ≤ x.late) && decide (x.late ≤ 4096))))))) &&
  (x.queue && (decide (1 ≤ x.cap) && decide (x.cap ≤ 8)) || !x.queue && decide (x.cap = 0))
set_option maxRecDepth 100000 in
set_option maxHeartbeats 4000000 in
theorem xchan_any (x : ChV) (n : Int) (w : World) : Calls Tryz.prog 67 #[cv x, .int .i64 n] w (Ans (.bool (chanF x n)) w) := by
  obtain ⟨f, t, q, c, m, l⟩ := x
  have HV : Hid (∀ v, v = chanF ⟨f, t, q, c, m, l⟩ n → v = ((decide (0 ≤ f) && (decide (f < n) && (decide (0 ≤ t) && (decide (t < n) && (decide (f ≠ t) && (decide (0 ≤ l) && decide (l ≤ 4096))))))) && (q && (decide (1 ≤ c) && decide (c ≤ 8)) || !q && decide (c = 0)))) := Lib.hid fun v h => h
  obtain ⟨v, hv⟩ : ∃ v, v = chanF ⟨f, t, q, c, m, l⟩ n := ⟨_, rfl⟩
  have HVV := Lib.hid (HV.out v hv)
  rw [← hv]
  clear hv HV
  go_enter Tryz.func67, Tryz.ntmps67
  have hf : ∀ (p : Prop) [Decidable p], (p ∨ ¬ p) := fun p _ => Decidable.em p
  rcases (by omega : f < 0 ∨ (0 ≤ f ∧ n ≤ f) ∨ (0 ≤ f ∧ f < n ∧ t < 0) ∨ (0 ≤ f ∧ f < n ∧ 0 ≤ t ∧ n ≤ t) ∨ (0 ≤ f ∧ f < n ∧ 0 ≤ t ∧ t < n ∧ f ≤ t ∧ t ≤ f) ∨ (0 ≤ f ∧ f < n ∧ 0 ≤ t ∧ t < n ∧ (f < t ∨ t < f) ∧ l < 0) ∨ (0 ≤ f ∧ f < n ∧ 0 ≤ t ∧ t < n ∧ (f < t ∨ t < f) ∧ 4096 < l) ∨ (0 ≤ f ∧ f < n ∧ 0 ≤ t ∧ t < n ∧ (f < t ∨ t < f) ∧ 0 ≤ l ∧ l ≤ 4096)) with h | h | h | h | h | h | h | h
  case inr.inr.inr.inr.inr.inr.inr =>
    have hv2 : v = (q && (decide (1 ≤ c) && decide (c ≤ 8)) || !q && decide (c = 0)) := by
      rw [HVV.out, decide_eq_true (show 0 ≤ f by omega), decide_eq_true (show f < n by omega), decide_eq_true (show 0 ≤ t by omega), decide_eq_true (show t < n by omega), decide_eq_true (show f ≠ t by omega), decide_eq_true (show 0 ≤ l by omega), decide_eq_true (show l ≤ 4096 by omega)]
      rfl
    have HV2 := Lib.hid hv2
    clear hv2
    have i1 : ¬ f < 0 := by omega
    have i2 : ¬ n ≤ f := by omega
    have i3 : ¬ t < 0 := by omega
    have i4 : ¬ n ≤ t := by omega
    have i5 : (f == t) = false := beq_eq_false_iff_ne.2 (by omega)
    have i6 : ¬ l < 0 := by omega
    have i7 : ¬ 4096 < l := by omega
    clear h
    cases q with
    | false =>
      rcases hf (c = 0) with hc | hc
      · have i8 : (c == 0) = true := by rw [hc]; rfl
        have hv3 : v = true := by rw [HV2.out, hc]; rfl
        have HV3 := Lib.hid hv3
        clear hc hv3
        go_wp2_with fail
        go_ret
        exact Ans.mk (by rw [HV3.out]; rfl) (bl1 _ _)
      · have i8 : (c == 0) = false := beq_eq_false_iff_ne.2 hc
        have hv3 : v = false := by rw [HV2.out, decide_eq_false hc]; rfl
        have HV3 := Lib.hid hv3
        clear hc hv3
        go_wp2_with fail
        go_ret
        exact Ans.mk (by rw [HV3.out]; rfl) (bl1 _ _)
    | true =>
      rcases hf (1 ≤ c) with hc | hc <;> rcases hf (c ≤ 8) with hd | hd <;> (try (exfalso; omega))
      all_goals
        have hv0 : v = (decide (1 ≤ c) && decide (c ≤ 8)) := by rw [HV2.out]; simp
        first
        | have hv3 : v = true := by rw [hv0, decide_eq_true hc, decide_eq_true hd]; rfl
        | have hv3 : v = false := by rw [hv0, decide_eq_false hc]; rfl
        | have hv3 : v = false := by rw [hv0, decide_eq_false hd, Bool.and_false]
        have HV3 := Lib.hid hv3
        clear hv3 hv0
        go_wp2_with fail
        go_ret
        exact Ans.mk (by rw [HV3.out]; rfl) (bl1 _ _)
  all_goals
    have hv2 : v = false := by
      rw [HVV.out]
      first
      | rw [decide_eq_false (show ¬ 0 ≤ f by omega)]; rfl
      | rw [decide_eq_false (show ¬ f < n by omega)]; simp
      | rw [decide_eq_false (show ¬ 0 ≤ t by omega)]; simp
      | rw [decide_eq_false (show ¬ t < n by omega)]; simp
      | rw [decide_eq_false (show ¬ f ≠ t by omega)]; simp
      | rw [decide_eq_false (show ¬ 0 ≤ l by omega)]; simp
      | rw [decide_eq_false (show ¬ l ≤ 4096 by omega)]; simp
    have HV2 := Lib.hid hv2
    clear hv2
    try first
      | have i1 : f < 0 := by omega
      | have i1 : ¬ (f < 0) := by omega
    try first
      | have i2 : n ≤ f := by omega
      | have i2 : ¬ (n ≤ f) := by omega
    try first
      | have i3 : t < 0 := by omega
      | have i3 : ¬ (t < 0) := by omega
    try first
      | have i4 : n ≤ t := by omega
      | have i4 : ¬ (n ≤ t) := by omega
    try first
      | have i5 : (f == t) = true := beq_iff_eq.2 (by omega)
      | have i5 : (f == t) = false := beq_eq_false_iff_ne.2 (by omega)
    try first
      | have i6 : l < 0 := by omega
      | have i6 : ¬ (l < 0) := by omega
    try first
      | have i7 : 4096 < l := by omega
      | have i7 : ¬ (4096 < l) := by omega
    clear h
    go_wp2_with fail
    go_ret
    exact Ans.mk (by rw [HV2.out]; rfl) (bl1 _ _)
end Go.Proofs.YtebcfiifaclniaaGreat

/- Ticks together. -/
namespace Go.Proofs.YtebcfiifaclniaaGreat
open Go.RowKit Tab
set_option linter.unusedSimpArgs false
set_option linter.unusedVariables false

theorem more_any (s n S N : Int) (w : World) (hs : 0 ≤ s) (hn : 0 ≤ n) (h : s + n ≤ 4611686018427387904) (hS : S = s) (hN : N = n) :
    Calls Tryz.prog 81 #[.int .i64 S, .int .i64 N] w fun e w' => e = .returned (.int .i64 (s + n)) ∧ w' = w := by
  subst hS; subst hN
  by_cases h0 : N < 1
  · have e : N = 0 := by omega
    subst e
    go_enter Tryz.func81, Tryz.ntmps81
    go_wp2
    go_ret
    exact ⟨by simp, rfl⟩
  · have h1 : ¬ 9223372036854775807 - N < S := by omega
    go_enter Tryz.func81, Tryz.ntmps81
    go_wp2
    go_ret
    exact ⟨rfl, rfl⟩
theorem sum_any (s n S N : Int) (w : World) (hs : 0 ≤ s) (hn : 0 ≤ n) (h : s + n ≤ 4611686018427387904) (hS : S = s) (hN : N = n) :
    Calls Tryz.prog 50 #[.int .i64 S, .int .i64 N] w fun e w' => e = .returned (.int .i64 (s + n)) ∧ w' = w := by
  subst hS; subst hN
  have h1 : ¬ 9223372036854775807 - N < S := by omega
  have m1 : max S 0 = S := by omega
  have m2 : max N 0 = N := by omega
  go_enter Tryz.func50, Tryz.ntmps50
  go_wp2
  go_ret
  exact ⟨rfl, rfl⟩
end Go.Proofs.YtebcfiifaclniaaGreat

/- The leaves of a table in the order of time; a walk over it with a stack of its own: plain mathematics. -/
namespace Go.Proofs.YtebcfiifaclniaaGreat
namespace Tab

/-- A run: whose it is, how many ticks. -/
structure Rn where
  p : Int
  n : Nat
def reps : Nat → List Rn → List Rn
  | 0, _ => []
  | n + 1, s => s ++ reps n s
/-- Whose a leaf is. -/
def whose (x : Nd) : Int := if x.k = 2 then -1 else x.p
def one (x : Nd) (s : List Rn) : List Rn := if x.k = 3 then s else if x.k = 4 then reps x.n.toNat s else [⟨whose x, x.n.toNat⟩]
def F.lvs : F → List Rn
  | nil => []
  | cons x k r => one x (lvs k) ++ lvs r
def ticks : List Rn → Nat
  | [] => 0
  | r :: s => r.n + ticks s
theorem ticks_append (a b : List Rn) : ticks (a ++ b) = ticks a + ticks b := by
  induction a with
  | nil => simp [ticks]
  | cons x a ih => simp only [List.cons_append, ticks, ih]; omega
theorem ticks_reps (n : Nat) (s : List Rn) : ticks (reps n s) = n * ticks s := by
  induction n with
  | zero => simp [reps, ticks]
  | succ n ih => rw [reps, ticks_append, ih, Nat.succ_mul]; omega
theorem one_ticks (x : Nd) (s : List Rn) : ticks (one x s) = F.tick x (ticks s) := by
  unfold one F.tick
  split
  · rfl
  · split
    · rw [ticks_reps, Nat.mul_comm]
    · simp [ticks]
theorem lvs_ticks (f : F) : ticks f.lvs = f.len := by
  induction f with
  | nil => rfl
  | cons x k r hk hr => simp only [F.lvs, F.len, ticks_append, one_ticks, hk, hr]
theorem reps_mem {n : Nat} {s : List Rn} {r : Rn} (h : r ∈ reps n s) : r ∈ s := by
  induction n with
  | zero => simp [reps] at h
  | succ n ih =>
    rcases List.mem_append.1 h with h | h
    · exact h
    · exact ih h
theorem lvs_pos {f : F} (h : f.ok) : ∀ r ∈ f.lvs, 1 ≤ r.n := by
  induction f with
  | nil => intro r hr; simp [F.lvs] at hr
  | cons x k r hk hr =>
    intro q hq
    rcases List.mem_append.1 hq with hq | hq
    · unfold one at hq
      split at hq
      · exact hk h.2.2.1 q hq
      · split at hq
        · exact hk h.2.2.1 q (reps_mem hq)
        · simp at hq
          subst hq
          have := fine_one h.1
          show 1 ≤ x.n.toNat
          omega
    · exact hr h.2.2.2 q hq
theorem length_le_ticks {s : List Rn} (h : ∀ r ∈ s, 1 ≤ r.n) : s.length ≤ ticks s := by
  induction s with
  | nil => simp [ticks]
  | cons r s ih =>
    have h1 := h r (by simp)
    have h2 := ih fun q hq => h q (by simp [hq])
    simp only [List.length_cons, ticks]
    omega
theorem lvs_leaf {x : Nd} (h3 : ¬ x.k = 3) (h4 : ¬ x.k = 4) (s : List Rn) : one x s = [⟨whose x, x.n.toNat⟩] := by unfold one; rw [if_neg h3, if_neg h4]
theorem lvs_seq {x : Nd} (h3 : x.k = 3) (s : List Rn) : one x s = s := if_pos h3
theorem lvs_rep {x : Nd} (h4 : x.k = 4) (s : List Rn) : one x s = reps x.n.toNat s := by unfold one; rw [if_neg (by omega), if_pos h4]
theorem reps_one {n : Nat} (h : 1 ≤ n) (s : List Rn) : reps n s = s ++ reps (n - 1) s := by
  obtain ⟨m, rfl⟩ : ∃ m, n = m + 1 := ⟨n - 1, by omega⟩
  rfl

/-- What comes behind a table that ends ahead of place p, st being the levels above it, the innermost first: the leaves still to come. -/
inductive Beh (l : List Nd) : List (Nat × Nat) → Nat → List Rn → Prop
  | top : Beh l [] l.length []
  | seq {o : List (Nat × Nat)} {p : Nat} {f : F} {t : List Nd} {td : List Rn} (hok : f.ok) (hl : l.drop p = f.flat ++ t) (hd : o.length + 1 + f.dep ≤ 16) (h : Beh l o (p + f.sz) td) : Beh l ((f.cnt + 1, 0) :: o) p (f.lvs ++ td)
  | rep {o : List (Nat × Nat)} {a b : Nat} {y : Nd} {k : F} {t : List Nd} {td : List Rn} (hok : (F.cons y k .nil).ok) (ha : 1 ≤ a) (ha2 : a ≤ 9223372036854775807) (hb : 1 ≤ b) (hl : l.drop b = y :: (k.flat ++ t)) (hd : o.length + 1 + (k.dep + 1) ≤ 16)
      (h : Beh l o (b + 1 + k.sz) td) : Beh l ((a, b) :: o) (b + 1 + k.sz) (reps (a - 1) (one y k.lvs) ++ td)
/-- What comes from the place p on. -/
def Ats (l : List Nd) (st : List (Nat × Nat)) (p : Nat) (td : List Rn) : Prop :=
  (st = [] ∧ p = l.length ∧ td = []) ∨ ∃ (x : Nd) (k : F) (t : List Nd) (u : List Rn), (F.cons x k .nil).ok ∧ l.drop p = x :: (k.flat ++ t) ∧ st.length + (k.dep + 1) ≤ 16 ∧ Beh l st (p + 1 + k.sz) u ∧ td = one x k.lvs ++ u
/-- The same, at a leaf or behind all. -/
def AtL (l : List Nd) (st : List (Nat × Nat)) (p : Nat) (td : List Rn) : Prop :=
  (st = [] ∧ p = l.length ∧ td = []) ∨ ∃ (x : Nd) (u : List Rn), fine x = true ∧ ¬ x.k = 3 ∧ ¬ x.k = 4 ∧ l[p]? = some x ∧ st.length ≤ 15 ∧ Beh l st (p + 1) u ∧ td = ⟨whose x, x.n.toNat⟩ :: u

theorem drop_get {l : List Nd} {p : Nat} {x : Nd} {t : List Nd} (h : l.drop p = x :: t) : l[p]? = some x ∧ l.drop (p + 1) = t ∧ p < l.length := by
  have h1 : (l.drop p)[0]? = some x := by rw [h]; rfl
  have h2 : l[p]? = some x := by simpa using h1
  refine ⟨h2, ?_, (List.getElem?_eq_some_iff.1 h2).1⟩
  rw [← List.drop_drop, h]
  rfl
theorem Ats.out {l : List Nd} {st : List (Nat × Nat)} {p : Nat} {td : List Rn} (h : Ats l st p td) (hp : l.length ≤ p) : AtL l st p td := by
  rcases h with h | ⟨x, k, t, u, _, h2, _⟩
  · exact .inl h
  · have := (drop_get h2).2.2
    omega
theorem Ats.le {l : List Nd} {st : List (Nat × Nat)} {p : Nat} {td : List Rn} (h : Ats l st p td) : p ≤ l.length := by
  rcases h with ⟨_, h, _⟩ | ⟨x, k, t, u, _, h2, _⟩
  · omega
  · have := (drop_get h2).2.2
    omega
theorem Ats.leaf {l : List Nd} {st : List (Nat × Nat)} {p : Nat} {td : List Rn} (h : Ats l st p td) {x : Nd} (hx : l[p]? = some x) (h3 : ¬ x.k = 3) (h4 : ¬ x.k = 4) : AtL l st p td := by
  rcases h with h | ⟨y, k, t, u, h1, h2, h5, h6, h7⟩
  · exact .inl h
  · obtain ⟨e, _, _⟩ := drop_get h2
    rw [hx] at e
    injection e with e
    subst e
    have hk : k = .nil := F.cnt_zero (by rw [h1.2.1]; unfold kn; rw [if_neg h3, if_neg h4])
    subst hk
    exact .inr ⟨x, u, h1.1, h3, h4, hx, by omega, h6, by rw [h7, lvs_leaf h3 h4]; rfl⟩
theorem Ats.short {l : List Nd} {st : List (Nat × Nat)} {p : Nat} {td : List Rn} (h : Ats l st p td) (hp : p < l.length) : st.length ≤ 15 := by
  rcases h with h | ⟨y, k, t, u, h1, h2, h5, h6, h7⟩
  · omega
  · omega
theorem Ats.fine {l : List Nd} {st : List (Nat × Nat)} {p : Nat} {td : List Rn} (h : Ats l st p td) {x : Nd} (hx : l[p]? = some x) : Tab.fine x = true := by
  rcases h with h | ⟨y, k, t, u, h1, h2, h5, h6, h7⟩
  · have := (List.getElem?_eq_some_iff.1 hx).1
    omega
  · obtain ⟨e, _, _⟩ := drop_get h2
    rw [hx] at e
    injection e with e
    subst e
    exact h1.1
theorem Ats.seq {l : List Nd} {st : List (Nat × Nat)} {p : Nat} {td : List Rn} (h : Ats l st p td) {x : Nd} (hx : l[p]? = some x) (h3 : x.k = 3) : Ats l ((x.n.toNat, 0) :: st) (p + 1) td := by
  rcases h with h | ⟨y, k, t, u, h1, h2, h5, h6, h7⟩
  · have := (List.getElem?_eq_some_iff.1 hx).1
    omega
  · obtain ⟨e, e2, _⟩ := drop_get h2
    rw [hx] at e
    injection e with e
    subst e
    obtain ⟨hf, hc, hok, _⟩ := h1
    have hc' : k.cnt = x.n.toNat := by rw [hc]; unfold kn; rw [if_pos h3]
    have hn := fine_one hf
    cases k with
    | nil => simp only [F.cnt] at hc'; omega
    | cons y q r =>
      have e3 : x.n.toNat = r.cnt + 1 := by rw [← hc']; rfl
      have e4 : l.drop (p + 1) = y :: (q.flat ++ (r.flat ++ t)) := by rw [e2]; simp [F.flat]
      have e5 : l.drop (p + 1 + 1 + q.sz) = r.flat ++ t := by
        obtain ⟨_, e6, _⟩ := drop_get e4
        rw [← List.drop_drop, e6, List.drop_left' (F.flat_length q)]
      simp only [F.dep] at h5
      refine .inr ⟨y, q, r.flat ++ t, r.lvs ++ u, ⟨hok.1, hok.2.1, hok.2.2.1, trivial⟩, e4, by simp only [List.length_cons]; omega, ?_, ?_⟩
      · rw [e3]
        exact .seq hok.2.2.2 e5 (by omega) (by have : p + 1 + 1 + q.sz + r.sz = p + 1 + (F.cons y q r).sz := by simp only [F.sz]; omega
                                               rw [this]; exact h6)
      · rw [h7, lvs_seq h3, F.lvs, List.append_assoc]
theorem Ats.rep {l : List Nd} {st : List (Nat × Nat)} {p : Nat} {td : List Rn} (h : Ats l st p td) {x : Nd} (hx : l[p]? = some x) (h4 : x.k = 4) (hn2 : x.n ≤ 9223372036854775807) : Ats l ((x.n.toNat, p + 1) :: st) (p + 1) td := by
  rcases h with h | ⟨y, k, t, u, h1, h2, h5, h6, h7⟩
  · have := (List.getElem?_eq_some_iff.1 hx).1
    omega
  · obtain ⟨e, e2, _⟩ := drop_get h2
    rw [hx] at e
    injection e with e
    subst e
    obtain ⟨hf, hc, hok, _⟩ := h1
    have hc' : k.cnt = 1 := by rw [hc]; unfold kn; rw [if_neg (by omega), if_pos h4]
    have hn := fine_one hf
    cases k with
    | nil => simp [F.cnt] at hc'
    | cons y q r =>
      obtain rfl : r = .nil := F.cnt_zero (by simp only [F.cnt] at hc'; omega)
      have e4 : l.drop (p + 1) = y :: (q.flat ++ t) := by rw [e2]; simp [F.flat]
      have e6 : p + 1 + (F.cons y q .nil).sz = p + 1 + 1 + q.sz := by simp only [F.sz]; omega
      simp only [F.dep] at h5
      rw [e6] at h6
      refine .inr ⟨y, q, t, reps (x.n.toNat - 1) (one y q.lvs) ++ u, hok, e4, by simp only [List.length_cons]; omega, .rep hok (by omega) (by omega) (by omega) e4 (by omega) h6, ?_⟩
      rw [h7, lvs_rep h4, reps_one (by omega)]
      simp [F.lvs]
/-- The levels and the place behind a leaf that ends ahead of p. -/
def popm : List (Nat × Nat) → Nat → List (Nat × Nat) × Nat
  | [], p => ([], p)
  | (a, b) :: o, p => if 1 < a then ((a - 1, b) :: o, if 0 < b then b else p) else popm o p
theorem popm_more {a b : Nat} (o : List (Nat × Nat)) (p : Nat) (h : 1 < a) : popm ((a, b) :: o) p = ((a - 1, b) :: o, if 0 < b then b else p) := by simp only [popm]; rw [if_pos h]
theorem popm_less {a b : Nat} (o : List (Nat × Nat)) (p : Nat) (h : ¬ 1 < a) : popm ((a, b) :: o) p = popm o p := by simp only [popm]; rw [if_neg h]
theorem Beh.pop {l : List Nd} {st : List (Nat × Nat)} {p : Nat} {td : List Rn} (h : Beh l st p td) : Ats l (popm st p).1 (popm st p).2 td := by
  induction h with
  | top => exact .inl ⟨rfl, rfl, rfl⟩
  | @seq o p f t td hok hl hd h ih =>
    cases f with
    | nil =>
      rw [popm_less _ _ (by simp [F.cnt])]
      simpa [F.lvs, F.sz] using ih
    | cons y q r =>
      rw [popm_more _ _ (by simp [F.cnt])]
      show Ats l (((F.cons y q r).cnt + 1 - 1, 0) :: o) p _
      have e4 : l.drop p = y :: (q.flat ++ (r.flat ++ t)) := by rw [hl]; simp [F.flat]
      have e5 : l.drop (p + 1 + q.sz) = r.flat ++ t := by
        obtain ⟨_, e6, _⟩ := drop_get e4
        rw [← List.drop_drop, e6, List.drop_left' (F.flat_length q)]
      simp only [F.dep] at hd
      refine .inr ⟨y, q, r.flat ++ t, r.lvs ++ td, ⟨hok.1, hok.2.1, hok.2.2.1, trivial⟩, e4, by simp only [List.length_cons]; omega, ?_, by rw [F.lvs, List.append_assoc]⟩
      exact .seq hok.2.2.2 e5 (by omega) (by have : p + 1 + q.sz + r.sz = p + (F.cons y q r).sz := by simp only [F.sz]; omega
                                             rw [this]; exact h)
  | @rep o a b y k t td hok ha ha2 hb hl hd h ih =>
    by_cases h1 : 1 < a
    · rw [popm_more _ _ h1]
      dsimp only
      rw [if_pos (by omega)]
      refine .inr ⟨y, k, t, reps (a - 1 - 1) (one y k.lvs) ++ td, hok, hl, by simp only [List.length_cons]; omega, .rep hok (by omega) (by omega) hb hl hd h, ?_⟩
      rw [reps_one (n := a - 1) (by omega), List.append_assoc]
    · rw [popm_less _ _ h1]
      have : a - 1 = 0 := by omega
      rw [this]
      exact ih
/-- What the counts are. -/
theorem Beh.bound {l : List Nd} {st : List (Nat × Nat)} {p : Nat} {td : List Rn} (h : Beh l st p td) : ∀ e ∈ st, 1 ≤ e.1 ∧ e.1 ≤ max 9223372036854775807 (l.length + 1) ∧ e.2 ≤ l.length := by
  induction h with
  | top => simp
  | @seq o p f t td hok hl hd h ih =>
    intro e he
    rcases List.mem_cons.1 he with rfl | he
    · have h1 := congrArg List.length hl
      rw [List.length_drop, List.length_append, F.flat_length] at h1
      have h2 := F.cnt_le_sz f
      dsimp only
      omega
    · exact ih e he
  | @rep o a b y k t td hok ha ha2 hb hl hd h ih =>
    intro e he
    rcases List.mem_cons.1 he with rfl | he
    · have := (drop_get hl).2.2
      dsimp only
      omega
    · exact ih e he
/-- At the beginning. -/
theorem Ats.start {x : Nd} {k : F} (hok : (F.cons x k .nil).ok) (hd : k.dep + 1 ≤ 16) : Ats (x :: k.flat) [] 0 (one x k.lvs) := by
  refine .inr ⟨x, k, [], [], hok, by simp, by simpa using hd, ?_, by simp⟩
  have : (0 : Nat) + 1 + k.sz = (x :: k.flat).length := by simp only [List.length_cons, F.flat_length]; omega
  rw [this]
  exact .top

/-- Whose tick t of the runs is; -1 of none. -/
def whoAt : List Rn → Int → Int
  | [], _ => -1
  | r :: s, t => if t < 0 then -1 else if t < r.n then r.p else whoAt s (t - r.n)
theorem whoAt_neg (s : List Rn) (t : Int) (h : t < 0) : whoAt s t = -1 := by
  cases s with
  | nil => rfl
  | cons r s => simp only [whoAt]; rw [if_pos h]
theorem whoAt_at (a : List Rn) (r : Rn) (s : List Rn) (j : Nat) (h : j < r.n) : whoAt (a ++ r :: s) ((ticks a : Int) + j) = r.p := by
  induction a with
  | nil =>
    simp only [List.nil_append, ticks, whoAt]
    rw [if_neg (by omega), if_pos (by omega)]
  | cons x a ih =>
    simp only [List.cons_append, ticks, whoAt]
    rw [if_neg (by omega), if_neg (by omega)]
    rw [show ((x.n + ticks a : Nat) : Int) + j - x.n = (ticks a : Int) + j by omega]
    exact ih
theorem whoAt_out (s : List Rn) (t : Int) (h : (ticks s : Int) ≤ t) : whoAt s t = -1 := by
  induction s generalizing t with
  | nil => rfl
  | cons r s ih =>
    simp only [ticks] at h
    simp only [whoAt]
    split
    · rfl
    · rw [if_neg (by omega)]
      exact ih _ (by omega)
end Tab
end Go.Proofs.YtebcfiifaclniaaGreat

/- Runs side by side of one as one; whose ticks they are: plain mathematics. -/
namespace Go.Proofs.YtebcfiifaclniaaGreat
namespace Tab

/-- One run more behind a tidy row. -/
def tpush (out : List Rn) (x : Rn) : List Rn := if x.n = 0 then out else match out.getLast? with
  | some y => if y.p = x.p then out.dropLast ++ [⟨y.p, y.n + x.n⟩] else out ++ [x]
  | none => [x]
def tidyOn (out l : List Rn) : List Rn := l.foldl tpush out
def tidy (l : List Rn) : List Rn := tidyOn [] l
/-- How many ticks are of p. -/
def tkOf (p : Int) : List Rn → Nat
  | [] => 0
  | r :: s => (if r.p = p then r.n else 0) + tkOf p s
/-- No run without ticks, no two side by side of one. -/
def Apart : List Rn → Prop
  | [] => True
  | [r] => 1 ≤ r.n
  | r :: q :: s => 1 ≤ r.n ∧ r.p ≠ q.p ∧ Apart (q :: s)

theorem tpush_none {out : List Rn} {x : Rn} (h : x.n = 0) : tpush out x = out := if_pos h
theorem tpush_nil {x : Rn} (h : x.n ≠ 0) : tpush [] x = [x] := by unfold tpush; rw [if_neg h]; rfl
theorem tpush_one {o : List Rn} {y x : Rn} (h : x.n ≠ 0) (hp : y.p = x.p) : tpush (o ++ [y]) x = o ++ [⟨y.p, y.n + x.n⟩] := by
  unfold tpush
  rw [if_neg h]
  simp [hp]
theorem tpush_new {o : List Rn} {y x : Rn} (h : x.n ≠ 0) (hp : y.p ≠ x.p) : tpush (o ++ [y]) x = o ++ [y] ++ [x] := by
  unfold tpush
  rw [if_neg h]
  simp [hp]
/-- The cases of one run more. -/
theorem tpush_cases (out : List Rn) (x : Rn) : (x.n = 0 ∧ tpush out x = out) ∨ (x.n ≠ 0 ∧ out = [] ∧ tpush out x = [x]) ∨ (∃ o y, x.n ≠ 0 ∧ out = o ++ [y] ∧ y.p = x.p ∧ tpush out x = o ++ [⟨y.p, y.n + x.n⟩]) ∨
    ∃ o y, x.n ≠ 0 ∧ out = o ++ [y] ∧ y.p ≠ x.p ∧ tpush out x = out ++ [x] := by
  by_cases h : x.n = 0
  · exact .inl ⟨h, tpush_none h⟩
  · rcases List.eq_nil_or_concat out with rfl | ⟨o, y, rfl⟩
    · exact .inr (.inl ⟨h, rfl, tpush_nil h⟩)
    · simp only [List.concat_eq_append]
      by_cases hp : y.p = x.p
      · exact .inr (.inr (.inl ⟨o, y, h, rfl, hp, tpush_one h hp⟩))
      · exact .inr (.inr (.inr ⟨o, y, h, rfl, hp, tpush_new h hp⟩))

theorem tidyOn_append (out a b : List Rn) : tidyOn out (a ++ b) = tidyOn (tidyOn out a) b := List.foldl_append
theorem tidy_more {l : List Rn} {i : Nat} {r : Rn} (h : l[i]? = some r) : tidy (l.take (i + 1)) = tpush (tidy (l.take i)) r := by
  obtain ⟨hi, e⟩ := List.getElem?_eq_some_iff.1 h
  unfold tidy tidyOn
  rw [List.take_succ_eq_append_getElem hi, List.foldl_append, e]
  rfl

theorem tkOf_append (p : Int) (a b : List Rn) : tkOf p (a ++ b) = tkOf p a + tkOf p b := by
  induction a with
  | nil => simp [tkOf]
  | cons x a ih => simp only [List.cons_append, tkOf, ih]; omega
theorem tkOf_le (p : Int) (l : List Rn) : tkOf p l ≤ ticks l := by
  induction l with
  | nil => simp [tkOf, ticks]
  | cons x a ih => simp only [tkOf, ticks]; split <;> omega
theorem tkOf_push (p : Int) (out : List Rn) (x : Rn) : tkOf p (tpush out x) = tkOf p out + if x.p = p then x.n else 0 := by
  rcases tpush_cases out x with ⟨h, e⟩ | ⟨h, rfl, e⟩ | ⟨o, y, h, rfl, hp, e⟩ | ⟨o, y, h, rfl, hp, e⟩
  · rw [e, h]; split <;> rfl
  · rw [e]; simp [tkOf]
  · rw [e, tkOf_append, tkOf_append]
    simp only [tkOf, hp]
    split <;> omega
  · rw [e, tkOf_append _ (o ++ [y])]
    simp only [tkOf]
    omega
theorem tkOf_tidyOn (p : Int) (l : List Rn) : ∀ out, tkOf p (tidyOn out l) = tkOf p out + tkOf p l := by
  induction l with
  | nil => intro out; simp [tidyOn, tkOf]
  | cons x l ih =>
    intro out
    have := ih (tpush out x)
    unfold tidyOn at this ⊢
    rw [List.foldl_cons, this, tkOf_push]
    simp only [tkOf]
    omega
theorem tkOf_tidy (p : Int) (l : List Rn) : tkOf p (tidy l) = tkOf p l := by
  unfold tidy
  rw [tkOf_tidyOn]
  simp [tkOf]
theorem ticks_push (out : List Rn) (x : Rn) : ticks (tpush out x) = ticks out + x.n := by
  rcases tpush_cases out x with ⟨h, e⟩ | ⟨h, rfl, e⟩ | ⟨o, y, h, rfl, hp, e⟩ | ⟨o, y, h, rfl, hp, e⟩
  · rw [e, h]; rfl
  · rw [e]; simp [ticks]
  · rw [e, ticks_append, ticks_append]
    simp only [ticks]
    omega
  · rw [e, ticks_append (o ++ [y])]
    simp only [ticks]
    omega
theorem ticks_tidyOn (l : List Rn) : ∀ out, ticks (tidyOn out l) = ticks out + ticks l := by
  induction l with
  | nil => intro out; simp [tidyOn, ticks]
  | cons x l ih =>
    intro out
    have := ih (tpush out x)
    unfold tidyOn at this ⊢
    rw [List.foldl_cons, this, ticks_push]
    simp only [ticks]
    omega
theorem ticks_tidy (l : List Rn) : ticks (tidy l) = ticks l := by
  unfold tidy
  rw [ticks_tidyOn]
  simp [ticks]

theorem whoAt_low (a b : List Rn) (t : Int) (h : t < ticks a) : whoAt (a ++ b) t = whoAt a t := by
  induction a generalizing t with
  | nil => simp only [ticks] at h; rw [whoAt_neg _ _ (by omega), whoAt_neg _ _ (by omega)]
  | cons x a ih =>
    simp only [ticks] at h
    simp only [List.cons_append, whoAt]
    split
    · rfl
    · split
      · rfl
      · exact ih _ (by omega)
theorem whoAt_high (a b : List Rn) (t : Int) (h : (ticks a : Int) ≤ t) : whoAt (a ++ b) t = whoAt b (t - ticks a) := by
  induction a generalizing t with
  | nil => simp [ticks]
  | cons x a ih =>
    simp only [ticks] at h
    simp only [List.cons_append, whoAt, ticks]
    rw [if_neg (by omega), if_neg (by omega), ih _ (by omega)]
    congr 1
    omega
theorem whoAt_one (p : Int) (n : Nat) (t : Int) (h : 0 ≤ t) : whoAt [⟨p, n⟩] t = if t < n then p else -1 := by
  simp only [whoAt]
  rw [if_neg (by omega)]
/-- Rows that are the same tick by tick. -/
def Alike (a b : List Rn) : Prop := ticks a = ticks b ∧ ∀ t : Int, 0 ≤ t → whoAt a t = whoAt b t
theorem alike_push (out : List Rn) (x : Rn) : Alike (tpush out x) (out ++ [x]) := by
  refine ⟨by rw [ticks_push, ticks_append]; simp [ticks], fun t ht => ?_⟩
  rcases tpush_cases out x with ⟨h, e⟩ | ⟨h, rfl, e⟩ | ⟨o, y, h, rfl, hp, e⟩ | ⟨o, y, h, rfl, hp, e⟩
  · rw [e]
    by_cases h1 : t < ticks out
    · rw [whoAt_low _ _ _ h1]
    · obtain ⟨xp, xn⟩ := x
      dsimp only at h
      subst h
      rw [whoAt_high _ _ _ (by omega), whoAt_one _ _ _ (by omega), if_neg (by omega), whoAt_out _ _ (by omega)]
  · rw [e]; rfl
  · rw [e, List.append_assoc]
    by_cases h1 : t < ticks o
    · rw [whoAt_low _ _ _ h1, whoAt_low _ _ _ h1]
    · rw [whoAt_high _ _ _ (by omega), whoAt_high _ _ _ (by omega)]
      obtain ⟨xp, xn⟩ := x
      obtain ⟨yp, yn⟩ := y
      dsimp only at hp h ⊢
      subst hp
      have e1 : ticks [⟨yp, yn⟩] = yn := by simp [ticks]
      rw [whoAt_one _ _ _ (by omega)]
      by_cases h2 : t - ticks o < yn
      · rw [whoAt_low _ _ _ (by rw [e1]; exact h2), whoAt_one _ _ _ (by omega), if_pos (by omega), if_pos h2]
      · rw [whoAt_high _ _ _ (by rw [e1]; omega), e1, whoAt_one _ _ _ (by omega)]
        by_cases h3 : t - ticks o < ((yn + xn : Nat) : Int)
        · rw [if_pos h3, if_pos (by omega)]
        · rw [if_neg h3, if_neg (by omega)]
  · rw [e]
theorem Alike.trans {a b c : List Rn} (h : Alike a b) (k : Alike b c) : Alike a c := ⟨h.1.trans k.1, fun t ht => (h.2 t ht).trans (k.2 t ht)⟩
theorem Alike.back {a b : List Rn} (h : Alike a b) (c : List Rn) : Alike (a ++ c) (b ++ c) := by
  refine ⟨by rw [ticks_append, ticks_append, h.1], fun t ht => ?_⟩
  by_cases h1 : t < ticks a
  · rw [whoAt_low _ _ _ h1, whoAt_low _ _ _ (by rw [← h.1]; exact h1), h.2 t ht]
  · rw [whoAt_high _ _ _ (by omega), whoAt_high _ _ _ (by rw [← h.1]; omega), h.1]
theorem alike_tidyOn (l : List Rn) : ∀ out, Alike (tidyOn out l) (out ++ l) := by
  induction l with
  | nil => intro out; simp only [tidyOn, List.foldl_nil, List.append_nil]; exact ⟨rfl, fun _ _ => rfl⟩
  | cons x l ih =>
    intro out
    have h1 := ih (tpush out x)
    have h2 := (alike_push out x).back l
    rw [List.append_assoc] at h2
    exact h1.trans h2
theorem whoAt_tidy (l : List Rn) (t : Int) : whoAt (tidy l) t = whoAt l t := by
  by_cases h : 0 ≤ t
  · have := (alike_tidyOn l []).2 t h
    simpa [tidy] using this
  · rw [whoAt_neg _ _ (by omega), whoAt_neg _ _ (by omega)]

theorem Apart.pos {l : List Rn} (h : Apart l) : ∀ r ∈ l, 1 ≤ r.n := by
  induction l with
  | nil => simp
  | cons r l ih =>
    cases l with
    | nil => intro q hq; simp at hq; subst hq; exact h
    | cons q s =>
      intro y hy
      rcases List.mem_cons.1 hy with rfl | hy
      · exact h.1
      · exact ih h.2.2 y hy
theorem Apart.snoc {o : List Rn} {y x : Rn} (h : Apart (o ++ [y])) (hx : 1 ≤ x.n) (hp : y.p ≠ x.p) : Apart (o ++ [y] ++ [x]) := by
  induction o with
  | nil => exact ⟨h, hp, hx⟩
  | cons r o ih =>
    cases o with
    | nil => exact ⟨h.1, h.2.1, ih h.2.2⟩
    | cons q s => exact ⟨h.1, h.2.1, ih h.2.2⟩
theorem Apart.more {o : List Rn} {y : Rn} (h : Apart (o ++ [y])) (k : Nat) : Apart (o ++ [⟨y.p, y.n + k⟩]) := by
  induction o with
  | nil => have h' : 1 ≤ y.n := h; show 1 ≤ y.n + k; omega
  | cons r o ih =>
    cases o with
    | nil => exact ⟨h.1, h.2.1, ih h.2.2⟩
    | cons q s => exact ⟨h.1, h.2.1, ih h.2.2⟩
theorem Apart.push {out : List Rn} (h : Apart out) (x : Rn) : Apart (tpush out x) := by
  rcases tpush_cases out x with ⟨h0, e⟩ | ⟨h0, rfl, e⟩ | ⟨o, y, h0, rfl, hp, e⟩ | ⟨o, y, h0, rfl, hp, e⟩
  · rw [e]; exact h
  · rw [e]; show 1 ≤ x.n; omega
  · rw [e]; exact h.more _
  · rw [e]; exact h.snoc (by omega) hp
theorem tidyOn_apart (l : List Rn) : ∀ out, Apart out → Apart (tidyOn out l) := by
  induction l with
  | nil => intro out h; exact h
  | cons x l ih => intro out h; exact ih _ (h.push x)
theorem tidy_apart (l : List Rn) : Apart (tidy l) := tidyOn_apart l [] trivial
/-- Two that stand side by side. -/
theorem Apart.at_ {l : List Rn} (h : Apart l) {i : Nat} {r q : Rn} (hr : l[i]? = some r) (hq : l[i + 1]? = some q) : r.p ≠ q.p := by
  induction l generalizing i with
  | nil => simp at hr
  | cons x l ih =>
    cases l with
    | nil => simp at hq
    | cons y s =>
      cases i with
      | zero => simp at hr hq; subst hr; subst hq; exact h.2.1
      | succ i => exact ih h.2.2 (by simpa using hr) (by simpa using hq)
/-- What is tidy stays. -/
theorem tidyOn_stays (l : List Rn) : ∀ out, Apart (out ++ l) → tidyOn out l = out ++ l := by
  induction l with
  | nil => intro out _; simp [tidyOn]
  | cons x l ih =>
    intro out h
    have e : tpush out x = out ++ [x] := by
      have hx : x.n ≠ 0 := by have := h.pos x (by simp); omega
      rcases List.eq_nil_or_concat out with rfl | ⟨o, y, rfl⟩
      · exact tpush_nil hx
      · simp only [List.concat_eq_append] at h ⊢
        refine tpush_new hx (h.at_ (i := o.length) ?_ ?_)
        · rw [List.append_assoc, List.getElem?_append_right (Nat.le_refl _)]; simp
        · rw [List.append_assoc, List.getElem?_append_right (by omega)]; simp
    have := ih (out ++ [x]) (by rw [List.append_assoc]; exact h)
    show tidyOn (tpush out x) l = _
    rw [e, this, List.append_assoc]
    rfl
theorem tidy_tidy (l : List Rn) : tidy (tidy l) = tidy l := by
  have := tidyOn_stays (tidy l) [] (by simpa using tidy_apart l)
  simpa [tidy] using this

theorem tpush_le (out : List Rn) (x : Rn) : (tpush out x).length ≤ out.length + 1 ∧ out.length ≤ (tpush out x).length := by
  rcases tpush_cases out x with ⟨h0, e⟩ | ⟨h0, rfl, e⟩ | ⟨o, y, h0, rfl, hp, e⟩ | ⟨o, y, h0, rfl, hp, e⟩ <;> rw [e] <;> simp
theorem tidyOn_le (l : List Rn) : ∀ out, (tidyOn out l).length ≤ out.length + l.length := by
  induction l with
  | nil => intro out; simp [tidyOn]
  | cons x l ih =>
    intro out
    have h1 := ih (tpush out x)
    have h2 := (tpush_le out x).1
    simp only [List.length_cons]
    show (tidyOn (tpush out x) l).length ≤ _
    omega
theorem tidy_le (l : List Rn) : (tidy l).length ≤ l.length := by
  have := tidyOn_le l []
  simpa [tidy] using this
theorem tidy_take_le (l : List Rn) (i : Nat) : (tidy (l.take i)).length ≤ i := by
  have := tidy_le (l.take i)
  rw [List.length_take] at this
  omega
/-- Two runs of one behind a row, one by one or as one. -/
theorem tpush_two (o : List Rn) (y x : Rn) (hy : y.n ≠ 0) (hp : y.p = x.p) : tpush (tpush o y) x = tpush o ⟨y.p, y.n + x.n⟩ := by
  by_cases hx : x.n = 0
  · rw [tpush_none hx]
    obtain ⟨yp, yn⟩ := y
    dsimp only at hp ⊢
    rw [hx]
    rfl
  · have hz : (⟨y.p, y.n + x.n⟩ : Rn).n ≠ 0 := by dsimp only; omega
    rcases tpush_cases o y with ⟨h0, e⟩ | ⟨h0, rfl, e⟩ | ⟨q, z, h0, rfl, hq, e⟩ | ⟨q, z, h0, rfl, hq, e⟩
    · exact absurd h0 hy
    · rw [e, tpush_nil hz]
      exact tpush_one (o := []) hx hp
    · rw [e, tpush_one hx (by dsimp only; rw [hq, hp]), tpush_one hz hq]
      dsimp only
      rw [Nat.add_assoc]
    · rw [e, tpush_one (o := q ++ [z]) hx hp, tpush_new (o := q) hz hq]
theorem tidyOn_push (o out : List Rn) (x : Rn) (h : Apart out) : tidyOn o (tpush out x) = tpush (tidyOn o out) x := by
  rcases tpush_cases out x with ⟨h0, e⟩ | ⟨h0, rfl, e⟩ | ⟨q, y, h0, rfl, hq, e⟩ | ⟨q, y, h0, rfl, hq, e⟩
  · rw [e, tpush_none h0]
  · rw [e]; rfl
  · rw [e, tidyOn_append, tidyOn_append]
    have hy : y.n ≠ 0 := by have := h.pos y (by simp); omega
    exact (tpush_two _ y x hy hq).symm
  · rw [e, tidyOn_append]
    rfl
theorem tidyOn_tidyOn (o l : List Rn) : ∀ out, Apart out → tidyOn o (tidyOn out l) = tidyOn (tidyOn o out) l := by
  induction l with
  | nil => intro out _; rfl
  | cons x l ih =>
    intro out h
    show tidyOn o (tidyOn (tpush out x) l) = tidyOn (tpush (tidyOn o out) x) l
    rw [ih _ (h.push x), tidyOn_push o out x h]
theorem tidy_append (a b : List Rn) : tidy (a ++ b) = tidyOn (tidy a) (tidy b) := by
  unfold tidy
  rw [tidyOn_tidyOn _ b [] trivial, tidyOn_append]
  rfl
theorem tidy_append_le (a b : List Rn) : (tidy (a ++ b)).length ≤ (tidy a).length + (tidy b).length := by
  rw [tidy_append]
  exact tidyOn_le _ _
theorem tidy_reps_le (m : Nat) (s : List Rn) : (tidy (reps m s)).length ≤ (tidy s).length * m := by
  induction m with
  | zero => simp [reps, tidy, tidyOn]
  | succ m ih =>
    have := tidy_append_le s (reps m s)
    show (tidy (s ++ reps m s)).length ≤ _
    rw [Nat.mul_succ]
    omega
theorem tkOf_reps (p : Int) (m : Nat) (s : List Rn) : tkOf p (reps m s) = m * tkOf p s := by
  induction m with
  | zero => simp [reps, tkOf]
  | succ m ih =>
    show tkOf p (s ++ reps m s) = _
    rw [tkOf_append, ih, Nat.succ_mul]
    omega
/-- How many are of somebody. -/
def swi : List Rn → Nat
  | [] => 0
  | r :: s => (if r.p = -1 then 0 else 1) + swi s
theorem swi_append (a b : List Rn) : swi (a ++ b) = swi a + swi b := by
  induction a with
  | nil => simp [swi]
  | cons x a ih => simp only [List.cons_append, swi, ih]; omega
theorem swi_le (l : List Rn) : swi l ≤ l.length := by
  induction l with
  | nil => simp [swi]
  | cons x l ih => simp only [swi, List.length_cons]; split <;> omega
theorem swi_take (l : List Rn) (i : Nat) : swi (l.take i) ≤ i := by
  have := swi_le (l.take i)
  rw [List.length_take] at this
  omega
theorem swi_more {l : List Rn} {i : Nat} {r : Rn} (h : l[i]? = some r) : swi (l.take (i + 1)) = swi (l.take i) + if r.p = -1 then 0 else 1 := by
  obtain ⟨hi, e⟩ := List.getElem?_eq_some_iff.1 h
  rw [List.take_succ_eq_append_getElem hi, swi_append, e]
  simp [swi]
theorem tkOf_more {p : Int} {l : List Rn} {i : Nat} {r : Rn} (h : l[i]? = some r) : tkOf p (l.take (i + 1)) = tkOf p (l.take i) + if r.p = p then r.n else 0 := by
  obtain ⟨hi, e⟩ := List.getElem?_eq_some_iff.1 h
  rw [List.take_succ_eq_append_getElem hi, tkOf_append, e]
  simp [tkOf]
/-- Parts of a tidied row are parts of the row. -/
theorem tpush_part {out : List Rn} {x r : Rn} (h : r ∈ tpush out x) : r.p = x.p ∨ ∃ q ∈ out, q.p = r.p := by
  rcases tpush_cases out x with ⟨h0, e⟩ | ⟨h0, rfl, e⟩ | ⟨q, y, h0, rfl, hq, e⟩ | ⟨q, y, h0, rfl, hq, e⟩
  · rw [e] at h; exact .inr ⟨r, h, rfl⟩
  · rw [e] at h; simp at h; subst h; exact .inl rfl
  · rw [e] at h
    rcases List.mem_append.1 h with h | h
    · exact .inr ⟨r, by simp [h], rfl⟩
    · simp at h; subst h; exact .inl hq
  · rw [e] at h
    rcases List.mem_append.1 h with h | h
    · exact .inr ⟨r, h, rfl⟩
    · simp at h; subst h; exact .inl rfl
theorem tidyOn_part (l : List Rn) : ∀ out, ∀ r ∈ tidyOn out l, (∃ q ∈ out, q.p = r.p) ∨ ∃ q ∈ l, q.p = r.p := by
  induction l with
  | nil => intro out r h; exact .inl ⟨r, h, rfl⟩
  | cons x l ih =>
    intro out r h
    rcases ih (tpush out x) r h with ⟨q, hq, e⟩ | ⟨q, hq, e⟩
    · rcases tpush_part hq with h | ⟨z, hz, e2⟩
      · exact .inr ⟨x, by simp, by rw [← h, e]⟩
      · exact .inl ⟨z, hz, by rw [e2, e]⟩
    · exact .inr ⟨q, by simp [hq], e⟩
theorem tidy_part {l : List Rn} {r : Rn} (h : r ∈ tidy l) : ∃ q ∈ l, q.p = r.p := by
  rcases tidyOn_part l [] r h with ⟨q, hq, _⟩ | h
  · simp at hq
  · exact h
theorem mem_ticks {l : List Rn} {r : Rn} (h : r ∈ l) : r.n ≤ ticks l := by
  induction l with
  | nil => simp at h
  | cons x l ih =>
    simp only [ticks]
    rcases List.mem_cons.1 h with rfl | h
    · omega
    · have := ih h; omega
/-- Whose the leaves of a table are. -/
theorem one_parts {x : Nd} {s : List Rn} (hf : fine x = true) (h : ∀ r ∈ s, -1 ≤ r.p ∧ r.p ≤ 5) : ∀ r ∈ one x s, -1 ≤ r.p ∧ r.p ≤ 5 := by
  intro r hr
  unfold one at hr
  split at hr
  · exact h r hr
  · split at hr
    · exact h r (reps_mem hr)
    · simp at hr
      subst hr
      unfold fine at hf
      unfold whose
      dsimp only
      simp only [Bool.and_eq_true, decide_eq_true_eq] at hf
      rename_i h3 h4
      split
      · omega
      · have h5 := hf.2
        rename_i h2
        by_cases h1 : x.k = 1
        · rw [if_pos h1] at h5
          simp at h5
          omega
        · rw [if_neg h1] at h5
          simp [h2, h3, h4] at h5
theorem lvs_parts {f : F} (h : f.ok) : ∀ r ∈ f.lvs, -1 ≤ r.p ∧ r.p ≤ 5 := by
  induction f with
  | nil => intro r hr; simp [F.lvs] at hr
  | cons x k r hk hr =>
    intro q hq
    rcases List.mem_append.1 hq with hq | hq
    · exact one_parts h.1 (hk h.2.2.1) q hq
    · exact hr h.2.2.2 q hq
end Tab
end Go.Proofs.YtebcfiifaclniaaGreat

/- Rows of runs in memory; append in a region that draws. -/
namespace Go.Proofs.YtebcfiifaclniaaGreat
open Go.RowKit Tab
set_option linter.unusedSimpArgs false
set_option linter.unusedVariables false

theorem elR : Elt 75 95 2 16 (.agg #[.int .i64 0, .int .i64 0]) := ⟨Tryz.underlying75, by kernel_rfl, rfl, by omega⟩
/-- A row of runs as cells. -/
def rs : List Rn → List Value
  | [] => []
  | r :: l => .int .i64 r.p :: .int .i64 (r.n : Int) :: rs l
theorem rs_length (l : List Rn) : (rs l).length = l.length * 2 := by
  induction l with
  | nil => rfl
  | cons x l ih => simp only [rs, List.length_cons, ih]; omega
theorem rs_append (l m : List Rn) : rs (l ++ m) = rs l ++ rs m := by
  induction l with
  | nil => rfl
  | cons x l ih => simp [rs, ih]
theorem rs_one (l : List Rn) : ∀ u ∈ rs l, u.oneCell' = true := by
  induction l with
  | nil => simp [rs]
  | cons x l ih =>
    intro u hu
    simp only [rs, List.mem_cons] at hu
    rcases hu with rfl | rfl | hu
    · rfl
    · rfl
    · exact ih u hu
theorem rs_get (l : List Rn) (i : Nat) (h : i < l.length) : (rs l)[i * 2]? = some (.int .i64 l[i].p) ∧ (rs l)[i * 2 + 1]? = some (.int .i64 (l[i].n : Int)) := by
  induction l generalizing i with
  | nil => simp at h
  | cons x l ih =>
    cases i with
    | zero => simp [rs]
    | succ i =>
      have := ih i (by simpa using h)
      have e : (i + 1) * 2 = i * 2 + 1 + 1 := by omega
      rw [e]
      simp only [rs, List.getElem?_cons_succ, List.getElem_cons_succ]
      exact this
/-- A slice at A, n long, holds the runs l. -/
structure RdR (w : World) (B : Nat) (A : Option Addr) (n : Nat) (l : List Rn) : Prop where
  len : l.length = n
  rd : RdV w B A (rs l)
section
variable {w w' : World} {B B' n : Nat} {A : Option Addr} {l : List Rn}
theorem RdR.below (h : RdR w B A n l) (hb : Below B w w') : RdR w' B A n l := ⟨h.len, h.rd.below hb⟩
theorem RdR.more (h : RdR w B A n l) (hB : B ≤ B') : RdR w B' A n l := ⟨h.len, h.rd.more hB⟩
theorem RdR.on (h : RdR w w.heap.size A n l) (hb : Below w.heap.size w w') : RdR w' w'.heap.size A n l := (h.below hb).more hb.size
theorem RdR.gb {b : Nat} (h : RdR w b A n l) (hb : b ≤ w.heap.size) (hg : w.grownBy w' (some b)) : RdR w' b A n l :=
  ⟨h.len, h.rd.keep fun p hp => World.cell?_of_block (hg.block p.block (by omega) (fun e => by injection e with e; omega))⟩
theorem RdR.at_ (h : RdR w B A n l) {i : Nat} (hi : i < n) : ∃ (ad : Addr) (r : Rn), A = some ad ∧ ad.block < B ∧ l[i]? = some r ∧
    w.cell? (ad.add (i * 2)) = some (.int .i64 r.p) ∧ w.cell? ⟨(ad.add (i * 2)).block, (ad.add (i * 2)).off + 1, none⟩ = some (.int .i64 (r.n : Int)) := by
  have hl : i < l.length := by rw [h.len]; exact hi
  obtain ⟨ad, e, hb, hc⟩ := h.rd (by rw [rs_length]; omega)
  obtain ⟨h1, h2⟩ := rs_get l i hl
  have e1 : (⟨(ad.add (i * 2)).block, (ad.add (i * 2)).off + 1, none⟩ : Addr) = ad.add (i * 2 + 1) := by
    rw [← add_add]
    generalize ad.add (i * 2) = p
    unfold Addr.add
    rw [if_neg (by omega)]
  exact ⟨ad, l[i], e, hb, List.getElem?_eq_getElem hl, hc _ _ h1, by rw [e1]; exact hc _ _ h2⟩
end
/-- The block of a slice. -/
def obk (A : Option Addr) : Option Nat := A.map (·.block)
theorem ownBlock_obk (A : Option Addr) (n c : Nat) : (Value.slice A n c).ownBlock = obk A := by cases A <;> rfl
/-- No block has turned but A0's; A is A0's or newer. -/
structure Grew (A0 A : Option Addr) (w w' : World) : Prop where
  gb : w.grownBy w' (obk A0)
  at_ : obk A = obk A0 ∨ ∃ g, obk A = some g ∧ w.heap.size ≤ g
theorem Grew.refl (A : Option Addr) (w : World) : Grew A A w w := ⟨⟨rfl, rfl, rfl, Nat.le_refl _, fun _ _ _ => rfl⟩, .inl rfl⟩
theorem Grew.trans {A0 A1 A2 : Option Addr} {w w1 w2 : World} (h : Grew A0 A1 w w1) (k : Grew A1 A2 w1 w2) : Grew A0 A2 w w2 := by
  refine ⟨⟨k.gb.os.trans h.gb.os, k.gb.tape.trans h.gb.tape, k.gb.output.trans h.gb.output, Nat.le_trans h.gb.size k.gb.size, fun i hi hne => ?_⟩, ?_⟩
  · refine (k.gb.block i (Nat.lt_of_lt_of_le hi h.gb.size) ?_).trans (h.gb.block i hi hne)
    rcases h.at_ with e | ⟨g, e, hg⟩
    · rw [e]; exact hne
    · rw [e]; intro e2; injection e2 with e2; omega
  · rcases k.at_ with e | ⟨g, e, hg⟩
    · rw [e]; exact h.at_
    · exact .inr ⟨g, e, Nat.le_trans h.gb.size hg⟩
theorem Grew.bel {A0 : Option Addr} {w w' : World} (h : Below w.heap.size w w') : Grew A0 A0 w w' := ⟨⟨h.os, h.tape, h.output, h.size, fun i hi _ => h.block i hi⟩, .inl rfl⟩
theorem Grew.drew {A0 A : Option Addr} {w w' : World} (h : Grew A0 A w.drew w') : Grew A0 A w w' := ⟨⟨h.gb.os, h.gb.tape, h.gb.output, h.gb.size, h.gb.block⟩, h.at_⟩
/-- append onto a row of the call's own: where the new one lies, what stays. -/
theorem run_appX {T E s b : Nat} {z : Value} (L : Elt T E s b z) (w : World) (B : Nat) (A : Option Addr) (n c : Nat) (l0 : List Value) (h : OwnV E s w B A n c l0) (ad : Addr) (m d : Nat) (l : List Value) (Bs : Nat) (hr : RdV w Bs (some ad) l)
    (hl : l.length = m * s) (hm0 : 0 < m) (h1 : ∀ u ∈ l, u.oneCell' = true) (hb : (n + m) * b ≤ 140737488355328) (hm : n + m ≤ maxLen) (hB : B ≤ w.heap.size) :
    ∃ A' c' w', (Builtin.append_ #[T, T] T #[.slice A n c, .slice (some ad) m d]).run Tryz.prog w = .ok (.slice A' (n + m) c') w' ∧ OwnV E s w' B A' (n + m) c' (l0 ++ l) ∧ Below B w w' ∧ Grew A A' w w' := by
  obtain ⟨i, hi, hz, hs, hby⟩ := info_parts L.hi
  have hpos : 0 < l.length := by rw [hl]; exact Nat.mul_pos hm0 L.hs
  obtain ⟨ad', e, _, hc⟩ := hr hpos
  injection e with e
  subst e
  obtain ⟨v', w', hrun, hown, hgr, hnil, hat⟩ := run_append_own_at (P := Tryz.prog) w B T T E i z s b L.ht hi hz hs hby L.hz L.hs (.slice A n c) n l0 h ad m d l hl hc h1 hm hb hB
  have hbel : Below B w w' := (Below.refl _ _).grown hgr hB (fun k hk => by
    rcases h.2 with ⟨hv, _⟩ | ⟨g, cap, cur, hv, hbg, _⟩
    · rw [hv] at hk; simp [Value.ownBlock] at hk
    · rw [hv] at hk; simp [Value.ownBlock] at hk; omega)
  rcases hown.2 with ⟨hv, h0⟩ | ⟨g, cap, cur, hv, _⟩
  · omega
  · subst hv
    rw [ownBlock_obk] at hgr hat
    rw [ownBlock_obk] at hat
    exact ⟨_, _, w', hrun, hown, hbel, hgr, hat.imp id fun e => ⟨_, e, Nat.le_refl _⟩⟩
section
variable {T E s b : Nat} {z : Value}
theorem step_appX (L : Elt T E s b z) {ops : Array Oper} {o : Oper} {a : Act} {K : Act → World → Prop} {Q : Exit → Act → World → Prop} {w : World} {F : Prop} (hgd : o.guard = none) (x y : Operand)
    (ho : o.op = .call { callee := .builtin .append, args := #[x, y], argTypes := #[T, T] }) (hty : o.type = T)
    (B : Nat) (A : Option Addr) (n c : Nat) (l0 : List Value) (hx : a.eval x = .slice A n c) (h : OwnV E s w B A n c l0) (ad : Addr) (m d : Nat) (l : List Value) (Bs : Nat) (hy : a.eval y = .slice (some ad) m d) (hr : RdV w Bs (some ad) l)
    (hl : l.length = m * s) (hm0 : 0 < m) (h1 : ∀ u ∈ l, u.oneCell' = true) (hb : (n + m) * b ≤ 140737488355328) (hm : n + m ≤ maxLen) (hB : B ≤ w.heap.size)
    (N : Nat) (hN : n + m = N) (M : List Value) (hM : l0 ++ l = M)
    (hK : ∀ A' c' w', OwnV E s w' B A' N c' M → Below B w w' → Grew A A' w w' → K (a.put o.dst (.slice A' N c')) w') : if Region.wanted o (yielded ops a.tmps) = true then Oper.wp Tryz.prog o a w K Q else F := by
  have hw : Region.wanted o (yielded ops a.tmps) = true := by simp [Region.wanted, hgd]
  rw [if_pos hw]
  subst hN; subst hM
  obtain ⟨A', c', w', hrun, h1, h2, h3⟩ := run_appX L w B A n c l0 h ad m d l Bs hr hl hm0 h1 hb hm hB
  unfold Oper.wp execOp
  simp only [ho, hty, resolve, invoke, builtin, Sem.run_bind, Sem.run_pure, Result.andThen_ok, List.map_toArray, List.map_cons, List.map_nil, hx, hy, hrun]
  exact hK A' c' w' h1 h2 h3
theorem wpList_appX (L : Elt T E s b z) {ops : Array Oper} {rest : List Oper} {o : Oper} {a : Act} {Q : Exit → Act → World → Prop} {w : World} (hgd : o.guard = none) (x y : Operand)
    (ho : o.op = .call { callee := .builtin .append, args := #[x, y], argTypes := #[T, T] }) (hty : o.type = T)
    (B : Nat) (A : Option Addr) (n c : Nat) (l0 : List Value) (hx : a.eval x = .slice A n c) (h : OwnV E s w B A n c l0) (ad : Addr) (m d : Nat) (l : List Value) (Bs : Nat) (hy : a.eval y = .slice (some ad) m d) (hr : RdV w Bs (some ad) l)
    (hl : l.length = m * s) (hm0 : 0 < m) (h1 : ∀ u ∈ l, u.oneCell' = true) (hb : (n + m) * b ≤ 140737488355328) (hm : n + m ≤ maxLen) (hB : B ≤ w.heap.size)
    (N : Nat) (hN : n + m = N) (M : List Value) (hM : l0 ++ l = M)
    (hK : ∀ A' c' w', OwnV E s w' B A' N c' M → Below B w w' → Grew A A' w w' → wpList Tryz.prog ops Q rest (a.put o.dst (.slice A' N c')) w') : wpList Tryz.prog ops Q (o :: rest) a w := by
  subst hN; subst hM
  refine wpList_plain hgd fun K hk => ?_
  obtain ⟨A', c', w', hrun, h1, h2, h3⟩ := run_appX L w B A n c l0 h ad m d l Bs hr hl hm0 h1 hb hm hB
  unfold Oper.wp execOp
  simp only [ho, hty, resolve, invoke, builtin, Sem.run_bind, Sem.run_pure, Result.andThen_ok, List.map_toArray, List.map_cons, List.map_nil, hx, hy, hrun]
  exact hk _ _ (hK A' c' w' h1 h2 h3)
end
end Go.Proofs.YtebcfiifaclniaaGreat

/- The places of a node's children: what both answers lean on. -/
namespace Go.Proofs.YtebcfiifaclniaaGreat
open Go.RowKit Tab
set_option linter.unusedSimpArgs false
set_option linter.unusedVariables false

/-- Tables behind one another end where the node's does. -/
theorem pos_fit {l : List Nd} {a : Nat} (h : size l (a : Int) ≠ 0) : ∃ x, l[a]? = some x ∧ fine x = true ∧ ∀ j, j ≤ kn x → pos l (a + 1) j ≤ l.length := by
  obtain ⟨x, k, t, hok, _, h2, h3, h4⟩ := size_tree h
  rw [Int.toNat_natCast] at h3
  have hd : l.drop (a + 1) = k.flat ++ t := by
    rw [← List.drop_drop, h3]
    rfl
  refine ⟨x, ?_, hok.1, fun j hj => (pos_dr hok.2.2.1 hd (by omega) j (by rw [hok.2.1]; exact hj)).2.2.2⟩
  have : (l.drop a)[0]? = some x := by rw [h3]; rfl
  simpa using this
theorem kids_none (l : List Nd) (a : Int) (h : size l a = 0) : kids l a = [] := by unfold kids; rw [if_pos h]
theorem madeI_nil (w w' : World) (hb : Below w.heap.size w w') : MadeI [] w (.returned (.slice none 0 0)) w' := ⟨none, 0, 0, rfl, ⟨rfl, RdV.nil⟩, Nat.le_refl _, hb⟩
end Go.Proofs.YtebcfiifaclniaaGreat
