/- Contracts and mathematics that the texts behind it stand on: Curm, Copb, Inv, Conf, Gsq. -/
import Derived.Test.YtknlhhbkahollaaLow2
import Derived.StillTailTactics
import Derived.IntWalk
import Derived.BigQuiet
import Derived.Deep.QuietTactic
import Derived.Laws.IdiomCopy
import Derived.Orders
import Derived.RegionTactic
import Derived.Below
import Derived.Test.YtknlhhbkahollaaLow1
/- A cursor in memory: its cells; the levels above a leaf. -/
namespace Go.Proofs.Ytknlhhbkahollaa
open Go.RowKit Tab
set_option linter.unusedSimpArgs false
set_option linter.unusedVariables false

/-- The 37 cells of block b. -/
def Blk (w : World) (b : Nat) (c : Nat → Value) : Prop := ∀ o, o < 37 → w.cell? ⟨b, o, none⟩ = some (c o) ∧ w.frozen? ⟨b, o, none⟩ = false
def upd (c : Nat → Value) (i : Nat) (v : Value) : Nat → Value := fun j => if j = i then v else c j
theorem upd_same (c : Nat → Value) (i : Nat) (v : Value) : upd c i v i = v := if_pos rfl
theorem upd_other {c : Nat → Value} {i j : Nat} {v : Value} (h : j ≠ i) : upd c i v j = c j := if_neg h
section
variable {w w' : World} {b : Nat} {c : Nat → Value}
theorem Blk.set (h : Blk w b c) {i : Nat} (hi : i < 37) (v : Value) : Blk (w.setCell ⟨b, i, none⟩ v) b (upd c i v) := fun o ho => by
  refine ⟨?_, by simpa using (h o ho).2⟩
  by_cases e : o = i
  · subst e
    rw [upd_same]
    exact World.cell?_setCell_same _ _ _ (h o ho).1
  · rw [upd_other e, World.cell?_setCell_other _ _ _ _ (by simp [e])]
    exact (h o ho).1
theorem Blk.drewN (h : Blk w b c) (q : Nat) : Blk (w.drewN q) b c := h
theorem Blk.lt (h : Blk w b c) : b < w.heap.size := World.block_lt_of_cell? w _ (h 0 (by omega)).1
theorem Blk.keep (h : Blk w b c) (hk : w'.heap[b]? = w.heap[b]?) : Blk w' b c := fun o ho => by
  exact ⟨(World.cell?_of_block hk).trans (h o ho).1, (World.frozen?_of_block hk).trans (h o ho).2⟩
theorem gb_set {a : World} {x : Nat} (h : a.grownBy w (some x)) (o : Nat) (v : Value) : a.grownBy (w.setCell ⟨x, o, none⟩ v) (some x) :=
  ⟨h.os, h.tape, h.output, by have := h.size; simpa [World.setCell] using this, fun k hk hne => (Below.heap_setCell w ⟨x, o, none⟩ v k (fun e => hne (by rw [e]))).trans (h.block k hk hne)⟩
theorem gb_refl (w : World) (x : Option Nat) : w.grownBy w x := ⟨rfl, rfl, rfl, Nat.le_refl _, fun _ _ _ => rfl⟩
theorem gb_drew {a : World} {x : Option Nat} (h : a.grownBy w x) : a.grownBy w.drew x := ⟨h.os, h.tape, h.output, h.size, h.block⟩
theorem gb_drewN {a : World} {x : Option Nat} (h : a.grownBy w x) (q : Nat) : a.grownBy (w.drewN q) x := ⟨h.os, h.tape, h.output, h.size, h.block⟩
end
/-- One level more, d being how many there are. -/
def pushC (c : Nat → Value) (d : Nat) (a b : Int) : Nat → Value := upd (upd (upd c (1 + d * 2) (.int .i64 a)) (1 + d * 2 + 1) (.int .i64 b)) 33 (.int .i64 ((d : Int) + 1))
/-- The levels, the innermost first. -/
def StC (c : Nat → Value) : List (Nat × Nat) → Prop
  | [] => True
  | (a, b) :: o => c (1 + o.length * 2) = .int .i64 (a : Int) ∧ c (1 + o.length * 2 + 1) = .int .i64 (b : Int) ∧ StC c o
theorem StC.put {c : Nat → Value} {st : List (Nat × Nat)} (h : StC c st) {i : Nat} (hi : 1 + st.length * 2 ≤ i) (v : Value) : StC (upd c i v) st := by
  induction st with
  | nil => trivial
  | cons e o ih =>
    obtain ⟨a, b⟩ := e
    simp only [List.length_cons] at hi
    exact ⟨by rw [upd_other (by omega)]; exact h.1, by rw [upd_other (by omega)]; exact h.2.1, ih h.2.2 (by omega)⟩
/-- The path's cells: the levels, how many. -/
def PathC (c : Nat → Value) (st : List (Nat × Nat)) : Prop := StC c st ∧ c 33 = .int .i64 (st.length : Int) ∧ st.length ≤ 16
theorem PathC.push {c : Nat → Value} {st : List (Nat × Nat)} (h : PathC c st) (hl : st.length ≤ 15) (a b : Nat) : PathC (pushC c st.length (a : Int) (b : Int)) ((a, b) :: st) := by
  unfold pushC
  refine ⟨⟨?_, ?_, ?_⟩, ?_, by simp only [List.length_cons]; omega⟩
  · rw [upd_other (by omega), upd_other (by omega), upd_same]
  · rw [upd_other (by omega), show 1 + st.length * 2 + 1 = 1 + st.length * 2 + 1 from rfl, upd_same]
  · exact ((h.1.put (by omega) _).put (by omega) _).put (by omega) _
  · rw [upd_same]; simp
theorem pushC_other (c : Nat → Value) (d : Nat) (a b : Int) (hd : d ≤ 15) {j : Nat} (hj : j = 0 ∨ 33 < j) : pushC c d a b j = c j := by
  unfold pushC
  rw [upd_other (by omega), upd_other (by omega), upd_other (by omega)]
/-- But for the path's cells c and c' are the same. -/
def Rest (c c' : Nat → Value) : Prop := c' 0 = c 0 ∧ ∀ j, 33 < j → c' j = c j
theorem Rest.refl (c : Nat → Value) : Rest c c := ⟨rfl, fun _ _ => rfl⟩
theorem Rest.put {c c' : Nat → Value} (h : Rest c c') {i : Nat} (hi : 1 ≤ i) (hi2 : i ≤ 33) (v : Value) : Rest c (upd c' i v) :=
  ⟨by rw [upd_other (by omega)]; exact h.1, fun j hj => by rw [upd_other (by omega)]; exact h.2 j hj⟩
theorem StC.dec {c : Nat → Value} {a b : Nat} {o : List (Nat × Nat)} (h : StC c ((a, b) :: o)) (x : Nat) : StC (upd c (1 + o.length * 2) (.int .i64 (x : Int))) ((x, b) :: o) :=
  ⟨upd_same _ _ _, by rw [upd_other (by omega)]; exact h.2.1, h.2.2.put (by omega) _⟩
/-- How many levels a cell says. -/
def deepOf (w : World) (b : Nat) : Nat := match w.cell? ⟨b, 33, none⟩ with
  | some (.int _ z) => z.toNat
  | _ => 0
theorem deepOf_eq {w : World} {b : Nat} {c : Nat → Value} {d : Nat} (h : Blk w b c) (e : c 33 = .int .i64 (d : Int)) : deepOf w b = d := by
  unfold deepOf
  rw [(h 33 (by omega)).1, e]
  simp
/-- What behind leaves. -/
def Went (b : Nat) (c : Nat → Value) (st : List (Nat × Nat)) (p : Nat) (w : World) (e : Ending) (w' : World) : Prop :=
  e = .returned (.int .i64 ((popm st p).2 : Nat)) ∧ ∃ c', Blk w' b c' ∧ PathC c' (popm st p).1 ∧ Rest c c' ∧ w.grownBy w' (some b)
theorem Went.mk {b : Nat} {c c' : Nat → Value} {st st' : List (Nat × Nat)} {p p' : Nat} {w w' : World} {z : Int} (h : popm st p = (st', p')) (hz : z = (p' : Int)) (hB : Blk w' b c') (hP : PathC c' st') (hR : Rest c c') (hG : w.grownBy w' (some b)) : Went b c st p w (.returned (.int .i64 z)) w' := by
  unfold Went
  rw [h, hz]
  exact ⟨rfl, c', hB, hP, hR, hG⟩
end Go.Proofs.Ytknlhhbkahollaa

/- A copy of bools into a row of a call's own; a square out of a matrix. -/
namespace Go.Proofs.Ytknlhhbkahollaa
open Go.RowKit Tab
set_option linter.unusedSimpArgs false
set_option linter.unusedVariables false

def putL (f : Nat → Value) : Nat → List Value → Nat → Value
  | _, [] => f
  | o, v :: r => putL (put1 f o v) (o + 1) r
theorem putL_low (r : List Value) : ∀ (f : Nat → Value) (o j : Nat), j < o → putL f o r j = f j := by
  induction r with
  | nil => intro f o j _; rfl
  | cons v r ih =>
    intro f o j h
    simp only [putL]
    rw [ih _ _ _ (by omega), put1_other (by omega)]
theorem putL_get (r : List Value) : ∀ (f : Nat → Value) (o j : Nat), putL f o r (o + j) = (r[j]?).getD (f (o + j)) := by
  induction r with
  | nil => intro f o j; rfl
  | cons v r ih =>
    intro f o j
    simp only [putL]
    cases j with
    | zero =>
      rw [putL_low _ _ _ _ (by omega)]
      exact put1_same f o v
    | succ j =>
      have := ih (put1 f o v) (o + 1) j
      rw [show o + (j + 1) = o + 1 + j by omega, this, put1_other (by omega)]
      simp
theorem Vec.setCells {g n : Nat} (vs : List Value) : ∀ (w : World) (f : Nat → Value) (o : Nat), Vec w g n f → Vec (w.setCells g o vs) g n (putL f o vs) ∧ w.grownBy (w.setCells g o vs) (some g) := by
  induction vs with
  | nil => intro w f o h; exact ⟨h, gb_refl _ _⟩
  | cons v r ih =>
    intro w f o h
    obtain ⟨h1, h2⟩ := ih _ _ (o + 1) (h.set o v)
    refine ⟨h1, ?_⟩
    have h3 := gb_set (gb_refl w (some g)) o v
    exact ⟨h2.os.trans h3.os, h2.tape.trans h3.tape, h2.output.trans h3.output, Nat.le_trans h3.size h2.size, fun k hk hne => (h2.block k (Nat.lt_of_lt_of_le hk h3.size) hne).trans (h3.block k hk hne)⟩
/-- What a copy leaves. -/
def cpB (f m : Nat → Bool) (li : Nat) (j : Nat) : Bool := if j < li then m j else f j
theorem copy_bools {w : World} {g n : Nat} {f : Nat → Bool} (h : Vec w g n fun j => .bool (f j)) {A : Option Addr} {li c B : Nat} {m : Nat → Bool} (hs : RdC w B A li fun j => .bool (m j)) (hB : B ≤ w.heap.size) :
    ∃ (N : Int) (w' : World), (∀ ty, (Builtin.copy_ #[40, 40] ty #[.slice (some ⟨g, 0, none⟩) n n, .slice A li c]).run Try.prog w = .ok (.int .i64 N) w') ∧ Vec w' g n (fun j => .bool (cpB f m li j)) ∧ w.grownBy w' (some g) := by
  have hu := Try.underlying40
  obtain ⟨i, hi, hz, hsz, hby⟩ := info_parts elB.hi
  have hsize : (Try.prog.info? 4).map (·.size) = some 1 := by rw [hi]; simp [hsz]
  by_cases h0 : Nat.min li n = 0
  · refine ⟨_, w, fun ty => run_copy_none w 40 40 ty 4 (some ⟨g, 0, none⟩) A n n li c hu hsize h0, h.congr fun j hj => ?_, gb_refl _ _⟩
    have : li = 0 := by
      have h1 : min li n = 0 := h0
      omega
    simp [cpB, this]
  · have h1 : 0 < min li n := Nat.pos_of_ne_zero h0
    have hl0 : 0 < li := by omega
    obtain ⟨ad, rfl, _, hc⟩ := hs hl0
    have hlen : ((List.range (min li n)).map fun j => Value.bool (m j)).length = Nat.min li n := by rw [List.length_map, List.length_range]; try rfl
    have hrun := fun ty => run_copy_cells (P := Try.prog) w 40 40 ty 4 g 0 n n ad li c ((List.range (min li n)).map fun j => Value.bool (m j)) hu hsize hlen
      (fun j v hj => by
        obtain ⟨hj1, rfl⟩ := List.getElem?_eq_some_iff.1 hj
        rw [List.length_map, List.length_range] at hj1
        rw [List.getElem_map, List.getElem_range]
        exact hc j (by omega))
      (fun j hj => by
        rw [List.length_map, List.length_range] at hj
        rw [Nat.zero_add, h.cell j (by omega)]; try rfl)
      (fun j hj => h.thaw _)
      (fun v hv => by
        obtain ⟨j, _, rfl⟩ := List.mem_map.1 hv
        rfl)
    obtain ⟨h2, h3⟩ := Vec.setCells ((List.range (min li n)).map fun j => Value.bool (m j)) w _ 0 h
    refine ⟨_, _, hrun, h2.congr fun j hj => ?_, h3⟩
    have := putL_get ((List.range (min li n)).map fun j => Value.bool (m j)) (fun j => .bool (f j)) 0 j
    rw [Nat.zero_add] at this
    rw [this]
    unfold cpB
    by_cases hjl : j < li
    · rw [if_pos hjl, List.getElem?_map, List.getElem?_range (by omega)]; try rfl
    · rw [if_neg hjl, List.getElem?_eq_none (by rw [List.length_map, List.length_range]; omega)]; try rfl
/-- A row of a matrix is turned, nothing else. -/
theorem Mat.turn {w w' : World} {B g n k x : Nat} {G : Nat → Nat} {m : Nat → Nat → Bool} (h : Mat w B g n k G m) {i : Nat} (hi : i < k) (hx : G i = x) (hg : w.grownBy w' (some x)) {b : Nat → Bool} (hv : Vec w' x n fun j => .bool (b j)) :
    Mat w' B g n k G (fun a j => if a = i then b j else m a j) := by
  obtain ⟨f, h1, h2⟩ := h.outer
  have hne : some g ≠ some x := fun e => by injection e with e; exact h.ne i hi (by rw [hx, e])
  refine ⟨⟨f, h1.keep (hg.block g h1.lt hne) hg.size, h2⟩, fun a ha => ?_, h.low, h.ge, h.ne, h.inj⟩
  by_cases e : a = i
  · subst e
    rw [hx]
    simpa using hv
  · have hr := h.rows a ha
    have := hr.keep (hg.block (G a) hr.lt (fun e2 => by injection e2 with e2; exact e (h.inj a i ha hi (by rw [e2, hx])))) hg.size
    simpa [e] using this
end Go.Proofs.Ytknlhhbkahollaa

/- A region that draws its order, by what each of its operations yields: whatever order is drawn. Named here: the model's regions alone, no program. -/
namespace Go.Proofs.Ytknlhhbkahollaa
open Go Go.RowKit
namespace Reg
set_option linter.unusedSimpArgs false

def dstN (ops : Array Oper) (j : Nat) : Tmp := ((ops[j]?).bind (·.dst)).getD 0
def waits (o : Oper) (j : Nat) : Bool := o.after.toList.any fun e => e.on == j && Region.binds .any e
def writes (ops : Array Oper) (t : Tmp) : Bool := ops.toList.any fun o => o.dst == some t
/-- Every operation has a slot of its own, and waits for earlier ones alone. -/
def good (ops : Array Oper) (n : Nat) : Bool :=
  (List.range ops.size).all fun i => match ops[i]? with
    | some o => (match o.dst with
        | some d => decide (d < n) && (List.range ops.size).all fun j => j == i || (match ops[j]? with | some p => !(p.dst == some d) | none => true)
        | none => false) && o.after.toList.all fun e => decide (e.on < i)
    | none => false

theorem good_at {ops : Array Oper} {n : Nat} (h : good ops n = true) {i : Nat} {o : Oper} (hi : ops[i]? = some o) :
    ∃ d, o.dst = some d ∧ d < n ∧ (∀ j p, ops[j]? = some p → j ≠ i → p.dst ≠ some d) ∧ ∀ e ∈ o.after, e.on < i := by
  have hlt : i < ops.size := (Array.getElem?_eq_some_iff.1 hi).1
  have h1 := List.all_eq_true.1 h i (List.mem_range.2 hlt)
  rw [hi] at h1
  simp only [Bool.and_eq_true] at h1
  obtain ⟨h2, h3⟩ := h1
  cases hd : o.dst with
  | none => rw [hd] at h2; cases h2
  | some d =>
    rw [hd] at h2
    simp only [Bool.and_eq_true, decide_eq_true_iff] at h2
    refine ⟨d, rfl, h2.1, fun j p hj hne => ?_, fun e he => ?_⟩
    · have hjl : j < ops.size := (Array.getElem?_eq_some_iff.1 hj).1
      have h4 := List.all_eq_true.1 h2.2 j (List.mem_range.2 hjl)
      rw [hj] at h4
      simp only [Bool.or_eq_true, beq_iff_eq, Bool.not_eq_true', beq_eq_false_iff_ne] at h4
      exact h4.resolve_left hne
    · have := List.all_eq_true.1 h3 e (Array.mem_toList_iff.2 he)
      simpa using this

theorem dst_of {ops : Array Oper} {i : Nat} {o : Oper} {d : Tmp} (hi : ops[i]? = some o) (hd : o.dst = some d) : dstN ops i = d := by
  simp [dstN, hi, hd]

/-- Whoever has come up, those that it waits for have. -/
def Closed (ops : Array Oper) (live : Nat → Bool) : Prop := ∀ j p, ops[j]? = some p → live j = true → ∀ k, waits p k = true → live k = true
structure Inv (ops : Array Oper) (a0 : Act) (V : Nat → Value → World → Prop) (W : World → Prop) (listed : Array Bool) (a : Act) (w : World) : Prop where
  size : a.tmps.size = a0.tmps.size
  defers : a.defers = a0.defers
  env : ∀ t, writes ops t = false → a.eval (.tmp t) = a0.eval (.tmp t)
  val : ∀ j, j < ops.size → listed.getD j false = true → V j (a.eval (.tmp (dstN ops j))) w
  world : W w
  closed : Closed ops fun j => listed.getD j false

theorem eval_same (a : Act) (d : Tmp) (v : Value) (h : d < a.tmps.size) : (a.put (some d) v).eval (.tmp d) = v := by
  simp [Act.eval, Act.put, h]
theorem eval_other (a : Act) (d t : Tmp) (v : Value) (h : d ≠ t) : (a.put (some d) v).eval (.tmp t) = a.eval (.tmp t) := by
  simp [Act.eval, Act.put, Array.getElem?_setIfInBounds_ne h]

/-- What a step owes; live: who has come up. -/
def Owes (live : Nat → Bool) (V : Nat → Value → World → Prop) (W : World → Prop) (i : Nat) (o : Oper) (a : Act) (w : World) (a' : Act) (w' : World) : Prop :=
  ∃ v, a' = a.put o.dst v ∧ V i v w' ∧ W w' ∧ ∀ j v, live j = true → V j v w → V j v w'

theorem Inv.step {ops : Array Oper} {a0 : Act} {V : Nat → Value → World → Prop} {W : World → Prop} {listed : Array Bool} {a a' : Act} {w w' : World} (hg : good ops a0.tmps.size = true)
    {i : Nat} {o : Oper} (hi : ops[i]? = some o) (h : Inv ops a0 V W listed a w) (hr : ∀ k, waits o k = true → listed.getD k false = true) (hs : Owes (fun j => listed.getD j false) V W i o a w a' w') : Inv ops a0 V W (listed.setIfInBounds i true) a' w' := by
  obtain ⟨v, rfl, hv, hw, hm⟩ := hs
  obtain ⟨d, hd, hdn, hdist, _⟩ := good_at hg hi
  have hsz : d < a.tmps.size := by rw [h.size]; exact hdn
  rw [hd]
  refine ⟨by simp [Act.put, h.size], by simp [Act.put, h.defers], fun t ht => ?_, fun j hj hl => ?_, hw, fun j p hj hl k hk => ?_⟩
  · have hne : d ≠ t := by
      rintro rfl
      have : writes ops d = true := List.any_eq_true.2 ⟨o, Array.mem_toList_iff.2 (Array.mem_of_getElem? hi), by simp [hd]⟩
      rw [this] at ht; cases ht
    rw [eval_other _ _ _ _ hne]; exact h.env t ht
  · by_cases hji : j = i
    · subst hji
      rw [dst_of hi hd, eval_same _ _ _ hsz]; exact hv
    · obtain ⟨p, hp⟩ : ∃ p, ops[j]? = some p := ⟨_, Array.getElem?_eq_getElem hj⟩
      obtain ⟨e, he, _⟩ := good_at hg hp
      have hne : d ≠ dstN ops j := by
        rw [dst_of hp he]
        rintro rfl
        exact hdist j p hp hji he
      rw [eval_other _ _ _ _ hne]
      rw [getD_set_ne false (Ne.symm hji)] at hl
      exact hm j _ hl (h.val j hj hl)
  · by_cases hji : j = i
    · subst hji
      rw [hi] at hj
      injection hj with hj
      subst hj
      exact getD_set_true (hr k hk)
    · have hl' : (listed.setIfInBounds i true).getD j false = true := hl
      rw [getD_set_ne false (Ne.symm hji)] at hl'
      exact getD_set_true (h.closed j p hj hl' k hk)

/-- How many have not come up. -/
def left (listed : Array Bool) : Nat := listed.toList.countP (· == false)

theorem left_set {listed : Array Bool} {i : Nat} (h : listed.getD i true = false) : left (listed.setIfInBounds i true) + 1 = left listed := by
  have hlt : i < listed.size := by
    rcases Nat.lt_or_ge i listed.size with h' | h'
    · exact h'
    · simp [Array.getElem?_eq_none h'] at h
  have hi : listed.toList[i]'(by simpa using hlt) = false := by
    simpa [hlt] using h
  unfold left
  rw [Array.toList_setIfInBounds, List.countP_set (by simpa using hlt), hi]
  have : 0 < listed.toList.countP (· == false) := List.countP_pos_iff.2 ⟨false, by rw [← hi]; exact List.getElem_mem _, rfl⟩
  rw [if_pos (by decide), if_neg (by decide)]
  omega

theorem all_listed {ops : Array Oper} {n : Nat} (hg : good ops n = true) {listed : Array Bool} (hs : listed.size = ops.size) (hr : Region.ready .any ops listed = []) :
    ∀ j, j < ops.size → listed.getD j false = true := by
  intro j
  induction j using Nat.strongRecOn with
  | ind j ih =>
    intro hj
    have hjl : j < listed.size := by omega
    cases hb : listed.getD j false with
    | true => rfl
    | false =>
      have hb' : listed.getD j true = false := by
        simpa [hjl] using hb
      obtain ⟨o, ho⟩ : ∃ o, ops[j]? = some o := ⟨_, Array.getElem?_eq_getElem hj⟩
      obtain ⟨_, _, _, _, hacy⟩ := good_at hg ho
      have : j ∈ Region.ready .any ops listed := mem_ready.2 ⟨hb', o, ho, fun e he _ => ih e.on (hacy e he) (by have := hacy e he; omega)⟩
      rw [hr] at this; cases this

/-- What is asked of one operation. -/
def Goal (P : Program) (ops : Array Oper) (Q : Exit → Act → World → Prop) (V : Nat → Value → World → Prop) (W : World → Prop) (i : Nat) (o : Oper) (a : Act) (w : World) : Prop :=
  ∀ live : Nat → Bool, Closed ops live → live i = false → wpOp P ops Q i (Owes live V W i o a w) a w
/-- The whole obligation. -/
def Steps (P : Program) (ops : Array Oper) (Q : Exit → Act → World → Prop) (a0 : Act) (V : Nat → Value → World → Prop) (W : World → Prop) : Prop :=
  ∀ i o, ops[i]? = some o → ∀ (a : Act) (w : World), (∀ t, writes ops t = false → a.eval (.tmp t) = a0.eval (.tmp t)) →
    (∀ j, waits o j = true → V j (a.eval (.tmp (dstN ops j))) w) → W w → Goal P ops Q V W i o a w

theorem any_of {P : Program} {ops : Array Oper} {Q : Exit → Act → World → Prop} {a0 : Act} {V : Nat → Value → World → Prop} {W : World → Prop} (hg : good ops a0.tmps.size = true) (hst : Steps P ops Q a0 V W)
    (hend : ∀ listed a w, Inv ops a0 V W listed a w → (∀ j, j < ops.size → listed.getD j false = true) → Q .normal a w) :
    ∀ (fuel : Nat) (listed : Array Bool) (a : Act) (w : World), listed.size = ops.size → left listed ≤ fuel → Inv ops a0 V W listed a w → wpAny P .any ops Q fuel listed a w := by
  intro fuel
  induction fuel with
  | zero =>
    intro listed a w hs hl h
    have hr : Region.ready .any ops listed = [] := by
      cases hc : Region.ready .any ops listed with
      | nil => rfl
      | cons i r =>
        have hi : i ∈ Region.ready .any ops listed := by rw [hc]; exact List.mem_cons_self
        have := left_set (mem_ready.1 hi).1
        omega
    exact ⟨hr, hend listed a w h (all_listed hg hs hr)⟩
  | succ fuel ih =>
    intro listed a w hs hl h
    refine ⟨fun hr => hend listed a w h (all_listed hg hs hr), fun i hi => ?_⟩
    obtain ⟨h0, o, ho, hall⟩ := mem_ready.1 hi
    have hi' : i < ops.size := (Array.getElem?_eq_some_iff.1 ho).1
    have hwait : ∀ k, waits o k = true → k < i ∧ listed.getD k false = true := fun k hk => by
      obtain ⟨e, he, heq⟩ := List.any_eq_true.1 hk
      have he := Array.mem_toList_iff.1 he
      simp only [Bool.and_eq_true, beq_iff_eq] at heq
      obtain ⟨rfl, hb⟩ := heq
      obtain ⟨_, _, _, _, hacy⟩ := good_at hg ho
      exact ⟨hacy e he, hall e he hb⟩
    have hstep := hst i o ho a w h.env (fun j hj => h.val j (by have := (hwait j hj).1; omega) (hwait j hj).2) h.world (fun j => listed.getD j false) h.closed (by
      have hlt : i < listed.size := by omega
      simpa [hlt] using h0)
    refine wpOp_mono (fun a' w' hw => ?_) hstep
    refine ih _ a' w' (by simpa using hs) ?_ (h.step hg ho (fun k hk => (hwait k hk).2) hw)
    have := left_set h0
    omega

theorem region {P : Program} {id : Nat} {ops : Array Oper} {Q : Exit → Act → World → Prop} {a0 : Act} {w0 : World} (hm : P.follows .mixedOrders = true) (hg : good ops a0.tmps.size = true) (V : Nat → Value → World → Prop) (W : World → Prop)
    (hW : W w0.drew) (hst : Steps P ops Q a0 V W)
    (hend : ∀ a w, a.tmps.size = a0.tmps.size → a.defers = a0.defers → (∀ t, writes ops t = false → a.eval (.tmp t) = a0.eval (.tmp t)) → (∀ j, j < ops.size → V j (a.eval (.tmp (dstN ops j))) w) → W w → Q .normal a w) :
    (Code.region id ops true).wp P Q a0 w0 := by
  refine wp_region_any hm ?_
  refine any_of hg hst (fun listed a w h hall => hend a w h.size h.defers h.env (fun j hj => h.val j hj (hall j hj)) h.world) ops.size (Array.replicate ops.size false) a0 w0.drew (by simp) ?_ ?_
  · unfold left
    have := List.countP_le_length (p := (· == false)) (l := (Array.replicate ops.size false).toList)
    simpa using this
  · refine ⟨rfl, rfl, fun _ _ => rfl, fun j hj hl => ?_, hW, fun j p hj hl k hk => ?_⟩
    · simp [hj] at hl
    · have hjl : j < ops.size := (Array.getElem?_eq_some_iff.1 hj).1
      have hl' : (Array.replicate ops.size false).getD j false = true := hl
      simp [hjl] at hl'

/-- The obligations one by one. -/
def All (F : Nat → Oper → Prop) : Nat → List Oper → Prop
  | _, [] => True
  | i, o :: l => F i o ∧ All F (i + 1) l
theorem All.get {F : Nat → Oper → Prop} (l : List Oper) : ∀ (i : Nat), All F i l → ∀ j o, l[j]? = some o → F (i + j) o := by
  induction l with
  | nil => intro i _ j o hp; simp at hp
  | cons q l ih =>
    intro i h j o hp
    cases j with
    | zero => simp at hp; subst hp; exact h.1
    | succ j =>
      have := ih (i + 1) h.2 j o (by simpa using hp)
      rwa [Nat.add_assoc, Nat.add_comm 1] at this
theorem steps_of {P : Program} {l : List Oper} {Q : Exit → Act → World → Prop} {a0 : Act} {V : Nat → Value → World → Prop} {W : World → Prop}
    (h : All (fun i o => ∀ (a : Act) (w : World), (∀ t, writes l.toArray t = false → a.eval (.tmp t) = a0.eval (.tmp t)) →
      (∀ j, waits o j = true → V j (a.eval (.tmp (dstN l.toArray j))) w) → W w → Goal P l.toArray Q V W i o a w) 0 l) : Steps P l.toArray Q a0 V W := by
  intro i o hi
  have := All.get l 0 h i o (by simpa using hi)
  rwa [Nat.zero_add] at this

section
variable {P : Program} {ops : Array Oper} {Q : Exit → Act → World → Prop} {V : Nat → Value → World → Prop} {W : World → Prop} {i : Nat} {o : Oper} {a : Act} {w : World}
/-- An operation that yields a value, and does nothing else. -/
theorem val (hi : ops[i]? = some o) (hw : Region.wanted o (yielded ops a.tmps) = true) (hW : W w) (v : Value) (hr : (execOp a.eval o).run P w = .ok (.value v) w) (hv : V i v w) : Goal P ops Q V W i o a w := by
  intro live _ _
  unfold wpOp
  rw [hi]
  simp only [hw, if_true]
  refine .inl ?_
  unfold Oper.wp
  rw [hr]
  exact ⟨v, rfl, hv, hW, fun _ _ _ h => h⟩
/-- An operation that yields a value, in another world; what those that have come up yielded is to stand. -/
theorem growL (hi : ops[i]? = some o) (hw : Region.wanted o (yielded ops a.tmps) = true) (v : Value) (w' : World) (hr : (execOp a.eval o).run P w = .ok (.value v) w') (hv : V i v w') (hW : W w')
    (hm : ∀ live : Nat → Bool, Closed ops live → live i = false → ∀ j v, live j = true → V j v w → V j v w') : Goal P ops Q V W i o a w := by
  intro live hc h0
  unfold wpOp
  rw [hi]
  simp only [hw, if_true]
  refine .inl ?_
  unfold Oper.wp
  rw [hr]
  exact ⟨v, rfl, hv, hW, hm live hc h0⟩
theorem grow (hi : ops[i]? = some o) (hw : Region.wanted o (yielded ops a.tmps) = true) (v : Value) (w' : World) (hr : (execOp a.eval o).run P w = .ok (.value v) w') (hv : V i v w') (hW : W w') (hm : ∀ j v, j ≠ i → V j v w → V j v w') : Goal P ops Q V W i o a w :=
  growL hi hw v w' hr hv hW fun live _ h0 j v hj h => hm j v (fun e => by rw [e, h0] at hj; cases hj) h
/-- A call of a Go function. -/
theorem call (hi : ops[i]? = some o) (hw : Region.wanted o (yielded ops a.tmps) = true) (f : FuncId) (args : Array Value) (hr : (execOp a.eval o).run P w = .ok (.enter f args) w)
    (hc : Calls P f args w fun e w' => ∃ v, e = .returned v ∧ V i v w' ∧ W w' ∧ ∀ j v, V j v w → V j v w') : Goal P ops Q V W i o a w := by
  intro live _ _
  unfold wpOp
  rw [hi]
  simp only [hw, if_true]
  refine .inl ?_
  unfold Oper.wp
  rw [hr]
  refine hc.mono fun e w' he => ?_
  obtain ⟨v, rfl, h1, h2, h3⟩ := he
  exact ⟨v, rfl, h1, h2, fun j v _ => h3 j v⟩
/-- An operation whose guard says no. -/
theorem skip (hi : ops[i]? = some o) (hw : Region.wanted o (yielded ops a.tmps) = false) (hW : W w) (hv : V i undef w) : Goal P ops Q V W i o a w := by
  intro live _ _
  unfold wpOp
  rw [hi]
  simp only [hw]
  exact ⟨undef, rfl, hv, hW, fun _ _ _ h => h⟩
/-- Whoever waits for one that has not come up has not either. -/
theorem not_live {live : Nat → Bool} (hc : Closed ops live) {k : Nat} (h : live k = false) {j : Nat} {p : Oper} (hj : ops[j]? = some p) (hw : waits p k = true) : live j = false := by
  cases e : live j with
  | false => rfl
  | true => rw [hc j p hj e k hw] at h; cases h
theorem wanted_free (h : o.guard = none) : Region.wanted o (yielded ops a.tmps) = true := by simp [Region.wanted, h]
theorem wanted_if {g : Nat} {want b : Bool} (h : o.guard = some (g, want)) {t : Tmp} (ht : (ops[g]?).bind (·.dst) = some t) (hv : a.eval (.tmp t) = .bool b) (hb : (b == want) = true) : Region.wanted o (yielded ops a.tmps) = true := by
  have hlt : t < a.tmps.size := by
    rcases Nat.lt_or_ge t a.tmps.size with h' | h'
    · exact h'
    · simp [Act.eval, Array.getElem?_eq_none h', undef] at hv
  have h2 : a.tmps[t]? = some (.bool b) := by
    simpa [Act.eval, hlt] using hv
  simp only [Region.wanted, h, yielded, ht, Option.bind_some, h2]
  have : b = want := by simpa using hb
  simp [this]
end

/-- What a frame says of constants and functions. -/
theorem consts (a : Act) : (∀ v, a.eval (.const v) = v) ∧ (∀ f, a.eval (.func f) = .func (.func f) #[] #[]) := ⟨fun _ => rfl, fun _ => rfl⟩

/-- A frame by its slots. -/
theorem act_lit (a : Act) (n : Nat) (h : a.tmps.size = n) : a = ⟨((List.range n).map fun t => a.eval (.tmp t)).toArray, a.defers⟩ := by
  cases a with
  | mk tmps defers =>
    simp only at h
    congr 1
    apply Array.ext
    · simp [h]
    · intro i h1 h2
      simp [Act.eval, h1]
end Reg
end Go.Proofs.Ytknlhhbkahollaa

/- Partitions and channels in memory; whether one of them may be, by the document's own answer (that it answers). -/
namespace Go.Proofs.Ytknlhhbkahollaa
open Go.RowKit Tab
set_option linter.unusedSimpArgs false
set_option linter.unusedVariables false

/-- A channel, whole. -/
structure ChV where
  from_ : Int
  to_ : Int
  queue : Bool
  cap : Int
  max : Int
  late : Int
/-- A partition, whole; its processes as the slice that holds them. -/
structure PtV where
  name : ByteArray
  bud : Int
  per : Int
  sched : Bool
  stop : Bool
  pa : Option Addr
  pn : Nat
  pc : Nat
  h0 : Int
  h1 : Int
  h2 : Int
  h3 : Int
  h4 : Int
abbrev cv (x : ChV) : Value := .agg #[.int .i64 x.from_, .int .i64 x.to_, .bool x.queue, .int .i64 x.cap, .int .u32 x.max, .int .i64 x.late]
abbrev pv (x : PtV) : Value := .agg #[.string x.name, .int .i64 x.bud, .int .i64 x.per, .bool x.sched, .bool x.stop, .slice x.pa x.pn x.pc, .int .i64 x.h0, .int .i64 x.h1, .int .i64 x.h2, .int .i64 x.h3, .int .i64 x.h4]
/-- It answers yes or no, and leaves what was there. -/
def SomB (w : World) (e : Ending) (w' : World) : Prop := ∃ b, e = .returned (.bool b) ∧ Below w.heap.size w w'
set_option maxRecDepth 100000 in
set_option maxHeartbeats 4000000 in
theorem chanRight_any (x : ChV) (n : Int) (w : World) : Calls Try.prog 57 #[cv x, .int .i64 n] w (SomB w) := by
  obtain ⟨f, t, q, c, m, l⟩ := x
  go_enter Try.func57, Try.ntmps57
  cases q <;> go_wp2 <;> (go_ret; exact ⟨_, rfl, bl1 _ _⟩)
end Go.Proofs.Ytknlhhbkahollaa

/- A square in which each has itself alone; whether a matrix is square; where a row is true; is it a partition. -/
namespace Go.Proofs.Ytknlhhbkahollaa
open Go.RowKit Tab
set_option linter.unusedSimpArgs false
set_option linter.unusedVariables false

set_option maxRecDepth 100000 in
set_option maxHeartbeats 1600000 in
theorem alone_any (n : Nat) (w : World) (hn : n ≤ 1024) : Calls Try.prog 33 #[.int .i64 (n : Int)] w (MadG n (fun i j => decide (i = j)) w) := by
  have hmk := run_makeBB n (by omega)
  have hmb := run_makeB n (by omega)
  obtain ⟨B, hB⟩ : ∃ B, B = w.heap.size := ⟨_, rfl⟩
  have hb0 : Below B w (w.alloc (.cells (madeCells #[.slice none 0 0] n) 40)) := by rw [hB]; exact bl1 w _
  have hM0 := Mat.start w B n (by omega) 40 (fun i j => decide (i = j)) (fun _ => 0)
  have HB := Lib.hid hB
  clear hB
  go_enter Try.func33, Try.ntmps33
  go_wp2_with fail
  generalize w.alloc (.cells (madeCells #[.slice none 0 0] n) 40) = W0 at hb0 hM0 ⊢
  generalize w.heap.size = g at hM0 ⊢
  clear hmk
  go_loopw [4, 9] (fun _ s wr => ∃ (i : Nat) (G : Nat → Nat), i ≤ n ∧ s = .int .i64 i ∧ Mat wr B g n i G (fun i j => decide (i = j)) ∧ Below B w wr) (fun _ s _ => n - (intOf s).toNat)
  case atStart => exact ⟨0, _, by omega, rfl, hM0, hb0⟩
  case round =>
    obtain ⟨i, G, hi, rfl, hM, hb⟩ := hrel
    by_cases hlt : i < n
    · have hbl := bl1 wr (.cells (madeCells #[.bool false] n) 4)
      have hM1 := hM.on hbl
      have hV : Vec (wr.alloc (.cells (madeCells #[.bool false] n) 4)) wr.heap.size n fun _ => .bool false := Vec.lit wr _ _ n _ fun j hj => made_get _ n j hj
      have hgl : g < wr.heap.size := by
        obtain ⟨f, h1, _⟩ := hM.outer
        exact h1.lt
      have hBg := hM.low
      have hb1 := hb.trans (hbl.mono (by omega))
      have hxG : ∀ j, j < i → G j ≠ wr.heap.size := fun j hj => by
        have := (hM.rows j hj).lt
        omega
      obtain ⟨f, hf, _⟩ := hM1.outer
      have d0 := hf.cell i hlt
      have d1 := hf.thaw i
      have hM2 := hM1.push hV (by omega) (by omega) hxG hlt
      have hb2 := hb1.setCell (p := ⟨g, i, none⟩) hBg (.slice (some ⟨wr.heap.size, 0, none⟩) n n)
      obtain ⟨x, hx, _, _, _, _, k0, k1, k2, hst⟩ := hM2.at_ (i := i) (j := i) (by omega) (by omega) hlt
      rw [put1_same] at hx
      subst hx
      have HS := Lib.hid (hst true)
      have HB2 := Lib.hid hb2
      clear hM hM1 hV hb1 hb2 hM2 hst hf hbl hgl hxG hBg
      go_wp2_with fail
      obtain ⟨hM3, hb3⟩ := HS.out
      go_roundw
      case rel => exact ⟨i + 1, _, by omega, by go_num, hM3.congr (fun a b ha hb => by
        unfold put2
        by_cases e : a = i
        · subst e
          by_cases e2 : b = a
          · subst e2; simp
          · simp [e2]; exact fun e => e2 e.symm
        · simp [e]), hb3 _ HB2.out⟩
      case measure => simp [intOf]; omega
    · have hge : n ≤ i := by omega
      obtain rfl : i = n := by omega
      go_wp2_with fail
      go_ret
      exact ⟨g, G, rfl, by rw [← HB.out]; exact hM, by rw [← HB.out]; exact hb⟩
set_option maxRecDepth 100000 in
set_option maxHeartbeats 1600000 in
theorem rsquare_any (n : Nat) (w : World) (hn : n ≤ 1024) : Calls Try.prog 44 #[.int .i64 (n : Int)] w (MadG n (fun i j => decide (i = j)) w) := by
  have hmk := run_makeBB n (by omega)
  have hmb := run_makeB n (by omega)
  obtain ⟨B, hB⟩ : ∃ B, B = w.heap.size := ⟨_, rfl⟩
  have hb0 : Below B w (w.alloc (.cells (madeCells #[.slice none 0 0] n) 40)) := by rw [hB]; exact bl1 w _
  have hM0 := Mat.start w B n (by omega) 40 (fun i j => decide (i = j)) (fun _ => 0)
  have HB := Lib.hid hB
  clear hB
  go_enter Try.func44, Try.ntmps44
  go_wp2_with fail
  generalize w.alloc (.cells (madeCells #[.slice none 0 0] n) 40) = W0 at hb0 hM0 ⊢
  generalize w.heap.size = g at hM0 ⊢
  clear hmk
  go_loopw [4, 9] (fun _ s wr => ∃ (i : Nat) (G : Nat → Nat), i ≤ n ∧ s = .int .i64 i ∧ Mat wr B g n i G (fun i j => decide (i = j)) ∧ Below B w wr) (fun _ s _ => n - (intOf s).toNat)
  case atStart => exact ⟨0, _, by omega, rfl, hM0, hb0⟩
  case round =>
    obtain ⟨i, G, hi, rfl, hM, hb⟩ := hrel
    by_cases hlt : i < n
    · have hbl := bl1 wr (.cells (madeCells #[.bool false] n) 4)
      have hM1 := hM.on hbl
      have hV : Vec (wr.alloc (.cells (madeCells #[.bool false] n) 4)) wr.heap.size n fun _ => .bool false := Vec.lit wr _ _ n _ fun j hj => made_get _ n j hj
      have hgl : g < wr.heap.size := by
        obtain ⟨f, h1, _⟩ := hM.outer
        exact h1.lt
      have hBg := hM.low
      have hb1 := hb.trans (hbl.mono (by omega))
      have hxG : ∀ j, j < i → G j ≠ wr.heap.size := fun j hj => by
        have := (hM.rows j hj).lt
        omega
      obtain ⟨f, hf, _⟩ := hM1.outer
      have d0 := hf.cell i hlt
      have d1 := hf.thaw i
      have hM2 := hM1.push hV (by omega) (by omega) hxG hlt
      have hb2 := hb1.setCell (p := ⟨g, i, none⟩) hBg (.slice (some ⟨wr.heap.size, 0, none⟩) n n)
      obtain ⟨x, hx, _, _, _, _, k0, k1, k2, hst⟩ := hM2.at_ (i := i) (j := i) (by omega) (by omega) hlt
      rw [put1_same] at hx
      subst hx
      have HS := Lib.hid (hst true)
      have HB2 := Lib.hid hb2
      clear hM hM1 hV hb1 hb2 hM2 hst hf hbl hgl hxG hBg
      go_wp2_with fail
      obtain ⟨hM3, hb3⟩ := HS.out
      go_roundw
      case rel => exact ⟨i + 1, _, by omega, by go_num, hM3.congr (fun a b ha hb => by
        unfold put2
        by_cases e : a = i
        · subst e
          by_cases e2 : b = a
          · subst e2; simp
          · simp [e2]; exact fun e => e2 e.symm
        · simp [e]), hb3 _ HB2.out⟩
      case measure => simp [intOf]; omega
    · have hge : n ≤ i := by omega
      obtain rfl : i = n := by omega
      go_wp2_with fail
      go_ret
      exact ⟨g, G, rfl, by rw [← HB.out]; exact hM, by rw [← HB.out]; exact hb⟩
/-- Is each row as long as there are rows? -/
def sqB (n : Nat) (l : Nat → Nat) : Bool := (List.range n).all fun i => decide (l i = n)
theorem sqB_iff {n : Nat} {l : Nat → Nat} : sqB n l = true ↔ ∀ i, i < n → l i = n := by simp [sqB]
set_option maxRecDepth 100000 in
set_option maxHeartbeats 1600000 in
theorem square_any (A : Option Addr) (n c : Nat) (l : Nat → Nat) (m : Nat → Nat → Bool) (w : World) (h : RdM w w.heap.size A n l m) (hn : n ≤ 1024) : Calls Try.prog 30 #[.slice A n c] w (Ans (.bool (sqB n l)) w) := by
  obtain ⟨q, hq⟩ : ∃ q, q = sqB n l := ⟨_, rfl⟩
  have HQ := Lib.hid hq
  rw [← hq]
  clear hq
  go_enter Try.func30, Try.ntmps30
  go_wp2_with fail
  go_loopw [4, 7] (fun _ s wr => ∃ i : Nat, i ≤ n ∧ s = .int .i64 i ∧ wr = w ∧ ∀ j, j < i → l j = n) (fun _ s _ => n - (intOf s).toNat)
  case atStart => exact ⟨0, by omega, rfl, rfl, fun j hj => by omega⟩
  case round =>
    obtain ⟨i, hi, rfl, rfl, hs⟩ := hrel
    have HS := Lib.hid hs
    clear hs
    by_cases hlt : i < n
    · obtain ⟨ad, R, c2, rfl, had, c0, hle, _⟩ := h.at_ hlt
      by_cases hli : l i = n
      · have hli2 : ((l i : Int) != (n : Int)) = false := by rw [hli]; simp
        have HLI := Lib.hid hli
        obtain ⟨z, hz⟩ : ∃ z, z = l i := ⟨_, rfl⟩
        rw [← hz] at c0 hle hli2
        clear hli hz
        go_wp2_with fail
        go_roundw
        case rel => exact ⟨i + 1, by omega, by go_num, by trivial, fun j hj => by
          by_cases e : j = i
          · subst e; exact HLI.out
          · exact HS.out j (by omega)⟩
        case measure => simp [intOf]; omega
      · have hli2 : ((l i : Int) != (n : Int)) = true := bne_iff_ne.2 (by omega)
        have HLI := Lib.hid hli
        obtain ⟨z, hz⟩ : ∃ z, z = l i := ⟨_, rfl⟩
        rw [← hz] at c0 hle hli2
        clear hli hz
        go_wp2_with fail
        go_ret
        refine Ans.mk (congrArg Value.bool ?_) (Below.refl _ _)
        rw [HQ.out, Bool.eq_false_iff]
        intro e
        exact HLI.out (sqB_iff.1 e i hlt)
    · have hge : n ≤ i := by omega
      go_wp2_with fail
      go_ret
      refine Ans.mk (congrArg Value.bool ?_) (Below.refl _ _)
      rw [HQ.out, sqB_iff]
      exact fun j hj => HS.out j (by omega)
/-- It answers a row of numbers of its own. -/
def MadN (l : List Nat) (w : World) (e : Ending) (w' : World) : Prop := ∃ A c, e = .returned (.slice A l.length c) ∧ OwnV 3 1 w' w.heap.size A l.length c (is (l.map fun x : Nat => (x : Int))) ∧ Below w.heap.size w w'
set_option maxRecDepth 100000 in
set_option maxHeartbeats 1600000 in
theorem places_any (A : Option Addr) (n c : Nat) (r : Nat → Bool) (w : World) (h : RdC w w.heap.size A n fun j => .bool (r j)) (hn : n ≤ 1024) : Calls Try.prog 31 #[.slice A n c] w (MadN (plcs n r) w) := by
  go_enter Try.func31, Try.ntmps31
  go_wp2_with fail
  go_loopw [3, 4, 5, 8] (fun q _ _ s wr => ∃ (i k c2 : Nat) (A2 : Option Addr), i ≤ n ∧ s = .int .i64 i ∧ q = .slice A2 k c2 ∧ k ≤ i ∧ OwnV 3 1 wr w.heap.size A2 k c2 (is ((plcs i r).map fun x : Nat => (x : Int))) ∧ Below w.heap.size w wr) (fun _ _ _ s _ => n - (intOf s).toNat)
  case atStart => exact ⟨0, 0, 0, none, by omega, rfl, rfl, by omega, by simpa [plcs, is] using OwnV.nil _ _ _ _, Below.refl _ _⟩
  case round =>
    obtain ⟨i, k, c2, A2, hi, rfl, rfl, hk, how, hb⟩ := hrel
    by_cases hlt : i < n
    · obtain ⟨ad, rfl, had, c0⟩ := h.at_ hlt
      rw [← hb.cell (p := ad.add i) (by rw [add_block]; exact had)] at c0
      have hsz := hb.size
      have hps := plcs_succ i r
      cases hr : r i with
      | false =>
        rw [hr] at c0
        rw [hr, if_neg (by simp)] at hps
        have how2 := how
        rw [← hps] at how2
        have HOW := Lib.hid how2
        clear how how2 hps hr
        go_wp2_with fail
        go_roundw
        case rel => exact ⟨i + 1, k, c2, A2, by omega, by go_num, rfl, by omega, HOW.out, hb⟩
        case measure => simp [intOf]; omega
      | true =>
        rw [hr] at c0
        rw [hr, if_pos rfl] at hps
        have hbl := bl1 wr (.cells #[.int .i64 (i : Int)] 3)
        have how2 := how.below rfl hbl
        have hrd := rdV_new wr #[.int .i64 (i : Int)] 3 (is [(i : Int)]) rfl
        have hb2 := hb.trans (hbl.mono hb.size)
        have HPS := Lib.hid hps
        clear hps hr how hbl
        go_wp2_with (at_builtin; go_loud (refine wpList_appX elI rfl (.tmp 14) (.tmp 16) rfl rfl w.heap.size A2 k c2 _ rfl how2 _ 1 1 _ _ rfl hrd rfl Nat.one_pos (is_one _) (by omega) (by unfold maxLen; omega) hb2.size (k + 1) rfl (is ((plcs (i + 1) r).map fun x : Nat => (x : Int))) (by rw [HPS.out, List.map_append]; exact (is_append _ _).symm) ?_; intro A4 c4 w4 hw4 hb4 hot))
        go_roundw
        case rel => exact ⟨i + 1, k + 1, c4, A4, by omega, by go_num, rfl, by omega, hw4, hb2.trans hb4⟩
        case measure => simp [intOf]; omega
    · have hge : n ≤ i := by omega
      obtain rfl : i = n := by omega
      have hl := how.len
      rw [is_length, List.length_map, Nat.mul_one] at hl
      go_wp2_with fail
      go_ret
      exact ⟨A2, c2, by rw [hl]; rfl, by rw [hl]; exact how, hb⟩
set_option maxHeartbeats 400000 in
theorem has_any (A1 A2 A3 : Option Addr) (n1 n2 n3 c1 c2 c3 : Nat) (p : Int) (w : World) : Calls Try.prog 36 #[.agg #[.slice A1 n1 c1, .slice A2 n2 c2, .slice A3 n3 c3], .int .i64 p] w (Ans (.bool (inP n1 p)) w) := by
  go_enter Try.func36, Try.ntmps36
  go_wp2
  all_goals
    go_ret
    refine Ans.mk (congrArg Value.bool ?_) (bl1 _ _)
    rw [Bool.eq_iff_iff, inP_iff]
    simp only [decide_eq_true_eq, Bool.false_eq_true, iff_false] at *
    omega
set_option maxHeartbeats 400000 in
theorem in_any (A1 A2 A3 : Option Addr) (n1 n2 n3 c1 c2 c3 : Nat) (p : Int) (w : World) : Calls Try.prog 45 #[.agg #[.slice A1 n1 c1, .slice A2 n2 c2, .slice A3 n3 c3], .int .i64 p] w (Ans (.bool (inP n1 p)) w) := by
  go_enter Try.func45, Try.ntmps45
  go_wp2
  all_goals
    go_ret
    refine Ans.mk (congrArg Value.bool ?_) (bl1 _ _)
    rw [Bool.eq_iff_iff, inP_iff]
    simp only [decide_eq_true_eq, Bool.false_eq_true, iff_false] at *
    omega
end Go.Proofs.Ytknlhhbkahollaa
