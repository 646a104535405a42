/- A cursor in memory: its cells; the levels above a leaf. -/
import Derived.Test.YtpjppglaieohlaaTable
import Derived.Test.YtpjppglaieohlaaLeaf
import Derived.StillTailTactics
import Derived.IntWalk
import Derived.BigQuiet
import Derived.Deep.QuietTactic
namespace Go.Proofs.Ytpjppglaieohlaa
open Go.RowKit Tab
set_option linter.unusedSimpArgs false
set_option linter.unusedVariables false

/-- The 37 cells of block b. -/
def Blk (w : World) (b : Nat) (c : Nat → Value) : Prop := ∀ o, o < 37 → w.cell? ⟨b, o, none⟩ = some (c o) ∧ w.frozen? ⟨b, o, none⟩ = false
def upd (c : Nat → Value) (i : Nat) (v : Value) : Nat → Value := fun j => if j = i then v else c j
theorem upd_same (c : Nat → Value) (i : Nat) (v : Value) : upd c i v i = v := if_pos rfl
theorem upd_other {c : Nat → Value} {i j : Nat} {v : Value} (h : j ≠ i) : upd c i v j = c j := if_neg h
section
variable {w w' : World} {b : Nat} {c : Nat → Value}
theorem Blk.set (h : Blk w b c) {i : Nat} (hi : i < 37) (v : Value) : Blk (w.setCell ⟨b, i, none⟩ v) b (upd c i v) := fun o ho => by
  refine ⟨?_, by simpa using (h o ho).2⟩
  by_cases e : o = i
  · subst e
    rw [upd_same]
    exact World.cell?_setCell_same _ _ _ (h o ho).1
  · rw [upd_other e, World.cell?_setCell_other _ _ _ _ (by simp [e])]
    exact (h o ho).1
theorem Blk.drewN (h : Blk w b c) (q : Nat) : Blk (w.drewN q) b c := h
theorem Blk.lt (h : Blk w b c) : b < w.heap.size := World.block_lt_of_cell? w _ (h 0 (by omega)).1
theorem Blk.keep (h : Blk w b c) (hk : w'.heap[b]? = w.heap[b]?) : Blk w' b c := fun o ho => by
  exact ⟨(World.cell?_of_block hk).trans (h o ho).1, (World.frozen?_of_block hk).trans (h o ho).2⟩
theorem gb_set {a : World} {x : Nat} (h : a.grownBy w (some x)) (o : Nat) (v : Value) : a.grownBy (w.setCell ⟨x, o, none⟩ v) (some x) :=
  ⟨h.os, h.tape, h.output, by have := h.size; simpa [World.setCell] using this, fun k hk hne => (Below.heap_setCell w ⟨x, o, none⟩ v k (fun e => hne (by rw [e]))).trans (h.block k hk hne)⟩
theorem gb_refl (w : World) (x : Option Nat) : w.grownBy w x := ⟨rfl, rfl, rfl, Nat.le_refl _, fun _ _ _ => rfl⟩
theorem gb_drew {a : World} {x : Option Nat} (h : a.grownBy w x) : a.grownBy w.drew x := ⟨h.os, h.tape, h.output, h.size, h.block⟩
theorem gb_drewN {a : World} {x : Option Nat} (h : a.grownBy w x) (q : Nat) : a.grownBy (w.drewN q) x := ⟨h.os, h.tape, h.output, h.size, h.block⟩
end
/-- One level more, d being how many there are. -/
def pushC (c : Nat → Value) (d : Nat) (a b : Int) : Nat → Value := upd (upd (upd c (1 + d * 2) (.int .i64 a)) (1 + d * 2 + 1) (.int .i64 b)) 33 (.int .i64 ((d : Int) + 1))
set_option maxRecDepth 100000 in
set_option maxHeartbeats 1600000 in
theorem push_any (b : Nat) (c : Nat → Value) (d : Nat) (x y : Int) (w : World) (h : Blk w b c) (hd : d ≤ 15) (hc : c 33 = .int .i64 (d : Int)) :
    Calls Try.prog 53 #[.pointer (some ⟨b, 1, none⟩), .agg #[.int .i64 x, .int .i64 y]] w fun e w' => e = .returned (.tuple #[]) ∧ Blk w' b (pushC c d x y) ∧ w.grownBy w' (some b) := by
  obtain ⟨W, hW⟩ : ∃ W, W = w.alloc (.cells #[.int .i64 x, .int .i64 y] 69) := ⟨_, rfl⟩
  have hG : w.grownBy W (some b) := by rw [hW]; exact gb_alloc (gb_refl _ _) _
  have hB : Blk W b c := h.keep (by rw [hW]; exact Below.heap_alloc w _ b h.lt)
  have n0 : W.cell? ⟨w.heap.size, 0, none⟩ = some (.int .i64 x) := by rw [hW]; simp [World.cell?_alloc_mark]
  have n1 : W.cell? ⟨w.heap.size, 1, none⟩ = some (.int .i64 y) := by rw [hW]; simp [World.cell?_alloc_mark]
  have HW := Lib.hid hW
  clear hW
  have c33 := (hB 33 (by omega)).1
  rw [hc] at c33
  have f33 := (hB 33 (by omega)).2
  have c1 := (hB (1 + d * 2) (by omega)).1
  have c2 := (hB (1 + d * 2 + 1) (by omega)).1
  have f1 := (hB (1 + d * 2) (by omega)).2
  have f2 := (hB (1 + d * 2 + 1) (by omega)).2
  go_enter Try.func53, Try.ntmps53
  go_wp2_with fail
  rw [← HW.out]
  generalize w.heap.size = g at n0 n1 ⊢
  have hd0 : 0 ≤ (d : Int) := by omega
  have hd1 : (d : Int) < 16 := by omega
  have hd2 : d < 16 := by omega
  go_still_tail 9, (by kernel_rfl)
  change wpList _ _ _ _ _ W.drew
  have q1 : ¬ 33 = 1 + d * 2 := by omega
  have q2 : ¬ 33 = 1 + d * 2 + 1 := by omega
  have q3 : ¬ 1 + d * 2 = 33 := by omega
  have q4 : ¬ 1 + d * 2 + 1 = 33 := by omega
  go_wp2_with fail
  go_end0
  exact ⟨rfl, ((hB.set (i := 1 + d * 2) (by omega) _).set (i := 1 + d * 2 + 1) (by omega) _).set (i := 33) (by omega) _, gb_drew (gb_set (gb_set (gb_set hG _ _) _ _) _ _)⟩
/-- The levels, the innermost first. -/
def StC (c : Nat → Value) : List (Nat × Nat) → Prop
  | [] => True
  | (a, b) :: o => c (1 + o.length * 2) = .int .i64 (a : Int) ∧ c (1 + o.length * 2 + 1) = .int .i64 (b : Int) ∧ StC c o
theorem StC.put {c : Nat → Value} {st : List (Nat × Nat)} (h : StC c st) {i : Nat} (hi : 1 + st.length * 2 ≤ i) (v : Value) : StC (upd c i v) st := by
  induction st with
  | nil => trivial
  | cons e o ih =>
    obtain ⟨a, b⟩ := e
    simp only [List.length_cons] at hi
    exact ⟨by rw [upd_other (by omega)]; exact h.1, by rw [upd_other (by omega)]; exact h.2.1, ih h.2.2 (by omega)⟩
/-- The path's cells: the levels, how many. -/
def PathC (c : Nat → Value) (st : List (Nat × Nat)) : Prop := StC c st ∧ c 33 = .int .i64 (st.length : Int) ∧ st.length ≤ 16
theorem PathC.push {c : Nat → Value} {st : List (Nat × Nat)} (h : PathC c st) (hl : st.length ≤ 15) (a b : Nat) : PathC (pushC c st.length (a : Int) (b : Int)) ((a, b) :: st) := by
  unfold pushC
  refine ⟨⟨?_, ?_, ?_⟩, ?_, by simp only [List.length_cons]; omega⟩
  · rw [upd_other (by omega), upd_other (by omega), upd_same]
  · rw [upd_other (by omega), show 1 + st.length * 2 + 1 = 1 + st.length * 2 + 1 from rfl, upd_same]
  · exact ((h.1.put (by omega) _).put (by omega) _).put (by omega) _
  · rw [upd_same]; simp
theorem pushC_other (c : Nat → Value) (d : Nat) (a b : Int) (hd : d ≤ 15) {j : Nat} (hj : j = 0 ∨ 33 < j) : pushC c d a b j = c j := by
  unfold pushC
  rw [upd_other (by omega), upd_other (by omega), upd_other (by omega)]
/-- But for the path's cells c and c' are the same. -/
def Rest (c c' : Nat → Value) : Prop := c' 0 = c 0 ∧ ∀ j, 33 < j → c' j = c j
theorem Rest.refl (c : Nat → Value) : Rest c c := ⟨rfl, fun _ _ => rfl⟩
theorem Rest.put {c c' : Nat → Value} (h : Rest c c') {i : Nat} (hi : 1 ≤ i) (hi2 : i ≤ 33) (v : Value) : Rest c (upd c' i v) :=
  ⟨by rw [upd_other (by omega)]; exact h.1, fun j hj => by rw [upd_other (by omega)]; exact h.2 j hj⟩
theorem StC.dec {c : Nat → Value} {a b : Nat} {o : List (Nat × Nat)} (h : StC c ((a, b) :: o)) (x : Nat) : StC (upd c (1 + o.length * 2) (.int .i64 (x : Int))) ((x, b) :: o) :=
  ⟨upd_same _ _ _, by rw [upd_other (by omega)]; exact h.2.1, h.2.2.put (by omega) _⟩
/-- How many levels a cell says. -/
def deepOf (w : World) (b : Nat) : Nat := match w.cell? ⟨b, 33, none⟩ with
  | some (.int _ z) => z.toNat
  | _ => 0
theorem deepOf_eq {w : World} {b : Nat} {c : Nat → Value} {d : Nat} (h : Blk w b c) (e : c 33 = .int .i64 (d : Int)) : deepOf w b = d := by
  unfold deepOf
  rw [(h 33 (by omega)).1, e]
  simp
/-- What behind leaves. -/
def Went (b : Nat) (c : Nat → Value) (st : List (Nat × Nat)) (p : Nat) (w : World) (e : Ending) (w' : World) : Prop :=
  e = .returned (.int .i64 ((popm st p).2 : Nat)) ∧ ∃ c', Blk w' b c' ∧ PathC c' (popm st p).1 ∧ Rest c c' ∧ w.grownBy w' (some b)
theorem Went.mk {b : Nat} {c c' : Nat → Value} {st st' : List (Nat × Nat)} {p p' : Nat} {w w' : World} {z : Int} (h : popm st p = (st', p')) (hz : z = (p' : Int)) (hB : Blk w' b c') (hP : PathC c' st') (hR : Rest c c') (hG : w.grownBy w' (some b)) : Went b c st p w (.returned (.int .i64 z)) w' := by
  unfold Went
  rw [h, hz]
  exact ⟨rfl, c', hB, hP, hR, hG⟩
set_option maxRecDepth 100000 in
set_option maxHeartbeats 3200000 in
theorem behind1_any (b : Nat) (c : Nat → Value) (st : List (Nat × Nat)) (p : Nat) (w : World) (h : Blk w b c) (hp : PathC c st) (hb : ∀ e ∈ st, 1 ≤ e.1 ∧ e.1 ≤ 9223372036854775807 ∧ e.2 ≤ 1048576) (hpl : p ≤ 1048576) :
    Calls Try.prog 51 #[.pointer (some ⟨b, 1, none⟩), .int .i64 (p : Int)] w (Went b c st (p + 1) w) := by
  have H := Lib.hid h
  have HP := Lib.hid hp
  have HB := Lib.hid hb
  clear h hp hb
  go_enter Try.func51, Try.ntmps51
  go_wp2_with fail
  go_loopw [] (fun wr => ∃ (c' : Nat → Value) (st' : List (Nat × Nat)), Blk wr b c' ∧ PathC c' st' ∧ popm st' (p + 1) = popm st (p + 1) ∧ (∀ e ∈ st', 1 ≤ e.1 ∧ e.1 ≤ 9223372036854775807 ∧ e.2 ≤ 1048576) ∧ Rest c c' ∧ w.grownBy wr (some b)) (fun wr => deepOf wr b)
  case atStart => exact ⟨c, st, H.out, HP.out, rfl, HB.out, Rest.refl _, gb_refl _ _⟩
  case round =>
    obtain ⟨c', st', hB, hP, hpop, hbd, hR, hG⟩ := hrel
    have HPOP := Lib.hid hpop
    have HBD := Lib.hid hbd
    clear hpop hbd
    obtain ⟨hs, hd, hl⟩ := hP
    have HD := Lib.hid hd
    have c33 := (hB 33 (by omega)).1
    rw [hd] at c33
    have f33 := (hB 33 (by omega)).2
    cases st' with
    | nil =>
      go_wp2_with fail
      go_ret
      exact Went.mk (HPOP.out.symm.trans rfl) (by omega) hB ⟨hs, HD.out, by simp⟩ hR hG
    | cons e o =>
      obtain ⟨a, q⟩ := e
      obtain ⟨b1, b2, b3⟩ := HBD.out (a, q) (by simp)
      dsimp only at b1 b2 b3
      have c1 := (hB (1 + o.length * 2) (by simp at hl; omega)).1
      have c2 := (hB (1 + o.length * 2 + 1) (by simp at hl; omega)).1
      have f1 := (hB (1 + o.length * 2) (by simp at hl; omega)).2
      rw [hs.1] at c1
      rw [hs.2.1] at c2
      simp only [List.length_cons] at c33 hl
      have hs2 := hs.dec (a - 1)
      have HS := Lib.hid hs2
      have HS3 : Hid (StC c' o) := Lib.hid hs.2.2
      clear hs hd hs2
      generalize hod : o.length = d at c33 hl c1 c2 f1 HS
      have HOD := Lib.hid hod
      have q1 : ¬ 33 = 1 + d * 2 := by omega
      have q2 : ¬ 33 = 1 + d * 2 + 1 := by omega
      have q3 : ¬ 1 + d * 2 = 33 := by omega
      have q4 : ¬ 1 + d * 2 + 1 = 33 := by omega
      have hd0 : 0 ≤ (d : Int) := by omega
      have hd1 : (d : Int) < 16 := by omega
      have hd2 : d < 16 := by omega
      have hB1 : ∀ nq, Blk ((wr.drewN nq).setCell ⟨b, 1 + d * 2, none⟩ (.int .i64 ((a : Int) - 1))) b (upd c' (1 + d * 2) (.int .i64 ((a : Int) - 1))) := fun nq => (hB.drewN nq).set (by omega) _
      have hG1 : ∀ nq, w.grownBy ((wr.drewN nq).setCell ⟨b, 1 + d * 2, none⟩ (.int .i64 ((a : Int) - 1))) (some b) := fun nq => gb_set (gb_drewN hG nq) _ _
      have hR1 := hR.put (i := 1 + d * 2) (by omega) (by omega) (.int .i64 ((a : Int) - 1))
      have ea : (a : Int) - 1 = ((a - 1 : Nat) : Int) := by omega
      have HEA := Lib.hid ea
      have HB1 := Lib.hid hB1
      have HBo := Lib.hid hB
      clear hod ea hB1
      by_cases h1 : 1 < a
      · have hc1 : PathC (upd c' (1 + d * 2) (.int .i64 ((a : Int) - 1))) ((a - 1, q) :: o) := ⟨by rw [HEA.out]; exact HS.out, by rw [upd_other (by omega)]; exact HD.out, by simp only [List.length_cons, HOD.out]; omega⟩
        have HC1 := Lib.hid hc1
        clear hc1
        have hd3 : IntKind.i64.wrap ((d : Int) + 1 - 1) = (d : Int) := by rw [IntWalk.i64_in _ (by omega)]; omega
        by_cases hq : 0 < q
        · go_wp2_with fail
          go_quiet (fail)
          go_wp2_with fail
          go_ret
          exact Went.mk (st' := (a - 1, q) :: o) (p' := q) (by rw [← HPOP.out, popm_more _ _ h1, if_pos hq]) rfl (HB1.out _) HC1.out hR1 (hG1 _)
        · go_wp2_with fail
          go_quiet (fail)
          go_wp2_with fail
          go_ret
          exact Went.mk (st' := (a - 1, q) :: o) (p' := p + 1) (by rw [← HPOP.out, popm_more _ _ h1, if_neg hq]) (by omega) (HB1.out _) HC1.out hR1 (hG1 _)
      · have h1' : ¬ 1 < (a : Int) := by omega
        have hd3 : IntKind.i64.wrap ((d : Int) + 1 - 1) = (d : Int) := by rw [IntWalk.i64_in _ (by omega)]; omega
        go_wp2_with fail
        go_quiet (fail)
        go_wp2_with fail
        go_roundw
        case rel =>
          refine ⟨upd (upd c' (1 + d * 2) (.int .i64 ((a : Int) - 1))) 33 (.int .i64 (d : Int)), o, (HB1.out _).set (by omega) _, ⟨?_, by rw [upd_same, HOD.out], by rw [HOD.out]; omega⟩, by rw [← HPOP.out, popm_less _ _ h1], fun e he => HBD.out e (by simp [he]), hR1.put (by omega) (by omega) _, gb_set (hG1 _) _ _⟩
          have h3 := HS3.out
          exact (h3.put (by rw [HOD.out]; omega) _).put (by rw [HOD.out]; omega) _
        case measure =>
          show deepOf _ b < deepOf _ b
          rw [deepOf_eq ((HB1.out _).set (i := 33) (by omega) (.int .i64 (d : Int))) (upd_same _ _ _), deepOf_eq HBo.out HD.out]
          simp only [List.length_cons, HOD.out]
          omega
end Go.Proofs.Ytpjppglaieohlaa
