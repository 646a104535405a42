/- Contracts and mathematics that the texts behind it stand on: Next, Table, Curm, Enter, Cur, Rlv, Reset, Runl, Tidyw. -/
import Derived.Test.YtcdgofdnafbacaaLow1
import Derived.IntWalk
import Derived.BigQuiet
import Derived.Deep.QuietTactic
import Derived.StillTailTactics
import Derived.Laws.ResultCell
import Derived.Test.YtcdgofdnafbacaaLow2
import Derived.Deep.RegionWith
import Derived.Great.BuildSlice
import Derived.Laws.OwnMore
/- A tape of numbers: the next one, held between. -/
namespace Go.Proofs.Ytcdgofdnafbacaa
open Go.RowKit
set_option linter.unusedSimpArgs false
set_option linter.unusedVariables false

def wv (n : Int) (m : Nat) : Int := if 0 ≤ n ∧ n ≤ m then n else if n.tmod (m + 1) < 0 then n.tmod (m + 1) + m + 1 else n.tmod (m + 1)
theorem wv_bd (n : Int) (m : Nat) : 0 ≤ wv n m ∧ wv n m ≤ m := by
  unfold wv
  split
  · omega
  · by_cases h : 0 ≤ n
    · have e : n.tmod ((m : Int) + 1) = n % ((m : Int) + 1) := Int.tmod_eq_emod_of_nonneg h
      have h2 := Int.emod_nonneg n (b := (m : Int) + 1) (by omega)
      have h3 := Int.emod_lt_of_pos n (b := (m : Int) + 1) (by omega)
      rw [e, if_neg (by omega)]
      omega
    · obtain ⟨h2, h3⟩ := tmod_low n m (by omega)
      split <;> omega
set_option maxRecDepth 100000 in
set_option maxHeartbeats 400000 in
theorem within_eq (n : Int) (m : Nat) (w : World) (hm : m < 4611686018427387904) :
    Calls Try.prog 16 #[.int .i64 n, .int .i64 0, .int .i64 m] w fun e w' => e = .returned (.int .i64 (wv n m)) ∧ w' = w := by
  generalize hv : wv n m = v
  have HV := Lib.hid hv
  clear hv
  have hm0 : (0 : Int) ≤ (m : Int) := Int.natCast_nonneg _
  by_cases h0 : 0 ≤ n
  · by_cases h1 : n ≤ (m : Int)
    · go_enter Try.func16, Try.ntmps16
      go_wp2
      go_ret
      exact ⟨by rw [← HV.out, wv, if_pos ⟨h0, h1⟩]; rfl, rfl⟩
    · have h2 := Int.emod_nonneg n (b := (m : Int) + 1) (by omega)
      have h3 : n % ((m : Int) + 1) ≤ m := by have := Int.emod_lt_of_pos n (b := (m : Int) + 1) (by omega); omega
      go_enter Try.func16, Try.ntmps16
      go_wp2
      go_ret
      refine ⟨?_, rfl⟩
      have e : n.tmod ((m : Int) + 1) = n % ((m : Int) + 1) := Int.tmod_eq_emod_of_nonneg h0
      rw [← HV.out, wv, if_neg (by omega), e, if_neg (by omega)]
      simp
  · obtain ⟨h2, h3⟩ := tmod_low n m (by omega)
    by_cases h4 : n.tmod ((m : Int) + 1) < 0
    · go_enter Try.func16, Try.ntmps16
      go_wp2
      go_ret
      refine ⟨?_, rfl⟩
      rw [← HV.out, wv, if_neg (by omega), if_pos h4]
      simp
    · go_enter Try.func16, Try.ntmps16
      go_wp2
      go_ret
      refine ⟨?_, rfl⟩
      rw [← HV.out, wv, if_neg (by omega), if_neg (by omega)]
      simp
/-- A tape in block b: the numbers f lie below block B. -/
structure TapeW (w : World) (B b : Nat) (A : Option Addr) (m c : Nat) (f : Nat → Int) (at_ : Nat) : Prop where
  rd : RdC w B A m (fun j => .int .i64 (f j))
  low : B ≤ b
  c0 : w.cell? ⟨b, 0, none⟩ = some (.slice A m c)
  c1 : w.cell? ⟨b, 1, none⟩ = some (.int .i64 (at_ : Int))
  fr : w.frozen? ⟨b, 1, none⟩ = false
  le : at_ ≤ m
/-- The next number of the tape, below n; no block but the tape's has turned. -/
def Nexts (B b : Nat) (A : Option Addr) (m c : Nat) (f : Nat → Int) (n : Nat) (w : World) (e : Ending) (w' : World) : Prop :=
  ∃ k at_ : Nat, k < n ∧ e = .returned (.int .i64 (k : Int)) ∧ TapeW w' B b A m c f at_ ∧ w.grownBy w' (some b)
set_option maxRecDepth 100000 in
set_option maxHeartbeats 1600000 in
theorem next_any (B b : Nat) (A : Option Addr) (m c : Nat) (f : Nat → Int) (at_ n : Nat) (w : World) (h : TapeW w B b A m c f at_) (hn : 1 ≤ n) (hn2 : n ≤ 64) (hm : m ≤ 140737488351232) :
    Calls Try.prog 24 #[.pointer (some ⟨b, 0, none⟩), .int .i64 (n : Int)] w (Nexts B b A m c f n w) := by
  have H := Lib.hid h
  have c0 := h.c0
  have c1 := h.c1
  have hle := h.le
  clear h
  by_cases hlt : at_ < m
  · obtain ⟨ad, rfl, hab, hcell⟩ := H.out.rd.at_ hlt
    have hfr := H.out.fr
    have hlow := H.out.low
    have hF : ∀ q, TapeW ((w.drewN q).setCell ⟨b, 1, none⟩ (.int .i64 ((at_ : Int) + 1))) B b (some ad) m c f (at_ + 1) ∧ w.grownBy ((w.drewN q).setCell ⟨b, 1, none⟩ (.int .i64 ((at_ : Int) + 1))) (some b) := fun q => by
      have hbl := World.block_lt_of_cell? w _ c1
      refine ⟨⟨H.out.rd.keep fun p hp => ?_, hlow, ?_, ?_, ?_, by omega⟩, ⟨rfl, rfl, rfl, by simp [World.setCell], fun k hk hne => ?_⟩⟩
      · exact World.cell?_of_block (Below.heap_setCell (w.drewN q) ⟨b, 1, none⟩ _ p.block (fun e => by dsimp only at e; omega))
      · rw [World.cell?_setCell_other _ _ _ _ (by simp)]; exact c0
      · exact World.cell?_setCell_same _ _ _ (u := .int .i64 (at_ : Int)) c1
      · simp; exact hfr
      · exact Below.heap_setCell (w.drewN q) ⟨b, 1, none⟩ _ k (fun e => hne (by rw [e]))
    have F := Lib.hid hF
    clear hF
    have hmd : decide (m ≤ at_) = false := decide_eq_false (by omega)
    go_enter Try.func24, Try.ntmps24
    go_wp2_with fail
    go_quiet (fail)
    go_wp2_with fail
    obtain ⟨T1, G1⟩ := F.out nq
    generalize (w.drewN nq).setCell ⟨b, 1, none⟩ (.int .i64 ((at_ : Int) + 1)) = w1 at T1 G1 ⊢
    have d0 := T1.c0
    have d1 : w1.cell? ⟨b, 1, none⟩ = some (.int .i64 ((at_ : Int) + 1)) := T1.c1
    obtain ⟨ad', e, _, dcell⟩ := T1.rd.at_ hlt
    injection e with e
    subst e
    clear c0 c1 hcell hfr
    have hwr : IntKind.i64.wrap ((at_ : Int) + 1 - 1) = (at_ : Int) := by rw [IntWalk.i64_in _ (by omega)]; omega
    have hwb := wv_bd (f at_) 1073741824
    have hW := within_eq (f at_) 1073741824
    generalize wv (f at_) 1073741824 = z at hwb hW
    obtain ⟨Z, rfl⟩ := Int.eq_ofNat_of_zero_le hwb.1
    have hrem : ¬ n = 0 := by omega
    have HW := Lib.hid hW
    clear hW
    go_quiet ((go_at_call 16; exact Calls.quiet_of_same (HW.out _ (by decide))))
    go_wp2_with fail
    go_ret
    exact ⟨Z % n, at_ + 1, Nat.mod_lt _ (by omega), by rw [Int.natCast_emod]; rfl, ⟨T1.rd, T1.low, T1.c0, T1.c1, T1.fr, T1.le⟩, ⟨G1.os, G1.tape, G1.output, G1.size, G1.block⟩⟩
  · have hmd : decide (m ≤ at_) = true := decide_eq_true (by omega)
    have F : Hid (∀ q, TapeW (w.drewN q) B b A m c f at_ ∧ w.grownBy (w.drewN q) (some b)) := Lib.hid fun q => by
      have h := H.out
      exact ⟨⟨h.rd, h.low, h.c0, h.c1, h.fr, h.le⟩, ⟨rfl, rfl, rfl, Nat.le_refl _, fun _ _ _ => rfl⟩⟩
    go_enter Try.func24, Try.ntmps24
    go_wp2_with fail
    go_quiet (fail)
    go_wp2_with fail
    go_ret
    exact ⟨0, at_, by omega, rfl, (F.out _).1, (F.out _).2⟩
end Go.Proofs.Ytcdgofdnafbacaa

/- A table that is made of a tape of numbers is one. -/
namespace Go.Proofs.Ytcdgofdnafbacaa
open Go.RowKit Tab
set_option linter.unusedSimpArgs false
set_option linter.unusedVariables false

theorem next_at (B b : Nat) (A : Option Addr) (m c : Nat) (f : Nat → Int) (at_ n : Nat) (N : Int) (w : World) (h : TapeW w B b A m c f at_) (hN : N = (n : Int)) (hn : 1 ≤ n) (hn2 : n ≤ 64) (hm : m ≤ 140737488351232) :
    Calls Try.prog 24 #[.pointer (some ⟨b, 0, none⟩), .int .i64 N] w (Nexts B b A m c f n w) := by
  subst hN
  exact next_any B b A m c f at_ n w h hn hn2 hm
theorem TapeW.lt {w : World} {B b : Nat} {A : Option Addr} {m c : Nat} {f : Nat → Int} {at_ : Nat} (h : TapeW w B b A m c f at_) : b < w.heap.size := World.block_lt_of_cell? w _ h.c0
theorem TapeW.below {w w' : World} {B b : Nat} {A : Option Addr} {m c : Nat} {f : Nat → Int} {at_ : Nat} (h : TapeW w B b A m c f at_) {Bs : Nat} (hb : Below Bs w w') (hlt : b < Bs) : TapeW w' B b A m c f at_ :=
  ⟨h.rd.keep fun p hp => hb.cell (by have := h.low; omega), h.low, (hb.cell (p := ⟨b, 0, none⟩) hlt).trans h.c0, (hb.cell (p := ⟨b, 1, none⟩) hlt).trans h.c1, (hb.frozen (p := ⟨b, 1, none⟩) hlt).trans h.fr, h.le⟩
theorem gb_trans {a w w' : World} {x : Option Nat} (h : a.grownBy w x) (k : w.grownBy w' x) : a.grownBy w' x :=
  ⟨k.os.trans h.os, k.tape.trans h.tape, k.output.trans h.output, Nat.le_trans h.size k.size, fun i hi hne => (k.block i (Nat.lt_of_lt_of_le hi h.size) hne).trans (h.block i hi hne)⟩
theorem gb_below {a w w' : World} {x : Option Nat} {B : Nat} (h : a.grownBy w x) (k : Below B w w') (hB : a.heap.size ≤ B) : a.grownBy w' x :=
  ⟨k.os.trans h.os, k.tape.trans h.tape, k.output.trans h.output, Nat.le_trans h.size k.size, fun i hi hne => (k.block i (by omega)).trans (h.block i hi hne)⟩
theorem gb_alloc {a w : World} {x : Option Nat} (h : a.grownBy w x) (o : Obj) : a.grownBy (w.alloc o) x := gb_below h (bl1 w o) h.size
theorem ndIn_mk {k p n : Int} (hk : 0 ≤ k ∧ k ≤ 9) (hp : 0 ≤ p ∧ p ≤ 9) (hn : 0 ≤ n ∧ n ≤ 1048576) : NdIn ⟨k, p, n⟩ := by
  unfold NdIn In64
  dsimp only
  omega
/-- A table, new, of no more than X nodes, no deeper than D; what was there is as it was. -/
def TabD (X D : Nat) (w : World) (e : Ending) (w' : World) : Prop :=
  ∃ (x : Nd) (k : F) (A' : Option Addr) (n' c' : Nat), e = .returned (.slice A' n' c') ∧ (F.cons x k .nil).ok ∧ RdN w' w'.heap.size A' n' (x :: k.flat) ∧ n' ≤ c' ∧ k.sz + 1 ≤ X ∧ k.dep ≤ D ∧ Below w.heap.size w w'
/-- A table, new, of no more than X nodes; what was there is as it was. -/
def TabB (X : Nat) (w : World) (e : Ending) (w' : World) : Prop :=
  ∃ (x : Nd) (k : F) (A' : Option Addr) (n' c' : Nat), e = .returned (.slice A' n' c') ∧ (F.cons x k .nil).ok ∧ RdN w' w'.heap.size A' n' (x :: k.flat) ∧ n' ≤ c' ∧ k.sz + 1 ≤ X ∧ Below w.heap.size w w'
theorem tape_boxed (A : Option Addr) (n cap : Nat) (f : Nat → Int) (w : World) (h : RdC w w.heap.size A n fun j => .int .i64 (f j)) : TapeW (w.alloc (.cells #[.slice A n cap, .int .i64 0] 27)) w.heap.size w.heap.size A n cap f 0 :=
  ⟨h.keep fun p hp => World.cell?_alloc_lt w _ p hp, Nat.le_refl _, by simp [World.cell?_alloc_mark], by simp [World.cell?_alloc_mark], by simp, Nat.zero_le _⟩
theorem gb_boxed {w w1 : World} {o : Obj} (h : (w.alloc o).grownBy w1 (some w.heap.size)) : Below w.heap.size w w1 :=
  (bl1 w o).trans ⟨h.os, h.tape, h.output, h.size, fun i hi => h.block i (by simp; omega) (fun e => by injection e with e; omega)⟩
/-- Bits held by a mask. -/
theorem and_mask (a : Int) (m : Nat) (hm : m < 9223372036854775808) : ∃ M : Nat, bits .and .i64 a (m : Int) = (M : Int) ∧ M ≤ m := by
  refine ⟨(BitVec.ofInt 64 a &&& BitVec.ofInt 64 (m : Int)).toNat, ?_, ?_⟩
  · have h : (BitVec.ofInt 64 a &&& BitVec.ofInt 64 (m : Int)).toNat ≤ m := by
      rw [BitVec.toNat_and]
      refine Nat.le_trans Nat.and_le_right ?_
      rw [BitVec.ofInt_natCast, BitVec.toNat_ofNat]
      exact Nat.mod_le _ _
    show IntKind.i64.wrap ((BitVec.ofInt 64 a &&& BitVec.ofInt 64 (m : Int)).toNat : Int) = _
    rw [IntKind.wrap_i64]
    omega
  · rw [BitVec.toNat_and]
    refine Nat.le_trans Nat.and_le_right ?_
    rw [BitVec.ofInt_natCast, BitVec.toNat_ofNat]
    exact Nat.mod_le _ _
end Go.Proofs.Ytcdgofdnafbacaa

/- A cursor in memory: its cells; the levels above a leaf. -/
namespace Go.Proofs.Ytcdgofdnafbacaa
open Go.RowKit Tab
set_option linter.unusedSimpArgs false
set_option linter.unusedVariables false

/-- The 37 cells of block b. -/
def Blk (w : World) (b : Nat) (c : Nat → Value) : Prop := ∀ o, o < 37 → w.cell? ⟨b, o, none⟩ = some (c o) ∧ w.frozen? ⟨b, o, none⟩ = false
def upd (c : Nat → Value) (i : Nat) (v : Value) : Nat → Value := fun j => if j = i then v else c j
theorem upd_same (c : Nat → Value) (i : Nat) (v : Value) : upd c i v i = v := if_pos rfl
theorem upd_other {c : Nat → Value} {i j : Nat} {v : Value} (h : j ≠ i) : upd c i v j = c j := if_neg h
section
variable {w w' : World} {b : Nat} {c : Nat → Value}
theorem Blk.set (h : Blk w b c) {i : Nat} (hi : i < 37) (v : Value) : Blk (w.setCell ⟨b, i, none⟩ v) b (upd c i v) := fun o ho => by
  refine ⟨?_, by simpa using (h o ho).2⟩
  by_cases e : o = i
  · subst e
    rw [upd_same]
    exact World.cell?_setCell_same _ _ _ (h o ho).1
  · rw [upd_other e, World.cell?_setCell_other _ _ _ _ (by simp [e])]
    exact (h o ho).1
theorem Blk.drewN (h : Blk w b c) (q : Nat) : Blk (w.drewN q) b c := h
theorem Blk.lt (h : Blk w b c) : b < w.heap.size := World.block_lt_of_cell? w _ (h 0 (by omega)).1
theorem Blk.keep (h : Blk w b c) (hk : w'.heap[b]? = w.heap[b]?) : Blk w' b c := fun o ho => by
  exact ⟨(World.cell?_of_block hk).trans (h o ho).1, (World.frozen?_of_block hk).trans (h o ho).2⟩
theorem gb_set {a : World} {x : Nat} (h : a.grownBy w (some x)) (o : Nat) (v : Value) : a.grownBy (w.setCell ⟨x, o, none⟩ v) (some x) :=
  ⟨h.os, h.tape, h.output, by have := h.size; simpa [World.setCell] using this, fun k hk hne => (Below.heap_setCell w ⟨x, o, none⟩ v k (fun e => hne (by rw [e]))).trans (h.block k hk hne)⟩
theorem gb_refl (w : World) (x : Option Nat) : w.grownBy w x := ⟨rfl, rfl, rfl, Nat.le_refl _, fun _ _ _ => rfl⟩
theorem gb_drew {a : World} {x : Option Nat} (h : a.grownBy w x) : a.grownBy w.drew x := ⟨h.os, h.tape, h.output, h.size, h.block⟩
theorem gb_drewN {a : World} {x : Option Nat} (h : a.grownBy w x) (q : Nat) : a.grownBy (w.drewN q) x := ⟨h.os, h.tape, h.output, h.size, h.block⟩
end
/-- One level more, d being how many there are. -/
def pushC (c : Nat → Value) (d : Nat) (a b : Int) : Nat → Value := upd (upd (upd c (1 + d * 2) (.int .i64 a)) (1 + d * 2 + 1) (.int .i64 b)) 33 (.int .i64 ((d : Int) + 1))
/-- The levels, the innermost first. -/
def StC (c : Nat → Value) : List (Nat × Nat) → Prop
  | [] => True
  | (a, b) :: o => c (1 + o.length * 2) = .int .i64 (a : Int) ∧ c (1 + o.length * 2 + 1) = .int .i64 (b : Int) ∧ StC c o
theorem StC.put {c : Nat → Value} {st : List (Nat × Nat)} (h : StC c st) {i : Nat} (hi : 1 + st.length * 2 ≤ i) (v : Value) : StC (upd c i v) st := by
  induction st with
  | nil => trivial
  | cons e o ih =>
    obtain ⟨a, b⟩ := e
    simp only [List.length_cons] at hi
    exact ⟨by rw [upd_other (by omega)]; exact h.1, by rw [upd_other (by omega)]; exact h.2.1, ih h.2.2 (by omega)⟩
/-- The path's cells: the levels, how many. -/
def PathC (c : Nat → Value) (st : List (Nat × Nat)) : Prop := StC c st ∧ c 33 = .int .i64 (st.length : Int) ∧ st.length ≤ 16
theorem PathC.push {c : Nat → Value} {st : List (Nat × Nat)} (h : PathC c st) (hl : st.length ≤ 15) (a b : Nat) : PathC (pushC c st.length (a : Int) (b : Int)) ((a, b) :: st) := by
  unfold pushC
  refine ⟨⟨?_, ?_, ?_⟩, ?_, by simp only [List.length_cons]; omega⟩
  · rw [upd_other (by omega), upd_other (by omega), upd_same]
  · rw [upd_other (by omega), show 1 + st.length * 2 + 1 = 1 + st.length * 2 + 1 from rfl, upd_same]
  · exact ((h.1.put (by omega) _).put (by omega) _).put (by omega) _
  · rw [upd_same]; simp
theorem pushC_other (c : Nat → Value) (d : Nat) (a b : Int) (hd : d ≤ 15) {j : Nat} (hj : j = 0 ∨ 33 < j) : pushC c d a b j = c j := by
  unfold pushC
  rw [upd_other (by omega), upd_other (by omega), upd_other (by omega)]
/-- But for the path's cells c and c' are the same. -/
def Rest (c c' : Nat → Value) : Prop := c' 0 = c 0 ∧ ∀ j, 33 < j → c' j = c j
theorem Rest.refl (c : Nat → Value) : Rest c c := ⟨rfl, fun _ _ => rfl⟩
theorem Rest.put {c c' : Nat → Value} (h : Rest c c') {i : Nat} (hi : 1 ≤ i) (hi2 : i ≤ 33) (v : Value) : Rest c (upd c' i v) :=
  ⟨by rw [upd_other (by omega)]; exact h.1, fun j hj => by rw [upd_other (by omega)]; exact h.2 j hj⟩
theorem StC.dec {c : Nat → Value} {a b : Nat} {o : List (Nat × Nat)} (h : StC c ((a, b) :: o)) (x : Nat) : StC (upd c (1 + o.length * 2) (.int .i64 (x : Int))) ((x, b) :: o) :=
  ⟨upd_same _ _ _, by rw [upd_other (by omega)]; exact h.2.1, h.2.2.put (by omega) _⟩
/-- How many levels a cell says. -/
def deepOf (w : World) (b : Nat) : Nat := match w.cell? ⟨b, 33, none⟩ with
  | some (.int _ z) => z.toNat
  | _ => 0
theorem deepOf_eq {w : World} {b : Nat} {c : Nat → Value} {d : Nat} (h : Blk w b c) (e : c 33 = .int .i64 (d : Int)) : deepOf w b = d := by
  unfold deepOf
  rw [(h 33 (by omega)).1, e]
  simp
/-- What behind leaves. -/
def Went (b : Nat) (c : Nat → Value) (st : List (Nat × Nat)) (p : Nat) (w : World) (e : Ending) (w' : World) : Prop :=
  e = .returned (.int .i64 ((popm st p).2 : Nat)) ∧ ∃ c', Blk w' b c' ∧ PathC c' (popm st p).1 ∧ Rest c c' ∧ w.grownBy w' (some b)
theorem Went.mk {b : Nat} {c c' : Nat → Value} {st st' : List (Nat × Nat)} {p p' : Nat} {w w' : World} {z : Int} (h : popm st p = (st', p')) (hz : z = (p' : Int)) (hB : Blk w' b c') (hP : PathC c' st') (hR : Rest c c') (hG : w.grownBy w' (some b)) : Went b c st p w (.returned (.int .i64 z)) w' := by
  unfold Went
  rw [h, hz]
  exact ⟨rfl, c', hB, hP, hR, hG⟩
end Go.Proofs.Ytcdgofdnafbacaa

/- A cursor in memory: from a node down to its first leaf. -/
namespace Go.Proofs.Ytcdgofdnafbacaa
open Go.RowKit Tab
set_option linter.unusedSimpArgs false
set_option linter.unusedVariables false

/-- The cursor's table, below its block. -/
structure Tb (w : World) (b : Nat) (A : Option Addr) (n cap : Nat) (l : List Nd) : Prop where
  rd : RdN w b A n l
  cap : n ≤ cap
  hn : n ≤ 128
theorem RdN.gb {w w' : World} {b n : Nat} {A : Option Addr} {l : List Nd} (h : RdN w b A n l) (hb : b ≤ w.heap.size) (hg : w.grownBy w' (some b)) : RdN w' b A n l :=
  ⟨h.len, h.rd.keep fun p hp => World.cell?_of_block (hg.block p.block (by omega) (fun e => by injection e with e; omega)), h.bd⟩
theorem Tb.gb {w w' : World} {b n cap : Nat} {A : Option Addr} {l : List Nd} (h : Tb w b A n cap l) (hb : b ≤ w.heap.size) (hg : w.grownBy w' (some b)) : Tb w' b A n cap l := ⟨h.rd.gb hb hg, h.cap, h.hn⟩
theorem Tb.drewN {w : World} {b n cap : Nat} {A : Option Addr} {l : List Nd} (h : Tb w b A n cap l) (q : Nat) : Tb (w.drewN q) b A n cap l := ⟨⟨h.rd.len, h.rd.rd, h.rd.bd⟩, h.cap, h.hn⟩
def atOf (w : World) (b : Nat) : Nat := match w.cell? ⟨b, 34, none⟩ with
  | some (.int _ z) => z.toNat
  | _ => 0
theorem atOf_eq {w : World} {b : Nat} {c : Nat → Value} {d : Nat} (h : Blk w b c) (e : c 34 = .int .i64 (d : Int)) : atOf w b = d := by
  unfold atOf
  rw [(h 34 (by omega)).1, e]
  simp
/-- What enter leaves. -/
def Entd (b : Nat) (A : Option Addr) (n cap : Nat) (l : List Nd) (c : Nat → Value) (td : List Rn) (w : World) (e : Ending) (w' : World) : Prop :=
  e = .returned (.tuple #[]) ∧ ∃ (c' : Nat → Value) (st : List (Nat × Nat)) (p : Nat), Blk w' b c' ∧ PathC c' st ∧ c' 34 = .int .i64 (p : Int) ∧ c' 0 = c 0 ∧ c' 35 = c 35 ∧ c' 36 = c 36 ∧ AtL l st p td ∧ w.grownBy w' (some b)
end Go.Proofs.Ytcdgofdnafbacaa

/- A cursor in memory: what is left of its leaf, taking of it, the next leaf, the next tick. -/
namespace Go.Proofs.Ytcdgofdnafbacaa
open Go.RowKit Tab
set_option linter.unusedSimpArgs false
set_option linter.unusedVariables false

/-- A cursor over the table l at block b: the leaves td are to come, of the first tk ticks are taken; gn are gone. -/
structure Cur (w : World) (b : Nat) (A : Option Addr) (n cap : Nat) (l : List Nd) (td : List Rn) (tk gn : Nat) : Prop where
  tb : Tb w b A n cap l
  ex : ∃ (c : Nat → Value) (st : List (Nat × Nat)) (p : Nat), Blk w b c ∧ PathC c st ∧ c 0 = .slice A n cap ∧ c 34 = .int .i64 (p : Int) ∧ c 35 = .int .i64 (tk : Int) ∧ c 36 = .int .i64 (gn : Int) ∧ AtL l st p td
  low : ∀ r s, td = r :: s → tk < r.n
  low0 : td = [] → tk = 0
  sum : gn + ticks td ≤ 1048576 + tk
  pos : ∀ r ∈ td, 1 ≤ r.n
theorem Cur.lt {w : World} {b : Nat} {A : Option Addr} {n cap : Nat} {l : List Nd} {td : List Rn} {tk gn : Nat} (h : Cur w b A n cap l td tk gn) : b < w.heap.size := by
  obtain ⟨c, st, p, hB, _⟩ := h.ex
  exact hB.lt
theorem Cur.below {w w' : World} {b : Nat} {A : Option Addr} {n cap : Nat} {l : List Nd} {td : List Rn} {tk gn : Nat} (h : Cur w b A n cap l td tk gn) (hb : Below w.heap.size w w') : Cur w' b A n cap l td tk gn := by
  obtain ⟨c, st, p, hB, r⟩ := h.ex
  have hlt := hB.lt
  exact ⟨⟨⟨h.tb.rd.len, h.tb.rd.rd.keep fun q hq => World.cell?_of_block (hb.block q.block (by omega)), h.tb.rd.bd⟩, h.tb.cap, h.tb.hn⟩, ⟨c, st, p, hB.keep (hb.block b hlt), r⟩, h.low, h.low0, h.sum, h.pos⟩
theorem Below.drewN {B : Nat} {w w' : World} (h : Below B w w') (q : Nat) : Below B w (w'.drewN q) := ⟨h.os, h.tape, h.output, h.size, h.block⟩
/-- The run that is left: of none -1, 0. -/
def leftR : List Rn → Nat → Rn
  | [], _ => ⟨-1, 0⟩
  | r :: _, tk => ⟨r.p, r.n - tk⟩
abbrev rv (p n : Int) : Value := .agg #[.int .i64 p, .int .i64 n]
theorem loadVar_run {w : World} {g : Nat} {x y : Int} (h0 : w.cell? ⟨g, 0, none⟩ = some (.int .i64 x)) (h1 : w.cell? ⟨g, 1, none⟩ = some (.int .i64 y)) : (loadVar 31 ⟨g, 0, none⟩).run Try.prog w = .ok (rv x y) w := by
  have e : (isAgg 31).run Try.prog w = .ok true w := by go_simp
  have e2 : (sizeOf 31).run Try.prog w = .ok 2 w := by go_simp
  unfold loadVar
  rw [Sem.run_bind, e, Result.andThen_ok]
  simp only [if_true]
  rw [Sem.run_bind, e2, Result.andThen_ok, Sem.run_bind]
  have := run_loadCells_list (P := Try.prog) (w := w) ⟨g, 0, none⟩ [.int .i64 x, .int .i64 y] (fun j v hj => by
    match j with
    | 0 => simp at hj; subst hj; simpa [Addr.add] using h0
    | 1 => simp at hj; subst hj; simpa [Addr.add] using h1
    | j + 2 => simp at hj)
  simp only [List.length_cons, List.length_nil] at this
  rw [this, Result.andThen_ok]
  rfl
theorem results_cell1 {fn : Func} {p : Tmp} {ty : TypeId} (h : fn.results = #[.cell p ty]) (tmps : Array Value) (P : Program) (w : World) :
    (results fn tmps).run P w = ((asAddr (tmps.getD p undef)).run P w).andThen fun a w₁ => (loadVar ty a).run P w₁ := by
  simp only [results, h]
  simp [Sem.run_bind, Result.andThen]
theorem results_run {fn : Func} {p : Tmp} (h : fn.results = #[.cell p 31]) {tmps : Array Value} {w : World} {g : Nat} {x y : Int} (hp : tmps.getD p undef = .pointer (some ⟨g, 0, none⟩)) (h0 : w.cell? ⟨g, 0, none⟩ = some (.int .i64 x)) (h1 : w.cell? ⟨g, 1, none⟩ = some (.int .i64 y)) :
    (results fn tmps).run Try.prog w = .ok (rv x y) w := by
  have e : (asAddr (.pointer (some ⟨g, 0, none⟩))).run Try.prog w = .ok ⟨g, 0, none⟩ w := rfl
  rw [results_cell1 h, hp, e, Result.andThen_ok, loadVar_run h0 h1]
theorem results_run2 {fn : Func} {p q : Tmp} (h : fn.results = #[.cell p 31, .tmp q]) {tmps : Array Value} {w : World} {g : Nat} {x y : Int} (hp : tmps.getD p undef = .pointer (some ⟨g, 0, none⟩)) (h0 : w.cell? ⟨g, 0, none⟩ = some (.int .i64 x)) (h1 : w.cell? ⟨g, 1, none⟩ = some (.int .i64 y)) :
    (results fn tmps).run Try.prog w = .ok (.tuple #[rv x y, tmps.getD q undef]) w := by
  have e : (asAddr (.pointer (some ⟨g, 0, none⟩))).run Try.prog w = .ok ⟨g, 0, none⟩ w := rfl
  rw [results_cell_tmp h, hp, e, Result.andThen_ok, loadVar_run h0 h1, Result.andThen_ok]
end Go.Proofs.Ytcdgofdnafbacaa

/- The leaves of a table that is right, by the document's own answer. -/
namespace Go.Proofs.Ytcdgofdnafbacaa
open Go.RowKit Tab
set_option linter.unusedSimpArgs false
set_option linter.unusedVariables false

/-- It answers a row of runs, new. -/
def MadeR (L : List Rn) (w : World) (e : Ending) (w' : World) : Prop := ∃ A c, e = .returned (.slice A L.length c) ∧ RdR w' w'.heap.size A L.length L ∧ L.length ≤ c ∧ Below w.heap.size w w' ∧ ∀ ad, A = some ad → w.heap.size ≤ ad.block
theorem OwnV.rdr {w : World} {B n c : Nat} {A : Option Addr} {L : List Rn} (h : OwnV 31 2 w B A n c (rs L)) : RdR w w.heap.size A n L := ⟨by have := h.len; rw [rs_length] at this; omega, h.rd⟩
end Go.Proofs.Ytcdgofdnafbacaa

/- A cursor in memory: back to the beginning. -/
namespace Go.Proofs.Ytcdgofdnafbacaa
open Go.RowKit Tab
set_option linter.unusedSimpArgs false
set_option linter.unusedVariables false

/-- Noughts from cell o on, so many. -/
def zr (c : Nat → Value) (o m : Nat) : Nat → Value := fun j => if o ≤ j ∧ j < o + m then .int .i64 0 else c j
theorem zr_in {c : Nat → Value} {o m j : Nat} (h : o ≤ j ∧ j < o + m) : zr c o m j = .int .i64 0 := if_pos h
theorem zr_out {c : Nat → Value} {o m j : Nat} (h : ¬ (o ≤ j ∧ j < o + m)) : zr c o m j = c j := if_neg h
theorem zr_step (c : Nat → Value) (o m : Nat) : zr (upd c o (.int .i64 0)) (o + 1) m = zr c o (m + 1) := by
  funext j
  by_cases h1 : o + 1 ≤ j ∧ j < o + 1 + m
  · rw [zr_in h1, zr_in (by omega)]
  · rw [zr_out h1]
    by_cases h2 : j = o
    · subst h2
      rw [upd_same, zr_in (by omega)]
    · rw [upd_other h2, zr_out (by omega)]
theorem run_zeros (b m : Nat) : ∀ (i : Nat) (c : Nat → Value) (a w : World), Blk w b c → 1 + i + m ≤ 37 → a.grownBy w (some b) → ∃ w', (storeCells ⟨b, 1, none⟩ (List.replicate m (.int .i64 0)) i).run Try.prog w = .ok () w' ∧ Blk w' b (zr c (1 + i) m) ∧ a.grownBy w' (some b) := by
  induction m with
  | zero =>
    intro i c a w h hi hg
    refine ⟨w, rfl, ?_, hg⟩
    have : zr c (1 + i) 0 = c := by
      funext j
      exact zr_out (by omega)
    rw [this]
    exact h
  | succ m ih =>
    intro i c a w h hi hg
    have hadd : (⟨b, 1, none⟩ : Addr).add i = ⟨b, 1 + i, none⟩ := by unfold Addr.add; split <;> simp_all
    obtain ⟨w', h1, h2, h3⟩ := ih (i + 1) _ a _ (h.set (i := 1 + i) (by omega) (.int .i64 0)) (by omega) (gb_set hg _ _)
    refine ⟨w', ?_, ?_, h3⟩
    · rw [List.replicate_succ]
      have hst : (store ((⟨b, 1, none⟩ : Addr).add i) (.int .i64 0)).run Try.prog w = .ok () (w.setCell ⟨b, 1 + i, none⟩ (.int .i64 0)) := by
        rw [hadd, run_store Try.prog w _ _ _ rfl, (h (1 + i) (by omega)).1, (h (1 + i) (by omega)).2]
        rfl
      simp only [storeCells, Sem.run_bind, hst, Result.andThen_ok]
      exact h1
    · rw [← zr_step, show 1 + i + 1 = 1 + (i + 1) by omega]
      exact h2
/-- A cursor goes on in block b alone, of those that were there. -/
theorem Cur.gb {w w' : World} {b b' : Nat} {A : Option Addr} {n cap : Nat} {l : List Nd} {td : List Rn} {tk gn : Nat} (h : Cur w b A n cap l td tk gn) (hg : w.grownBy w' (some b')) (hb : b < b') : Cur w' b A n cap l td tk gn := by
  obtain ⟨c, st, p, hB, r⟩ := h.ex
  have hlt := hB.lt
  exact ⟨⟨⟨h.tb.rd.len, h.tb.rd.rd.keep fun q hq => World.cell?_of_block (hg.block q.block (by omega) (fun e => by injection e with e; omega)), h.tb.rd.bd⟩, h.tb.cap, h.tb.hn⟩, ⟨c, st, p, hB.keep (hg.block b hlt (fun e => by injection e with e; omega)), r⟩, h.low, h.low0, h.sum, h.pos⟩
theorem gb_bl {a w w' : World} {x : Option Nat} (h : a.grownBy w x) (k : Below w.heap.size w w') : a.grownBy w' x := gb_below h k h.size
end Go.Proofs.Ytcdgofdnafbacaa

/- Rows of runs beside a cursor. -/
namespace Go.Proofs.Ytcdgofdnafbacaa
open Go.RowKit Tab
set_option linter.unusedSimpArgs false
set_option linter.unusedVariables false

theorem RdR.at_gb {w w' : World} {b n : Nat} {A : Option Addr} {L : List Rn} (h : RdR w w.heap.size A n L) (hg : w.grownBy w' (some b)) (hf : ∀ ad, A = some ad → ad.block ≠ b) {i : Nat} (hi : i < n) : ∃ (ad : Addr) (r : Rn), A = some ad ∧ L[i]? = some r ∧
    w'.cell? (ad.add (i * 2)) = some (.int .i64 r.p) ∧ w'.cell? ⟨(ad.add (i * 2)).block, (ad.add (i * 2)).off + 1, none⟩ = some (.int .i64 (r.n : Int)) := by
  obtain ⟨ad, r, rfl, hlt, hr, c0, c1⟩ := h.at_ hi
  have hk : w'.heap[ad.block]? = w.heap[ad.block]? := hg.block _ hlt (fun e => by injection e with e; exact hf ad rfl e)
  exact ⟨ad, r, rfl, hr, (World.cell?_of_block (by rw [add_block]; exact hk)).trans c0, (World.cell?_of_block (a := ⟨(ad.add (i * 2)).block, (ad.add (i * 2)).off + 1, none⟩) (by rw [add_block]; exact hk)).trans c1⟩
theorem take_more {L : List Rn} {i : Nat} {r : Rn} (h : L[i]? = some r) : ticks (L.take (i + 1)) = ticks (L.take i) + r.n := by
  obtain ⟨hi, e⟩ := List.getElem?_eq_some_iff.1 h
  rw [List.take_succ_eq_append_getElem hi, ticks_append, e]
  simp [ticks]
theorem drop_more {L : List Rn} {i : Nat} {r : Rn} (h : L[i]? = some r) : L.drop i = r :: L.drop (i + 1) := by
  obtain ⟨hi, e⟩ := List.getElem?_eq_some_iff.1 h
  rw [List.drop_eq_getElem_cons hi, e]
theorem take_ticks (L : List Rn) (i : Nat) : ticks (L.take i) ≤ ticks L := by
  have := ticks_append (L.take i) (L.drop i)
  rw [List.take_append_drop] at this
  omega
end Go.Proofs.Ytcdgofdnafbacaa

/- Tidying a row of runs in memory, by the program. -/
namespace Go.Proofs.Ytcdgofdnafbacaa
open Go.RowKit Tab
set_option linter.unusedSimpArgs false
set_option linter.unusedVariables false

theorem tidy_take_ticks (L : List Rn) (i : Nat) : ticks (tidy (L.take i)) ≤ ticks L := by rw [ticks_tidy]; exact take_ticks L i
theorem tidy_one {L : List Rn} {i : Nat} {o : List Rn} {y r : Rn} (hr : L[i]? = some r) (ho : tidy (L.take i) = o ++ [y]) : y.n + r.n ≤ ticks L := by
  have h1 := tidy_take_ticks L (i + 1)
  rw [tidy_more hr, ho, ticks_push, ticks_append] at h1
  simp only [ticks] at h1
  omega
/-- The last run of a row of the call's own. -/
structure LastR (W : World) (B : Nat) (ad : Addr) (k c : Nat) (o : List Rn) (y : Rn) : Prop where
  g : ∃ g, ad = ⟨g, 0, none⟩ ∧ OwnV 31 2 W B (some ⟨g, 0, none⟩) (k + 1) c (rs (o ++ [y]))
  len : o.length = k
  c0 : W.cell? (ad.add (k * 2)) = some (.int .i64 y.p)
  c1 : W.cell? ⟨(ad.add (k * 2)).block, (ad.add (k * 2)).off + 1, none⟩ = some (.int .i64 (y.n : Int))
  f1 : W.frozen? ⟨(ad.add (k * 2)).block, (ad.add (k * 2)).off + 1, none⟩ = false
  lt : ad.block < W.heap.size
theorem add_two (g k : Nat) : (⟨((⟨g, 0, none⟩ : Addr).add (k * 2)).block, ((⟨g, 0, none⟩ : Addr).add (k * 2)).off + 1, none⟩ : Addr) = ⟨g, k * 2 + 1, none⟩ := by
  unfold Addr.add
  split
  · rename_i h
    rw [h]
  · simp
theorem add_one' (g k : Nat) : (⟨g, 0, none⟩ : Addr).add k = ⟨g, k, none⟩ := by
  unfold Addr.add
  split
  · rename_i h
    rw [h]
  · simp
theorem LastR.of {W : World} {B m c : Nat} {A : Option Addr} {o : List Rn} {y : Rn} (h : OwnV 31 2 W B A m c (rs (o ++ [y]))) : ∃ (ad : Addr) (k : Nat), A = some ad ∧ m = k + 1 ∧ LastR W B ad k c o y := by
  have hl := h.len
  rw [rs_length, List.length_append, List.length_singleton] at hl
  obtain ⟨k, hk⟩ : ∃ k, o.length = k := ⟨_, rfl⟩
  have hm : m = k + 1 := by omega
  subst hm
  obtain ⟨g, rfl, hg, hlt⟩ := h.block (by omega)
  have hget : (o ++ [y])[k]'(by simp; omega) = y := by
    simp [← hk]
  obtain ⟨e0, e1⟩ := rs_get (o ++ [y]) k (by simp; omega)
  rw [hget] at e0 e1
  refine ⟨_, k, rfl, rfl, ⟨g, rfl, h⟩, hk, ?_, ?_, ?_, hlt⟩
  · rw [add_one']
    exact (World.ownsRow.cellAt h (k * 2) (by omega)).trans e0
  · rw [add_two]
    exact (World.ownsRow.cellAt h (k * 2 + 1) (by omega)).trans e1
  · rw [add_two]
    exact World.ownsRow.frozenAt h _
/-- More ticks for the last one. -/
theorem LastR.stored {W : World} {B k c : Nat} {ad : Addr} {o : List Rn} {y : Rn} (h : LastR W B ad k c o y) (N : Nat) :
    OwnV 31 2 (W.setCell ⟨(ad.add (k * 2)).block, (ad.add (k * 2)).off + 1, none⟩ (.int .i64 (N : Int))) B (some ad) (k + 1) c (rs (o ++ [⟨y.p, N⟩])) ∧
      ∀ V, Below B V W → Below B V (W.setCell ⟨(ad.add (k * 2)).block, (ad.add (k * 2)).off + 1, none⟩ (.int .i64 (N : Int))) := by
  obtain ⟨g, rfl, hw⟩ := h.g
  rw [add_two]
  have h1 := (World.ownsRow.stored hw (k * 2 + 1) (.int .i64 (N : Int))).1
  have e : (rs (o ++ [y])).set (k * 2 + 1) (.int .i64 (N : Int)) = rs (o ++ [⟨y.p, N⟩]) := by
    rw [rs_append, rs_append, List.set_append_right _ _ (by rw [rs_length, h.len]; omega), rs_length, h.len]
    have : k * 2 + 1 - k * 2 = 1 := by omega
    rw [this]
    rfl
  rw [e] at h1
  refine ⟨h1, fun V hV => ?_⟩
  have hge : B ≤ g := by
    obtain ⟨g', e', hb, _⟩ := OwnV.block hw (by omega)
    injection e' with e'
    injection e' with e'
    omega
  exact hV.setCell (p := ⟨g, k * 2 + 1, none⟩) hge _
theorem LastR.drewN {W : World} {B k c : Nat} {ad : Addr} {o : List Rn} {y : Rn} (h : LastR W B ad k c o y) (q : Nat) : LastR (W.drewN q) B ad k c o y := ⟨h.g, h.len, h.c0, h.c1, h.f1, h.lt⟩
theorem LastR.drew {W : World} {B k c : Nat} {ad : Addr} {o : List Rn} {y : Rn} (h : LastR W B ad k c o y) : LastR W.drew B ad k c o y := ⟨h.g, h.len, h.c0, h.c1, h.f1, h.lt⟩

set_option maxRecDepth 100000 in
set_option maxHeartbeats 4000000 in
theorem tidy_any (A : Option Addr) (n cap : Nat) (L : List Rn) (w : World) (h : RdR w w.heap.size A n L) (hc : n ≤ cap) (hn : n ≤ 1048576) (ht : ticks L ≤ 1099511627776) :
    Calls Try.prog 32 #[.slice A n cap] w (MadeR (tidy L) w) := by
  go_enter Try.func32, Try.ntmps32
  go_wp2_with fail
  go_loopw [3, 9] (fun q s wr => ∃ (i m c' : Nat) (A' : Option Addr), i ≤ n ∧ s = .int .i64 i ∧ q = .slice A' m c' ∧ m ≤ i ∧ OwnV 31 2 wr w.heap.size A' m c' (rs (tidy (L.take i))) ∧ Below w.heap.size w wr) (fun _ s _ => n - (intOf s).toNat)
  case atStart => exact ⟨0, 0, 0, none, by omega, rfl, rfl, by omega, by simpa [tidy, tidyOn, rs] using OwnV.nil _ _ _ _, Below.refl _ _⟩
  case round =>
    obtain ⟨i, m, c', A', hi, rfl, rfl, hm, how, hb⟩ := hrel
    have HOW := Lib.hid how
    clear how
    by_cases hlt : i < n
    · obtain ⟨ad, r, rfl, had, hr, c0, c1⟩ := (h.on hb).at_ hlt
      have hmore := tidy_more hr
      have hcs := tpush_cases (tidy (L.take i)) r
      rw [← hmore] at hcs
      have hbl := bl1 wr (.cells #[.int .i64 r.p, .int .i64 (r.n : Int)] 31)
      have hb1 := hb.trans (hbl.mono hb.size)
      have hle := tidy_take_le L (i + 1)
      have how1 := HOW.out.below rfl hbl
      have hsum : ∀ o y, tidy (L.take i) = o ++ [y] → y.n + r.n ≤ ticks L := fun o y e => tidy_one hr e
      generalize tidy (L.take i) = T at HOW hcs how1 hsum
      generalize hT1 : tidy (L.take (i + 1)) = T1 at hcs hle
      have HT1 := Lib.hid hT1
      have HB1 := Lib.hid hb1
      clear hT1 hmore hr hbl hb1 HOW
      rcases hcs with ⟨h0, e⟩ | ⟨h0, e0, e⟩ | ⟨o, y, h0, e0, hp, e⟩ | ⟨o, y, h0, e0, hp, e⟩
      · have hr1 : (r.n : Int) < 1 := by omega
        subst e
        have HOW1 := Lib.hid how1
        clear how1 hsum h0
        go_wp2_with fail
        go_roundw
        case rel => exact ⟨i + 1, m, c', A', by omega, by go_num, rfl, by omega, by rw [HT1.out]; exact HOW1.out, HB1.out⟩
        case measure => simp [intOf]; omega
      · subst e0
        have hm0 : m = 0 := by have := how1.len; simp [rs] at this; omega
        subst hm0
        have hr1 : ¬ (r.n : Int) < 1 := by omega
        subst e
        clear hsum h0
        go_wp2_with fail
        go_quiet (fail)
        have hW0 : Below wr.heap.size wr ((wr.alloc (.cells #[.int .i64 r.p, .int .i64 (r.n : Int)] 31)).drewN nq) := Below.drewN (bl1 wr _) nq
        have hs0 : wr.heap.size < ((wr.alloc (.cells #[.int .i64 r.p, .int .i64 (r.n : Int)] 31)).drewN nq).heap.size := by simp
        have b0 : ((wr.alloc (.cells #[.int .i64 r.p, .int .i64 (r.n : Int)] 31)).drewN nq).cell? ⟨wr.heap.size, 0, none⟩ = some (.int .i64 r.p) := World.cell?_alloc_mark _ _ _ _ _
        have b1 : ((wr.alloc (.cells #[.int .i64 r.p, .int .i64 (r.n : Int)] 31)).drewN nq).cell? ⟨wr.heap.size, 1, none⟩ = some (.int .i64 (r.n : Int)) := World.cell?_alloc_mark _ _ _ _ _
        have how2 : OwnV 31 2 ((wr.alloc (.cells #[.int .i64 r.p, .int .i64 (r.n : Int)] 31)).drewN nq) w.heap.size A' 0 c' (rs []) := how1.keep fun _ _ _ => rfl
        generalize (wr.alloc (.cells #[.int .i64 r.p, .int .i64 (r.n : Int)] 31)).drewN nq = W at hW0 hs0 b0 b1 how2 ⊢
        have how3 := how2.below rfl (bl1 W (.cells #[.int .i64 r.p, .int .i64 (r.n : Int)] 31))
        have hrd := rdV_new W #[.int .i64 r.p, .int .i64 (r.n : Int)] 31 (rs [r]) rfl
        have hbW := (hb.trans (hW0.mono hb.size)).alloc (by have := hb.size; omega) (.cells #[.int .i64 r.p, .int .i64 (r.n : Int)] 31)
        have hn1 : 0 + 1 ≤ 1048577 := by omega
        clear how1 how2 c0 c1
        go_wp2_with (at_builtin; go_loud (refine wpList_appV elR rfl (.tmp 43) (.tmp 45) rfl rfl w.heap.size _ _ c' _ rfl how3 _ 1 1 _ _ rfl hrd rfl (rs_one _) (by omega) (by unfold maxLen; omega) hbW.size (0 + 1) rfl (rs ([] ++ [r])) (rs_append _ _).symm ?_; intro A2 c2 w2 hw2 hb2 _))
        go_roundw
        case rel => exact ⟨i + 1, _, c2, A2, by omega, by go_num, rfl, by omega, by rw [HT1.out]; exact hw2, hbW.trans hb2⟩
        case measure => simp [intOf]; omega
      · subst e0
        have hr1 : ¬ (r.n : Int) < 1 := by omega
        have hs1 := hsum o y rfl
        obtain ⟨ad', k, rfl, rfl, hL⟩ := LastR.of how1
        obtain ⟨yp, yn⟩ := y
        obtain ⟨rp, rn⟩ := r
        dsimp only at hp hr1 hs1 c0 c1 e h0 ⊢
        subst hp
        have HL := Lib.hid hL
        have d0 := hL.c0
        have d1 := hL.c1
        have d2 := hL.f1
        have d3 := hL.lt
        dsimp only at d0 d1 d2 d3
        clear hsum h0 hL how1
        go_wp2_with fail
        go_quiet (fail)
        go_wp2_with fail
        have hbW := hb.trans ((Below.drewN (bl1 wr (.cells #[.int .i64 yp, .int .i64 (rn : Int)] 31)) nq).mono hb.size)
        have b1 : ((wr.alloc (.cells #[.int .i64 yp, .int .i64 (rn : Int)] 31)).drewN nq).cell? ⟨wr.heap.size, 1, none⟩ = some (.int .i64 (rn : Int)) := World.cell?_alloc_mark _ _ _ _ _
        have HL2 := Lib.hid (HL.out.drewN nq)
        have d1 := HL2.out.c1
        have d2 := HL2.out.f1
        have d3 := HL2.out.lt
        dsimp only at d1 d2 d3
        have HB2 := Lib.hid hbW
        clear HL d0 c0 c1 hbW HB1
        generalize (wr.alloc (.cells #[.int .i64 yp, .int .i64 (rn : Int)] 31)).drewN nq = W at b1 HL2 d1 d2 d3 HB2 ⊢
        generalize wr.heap.size = gx at b1 ⊢
        have hmr := more_any (yn : Int) (rn : Int) _ _ W.drew (by omega) (by omega) (by omega) rfl rfl
        have hkk : (k : Int) < (k : Int) + 1 := by omega
        go_still_tail 12, (by kernel_rfl)
        still_call hmr
        repeat still_step
        refine wpStill_nil ?_
        change wpList _ _ _ _ _ W.drew
        go_wp2_with fail
        obtain ⟨hw5, hb5⟩ := (HL2.out.drew).stored (yn + rn)
        rw [Int.natCast_add] at hw5 hb5
        rw [← e] at hw5
        go_roundw
        case rel => exact ⟨i + 1, _, c', some ad', by omega, by go_num, rfl, by omega, by rw [HT1.out]; exact hw5, hb5 _ HB2.out.drew⟩
        case measure => simp [intOf]; omega
      · subst e0
        have hr1 : ¬ (r.n : Int) < 1 := by omega
        obtain ⟨ad', k, rfl, rfl, hL⟩ := LastR.of how1
        have hpb : (y.p == r.p) = false := beq_eq_false_iff_ne.2 hp
        have d0 := hL.c0
        have d3 := hL.lt
        subst e
        clear hsum h0 hL hp
        go_wp2_with fail
        go_quiet (fail)
        have hW0 : Below wr.heap.size wr ((wr.alloc (.cells #[.int .i64 r.p, .int .i64 (r.n : Int)] 31)).drewN nq) := Below.drewN (bl1 wr _) nq
        have hs0 : wr.heap.size < ((wr.alloc (.cells #[.int .i64 r.p, .int .i64 (r.n : Int)] 31)).drewN nq).heap.size := by simp
        have b0 : ((wr.alloc (.cells #[.int .i64 r.p, .int .i64 (r.n : Int)] 31)).drewN nq).cell? ⟨wr.heap.size, 0, none⟩ = some (.int .i64 r.p) := World.cell?_alloc_mark _ _ _ _ _
        have b1 : ((wr.alloc (.cells #[.int .i64 r.p, .int .i64 (r.n : Int)] 31)).drewN nq).cell? ⟨wr.heap.size, 1, none⟩ = some (.int .i64 (r.n : Int)) := World.cell?_alloc_mark _ _ _ _ _
        have how2 : OwnV 31 2 ((wr.alloc (.cells #[.int .i64 r.p, .int .i64 (r.n : Int)] 31)).drewN nq) w.heap.size (some ad') (k + 1) c' (rs (o ++ [y])) := how1.keep fun _ _ _ => rfl
        generalize (wr.alloc (.cells #[.int .i64 r.p, .int .i64 (r.n : Int)] 31)).drewN nq = W at hW0 hs0 b0 b1 how2 ⊢
        have how3 := how2.below rfl (bl1 W (.cells #[.int .i64 r.p, .int .i64 (r.n : Int)] 31))
        have hrd := rdV_new W #[.int .i64 r.p, .int .i64 (r.n : Int)] 31 (rs [r]) rfl
        have hbW := (hb.trans (hW0.mono hb.size)).alloc (by have := hb.size; omega) (.cells #[.int .i64 r.p, .int .i64 (r.n : Int)] 31)
        have hn1 : (k + 1) + 1 ≤ 1048577 := by omega
        clear how1 how2 c0 c1
        go_wp2_with (at_builtin; go_loud (refine wpList_appV elR rfl (.tmp 43) (.tmp 45) rfl rfl w.heap.size _ _ c' _ rfl how3 _ 1 1 _ _ rfl hrd rfl (rs_one _) (by omega) (by unfold maxLen; omega) hbW.size ((k + 1) + 1) rfl (rs ((o ++ [y]) ++ [r])) (rs_append _ _).symm ?_; intro A2 c2 w2 hw2 hb2 _))
        go_roundw
        case rel => exact ⟨i + 1, _, c2, A2, by omega, by go_num, rfl, by omega, by rw [HT1.out]; exact hw2, hbW.trans hb2⟩
        case measure => simp [intOf]; omega
    · have hge : n ≤ i := by omega
      have e : L.take i = L := List.take_of_length_le (by rw [h.len]; exact hge)
      have how2 := HOW.out
      rw [e] at how2
      have HOW2 := Lib.hid how2
      clear e how2 HOW
      go_wp2_with fail
      go_ret
      have hl := HOW2.out.len
      rw [rs_length] at hl
      have hl2 : m = (tidy L).length := by omega
      subst hl2
      exact ⟨A', c', rfl, HOW2.out.rdr, HOW2.out.cap, hb, HOW2.out.newer⟩
end Go.Proofs.Ytcdgofdnafbacaa
