/- Contracts and mathematics that the texts behind it stand on: Conf, Hold, Ownb, Mal, Regs, Wtur, Mdo, Trow, Ltm. -/
import Derived.Test.YtoaocdmcjjohgaaLow1
import Derived.Test.YtoaocdmcjjohgaaLow3
import Derived.Test.YtoaocdmcjjohgaaLow5
import Derived.Test.YtoaocdmcjjohgaaLow4
import Derived.Test.YtoaocdmcjjohgaaLow2
/- Partitions and channels in memory; whether one of them may be, by the document's own answer (that it answers). -/
namespace Go.Proofs.Ytoaocdmcjjohgaa
open Go.RowKit Tab
set_option linter.unusedSimpArgs false
set_option linter.unusedVariables false

/-- A channel, whole. -/
structure ChV where
  from_ : Int
  to_ : Int
  queue : Bool
  cap : Int
  max : Int
  late : Int
/-- A partition, whole; its processes as the slice that holds them. -/
structure PtV where
  name : ByteArray
  bud : Int
  per : Int
  sched : Bool
  stop : Bool
  pa : Option Addr
  pn : Nat
  pc : Nat
  h0 : Int
  h1 : Int
  h2 : Int
  h3 : Int
  h4 : Int
abbrev cv (x : ChV) : Value := .agg #[.int .i64 x.from_, .int .i64 x.to_, .bool x.queue, .int .i64 x.cap, .int .u32 x.max, .int .i64 x.late]
abbrev pv (x : PtV) : Value := .agg #[.string x.name, .int .i64 x.bud, .int .i64 x.per, .bool x.sched, .bool x.stop, .slice x.pa x.pn x.pc, .int .i64 x.h0, .int .i64 x.h1, .int .i64 x.h2, .int .i64 x.h3, .int .i64 x.h4]
/-- It answers yes or no, and leaves what was there. -/
def SomB (w : World) (e : Ending) (w' : World) : Prop := ∃ b, e = .returned (.bool b) ∧ Below w.heap.size w w'
set_option maxRecDepth 100000 in
set_option maxHeartbeats 4000000 in
theorem chanRight_any (x : ChV) (n : Int) (w : World) : Calls Try.prog 72 #[cv x, .int .i64 n] w (SomB w) := by
  obtain ⟨f, t, q, c, m, l⟩ := x
  go_enter Try.func72, Try.ntmps72
  cases q <;> go_wp2 <;> (go_ret; exact ⟨_, rfl, bl1 _ _⟩)
end Go.Proofs.Ytoaocdmcjjohgaa

/- Rows of partitions, of channels in memory; whether a row of runs holds what is asked, by the document's own answer (that it answers). -/
namespace Go.Proofs.Ytoaocdmcjjohgaa
open Go.RowKit Tab
set_option linter.unusedSimpArgs false
set_option linter.unusedVariables false

section
variable {α : Type} {f : α → List Value} {s : Nat}
theorem flat_get (hf : ∀ x, (f x).length = s) (l : List α) (i k : Nat) (x : α) (hx : l[i]? = some x) (hk : k < s) : (l.flatMap f)[i * s + k]? = (f x)[k]? := by
  induction l generalizing i with
  | nil => simp at hx
  | cons y l ih =>
    rw [List.flatMap_cons]
    cases i with
    | zero =>
      simp at hx
      subst hx
      rw [Nat.zero_mul, Nat.zero_add, List.getElem?_append_left (by rw [hf]; exact hk)]
    | succ i =>
      rw [List.getElem?_append_right (by rw [hf, Nat.succ_mul]; omega), hf]
      have := ih i (by simpa using hx)
      rw [← this]
      congr 1
      rw [Nat.succ_mul]
      omega
end
/-- A slice at A, n long, of structs, each in s cells, holds l. -/
structure RdB {α : Type} (f : α → List Value) (w : World) (B : Nat) (A : Option Addr) (n : Nat) (l : List α) : Prop where
  len : l.length = n
  rd : RdV w B A (l.flatMap f)
section
variable {α : Type} {f : α → List Value} {s : Nat} {w w' : World} {B n : Nat} {A : Option Addr} {l : List α}
theorem RdB.on (h : RdB f w w.heap.size A n l) (hb : Below w.heap.size w w') : RdB f w' w'.heap.size A n l := ⟨h.len, (h.rd.below hb).more hb.size⟩
theorem RdB.at_ (h : RdB f w B A n l) (hf : ∀ x, (f x).length = s) (hs : 0 < s) {i : Nat} (hi : i < n) : ∃ (ad : Addr) (x : α), A = some ad ∧ ad.block < B ∧ l[i]? = some x ∧ (∀ v, (f x)[0]? = some v → w.cell? (ad.add (i * s)) = some v) ∧
    ∀ k v, 0 < k → (f x)[k]? = some v → w.cell? ⟨(ad.add (i * s)).block, (ad.add (i * s)).off + k, none⟩ = some v := by
  have hl : i < l.length := by rw [h.len]; exact hi
  have hx : l[i]? = some l[i] := List.getElem?_eq_getElem hl
  have hpos : 0 < (l.flatMap f).length := by
    cases l with
    | nil => simp at hl
    | cons y l => rw [List.flatMap_cons, List.length_append, hf]; omega
  obtain ⟨ad, e, hb, hc⟩ := h.rd hpos
  refine ⟨ad, l[i], e, hb, hx, fun v hv => ?_, fun k v hk hv => ?_⟩
  · have := flat_get hf l i 0 _ hx hs
    rw [Nat.add_zero] at this
    exact hc _ v (this.trans hv)
  · have hks : k < s := by rw [← hf l[i]]; exact (List.getElem?_eq_some_iff.1 hv).1
    have := flat_get hf l i k _ hx hks
    have e1 : (⟨(ad.add (i * s)).block, (ad.add (i * s)).off + k, none⟩ : Addr) = ad.add (i * s + k) := by
      rw [← add_add]
      generalize ad.add (i * s) = p
      unfold Addr.add
      rw [if_neg (by omega)]
    rw [e1]
    exact hc _ v (this.trans hv)
end
def cc (x : ChV) : List Value := [.int .i64 x.from_, .int .i64 x.to_, .bool x.queue, .int .i64 x.cap, .int .u32 x.max, .int .i64 x.late]
def pcl (x : PtV) : List Value := [.string x.name, .int .i64 x.bud, .int .i64 x.per, .bool x.sched, .bool x.stop, .slice x.pa x.pn x.pc, .int .i64 x.h0, .int .i64 x.h1, .int .i64 x.h2, .int .i64 x.h3, .int .i64 x.h4]
theorem cc_len (x : ChV) : (cc x).length = 6 := rfl
theorem pcl_len (x : PtV) : (pcl x).length = 11 := rfl
/-- It answers a number, and leaves what was there. -/
def SomI (w : World) (e : Ending) (w' : World) : Prop := ∃ z, e = .returned (.int .i64 z) ∧ Below w.heap.size w w'
set_option maxRecDepth 100000 in
set_option maxHeartbeats 4000000 in
theorem holds_any (A1 A2 A3 A4 : Option Addr) (n1 n2 n3 n4 c1 c2 c3 c4 : Nat) (P : List PtV) (C : List ChV) (L : List Rn) (w : World) (hP : RdB pcl w w.heap.size A1 n1 P) (hC : RdB cc w w.heap.size A2 n2 C) (hL : RdR w w.heap.size A4 n4 L)
    (q1 : n1 ≤ 1048576) (q2 : n2 ≤ 1048576) (q4 : n4 ≤ c4) (q5 : n4 ≤ 1048576) (ht : ticks L ≤ 8192) (hz : ∀ x ∈ P, In64 x.per) :
    Calls Try.prog 53 #[.agg #[.slice A1 n1 c1, .slice A2 n2 c2, .slice A3 n3 c3], .slice A4 n4 c4] w (SomI w) := by
  have hb0 := bl1 w (.cells #[.slice A1 n1 c1, .slice A2 n2 c2, .slice A3 n3 c3] 31)
  have hP0 := hP.on hb0
  have hC0 := hC.on hb0
  have hL0 := hL.on hb0
  have m0 : (w.alloc (.cells #[.slice A1 n1 c1, .slice A2 n2 c2, .slice A3 n3 c3] 31)).cell? ⟨w.heap.size, 0, none⟩ = some (.slice A1 n1 c1) := World.cell?_alloc_mark _ _ _ _ _
  have hgs : w.heap.size < (w.alloc (.cells #[.slice A1 n1 c1, .slice A2 n2 c2, .slice A3 n3 c3] 31)).heap.size := by simp
  have HZ := Lib.hid hz
  clear hP hC hL hz
  go_enter Try.func53, Try.ntmps53
  go_wp2_with fail
  generalize w.alloc (.cells #[.slice A1 n1 c1, .slice A2 n2 c2, .slice A3 n3 c3] 31) = W at hb0 hP0 hC0 hL0 m0 hgs ⊢
  obtain ⟨g, hg⟩ : ∃ g, g = w.heap.size := ⟨_, rfl⟩
  rw [← hg] at m0 hgs ⊢
  have HG := Lib.hid hg
  have HM0 := Lib.hid m0
  clear hg m0
  go_loopw [6, 7, 13] (fun _ _ s wr => ∃ i : Nat, i ≤ n2 ∧ s = .int .i64 i ∧ Below W.heap.size W wr) (fun _ _ s _ => n2 - (intOf s).toNat)
  case atStart => exact ⟨0, by omega, rfl, Below.refl _ _⟩
  case round =>
    obtain ⟨i, hi, rfl, hb⟩ := hrel
    by_cases hlt : i < n2
    · obtain ⟨ad, x, rfl, had, hx, c0, ck⟩ := (hC0.on hb).at_ cc_len (by omega) hlt
      have d0 := c0 _ rfl
      have d1 := ck 1 _ (by omega) rfl
      have d2 := ck 2 _ (by omega) rfl
      have d3 := ck 3 _ (by omega) rfl
      have d4 := ck 4 _ (by omega) rfl
      have d5 := ck 5 _ (by omega) rfl
      obtain ⟨xf, xt, xq, xc, xm, xl⟩ := x
      dsimp only at d0 d1 d2 d3 d4 d5
      have hbx := bl1 wr (.cells #[.int .i64 xf, .int .i64 xt, .bool xq, .int .i64 xc, .int .u32 xm, .int .i64 xl] 70)
      have hb1 := hb.trans (hbx.mono hb.size)
      have HLT := Lib.hid (late_any A4 n4 c4 L xf xt _ (hL0.on hb1) q4 q5 ht)
      have HB1 := Lib.hid hb1
      clear c0 ck hx hbx hb1
      go_wp2_with fail
      refine HLT.out.mono ?_
      rintro e w5 ⟨rfl, hb5⟩
      have e5 : w5.cell? ⟨wr.heap.size, 5, none⟩ = some (.int .i64 xl) := (hb5.cell (p := ⟨wr.heap.size, 5, none⟩) (by simp)).trans (World.cell?_alloc_mark _ _ _ _ _)
      have HB5 := Lib.hid (HB1.out.trans (hb5.mono HB1.out.size))
      clear hb5 HLT HB1 d0 d1 d2 d3 d4 d5
      generalize lateL (wordsL L) xf xt = z
      generalize wr.heap.size = gx at e5 ⊢
      go_wp2_with fail
      all_goals
        first
        | (go_ret; exact ⟨_, rfl, hb0.trans (HB5.out.mono hb0.size)⟩)
        | (go_roundw
           case rel => exact ⟨i + 1, by omega, by go_num, HB5.out⟩
           case measure => simp [intOf]; omega)
    · have hge : n2 ≤ i := by omega
      have m0 := (hb.cell (p := ⟨g, 0, none⟩) hgs).trans HM0.out
      go_wp2_with fail
      go_loopw [8, 9, 40] (fun _ _ s wx => ∃ j : Nat, j ≤ n1 ∧ s = .int .i64 j ∧ Below W.heap.size W wx) (fun _ _ s _ => n1 - (intOf s).toNat)
      case atStart => exact ⟨0, by omega, rfl, hb⟩
      case round =>
        obtain ⟨j, hj, rfl, hb⟩ := hrel
        by_cases hlt : j < n1
        · obtain ⟨ad, x, rfl, had, hx, c0, ck⟩ := (hP0.on hb).at_ pcl_len (by omega) hlt
          have d0 := c0 _ rfl
          have d1 := ck 1 _ (by omega) rfl
          have d2 := ck 2 _ (by omega) rfl
          have d3 := ck 3 _ (by omega) rfl
          have d4 := ck 4 _ (by omega) rfl
          have d5 := ck 5 _ (by omega) rfl
          have d6 := ck 6 _ (by omega) rfl
          have d7 := ck 7 _ (by omega) rfl
          have d8 := ck 8 _ (by omega) rfl
          have d9 := ck 9 _ (by omega) rfl
          have d10 := ck 10 _ (by omega) rfl
          have hzx := HZ.out x (List.mem_of_getElem? hx)
          obtain ⟨nm, bu, pe, sc, st, pa, pn, pc, h0, h1, h2, h3, h4⟩ := x
          dsimp only at d0 d1 d2 d3 d4 d5 d6 d7 d8 d9 d10 hzx
          have hbx := bl1 wr (.cells #[.string nm, .int .i64 bu, .int .i64 pe, .bool sc, .bool st, .slice pa pn pc, .int .i64 h0, .int .i64 h1, .int .i64 h2, .int .i64 h3, .int .i64 h4] 64)
          have hb1 := hb.trans (hbx.mono hb.size)
          have f1 : (wr.alloc (.cells #[.string nm, .int .i64 bu, .int .i64 pe, .bool sc, .bool st, .slice pa pn pc, .int .i64 h0, .int .i64 h1, .int .i64 h2, .int .i64 h3, .int .i64 h4] 64)).cell? ⟨wr.heap.size, 1, none⟩ = some (.int .i64 bu) := World.cell?_alloc_mark _ _ _ _ _
          have f2 : (wr.alloc (.cells #[.string nm, .int .i64 bu, .int .i64 pe, .bool sc, .bool st, .slice pa pn pc, .int .i64 h0, .int .i64 h1, .int .i64 h2, .int .i64 h3, .int .i64 h4] 64)).cell? ⟨wr.heap.size, 2, none⟩ = some (.int .i64 pe) := World.cell?_alloc_mark _ _ _ _ _
          have hgx : wr.heap.size < (wr.alloc (.cells #[.string nm, .int .i64 bu, .int .i64 pe, .bool sc, .bool st, .slice pa pn pc, .int .i64 h0, .int .i64 h1, .int .i64 h2, .int .i64 h3, .int .i64 h4] 64)).heap.size := by simp
          clear c0 ck hx hbx
          go_wp2_with fail
          generalize wr.alloc (.cells #[.string nm, .int .i64 bu, .int .i64 pe, .bool sc, .bool st, .slice pa pn pc, .int .i64 h0, .int .i64 h1, .int .i64 h2, .int .i64 h3, .int .i64 h4] 64) = W2 at hb1 f1 f2 hgx ⊢
          generalize wr.heap.size = gx at f1 f2 hgx ⊢
          have HB1 := Lib.hid hb1
          clear d0 d1 d2 d3 d4 d5 d6 d7 d8 d9 d10 hb1 had
          by_cases hbu : 0 < bu
          · have hbd : decide (0 < bu) = true := decide_eq_true hbu
            have HBG : Hid (Calls Try.prog 48 #[.slice A4 n4 c4, .int .i64 (j : Int), .int .i64 pe] W2.drew fun e w5 => e = .returned (.int .i64 (budL (wordsL L) (j : Int) pe)) ∧ Below W2.heap.size W2 w5 ∧ w5.cell? ⟨gx, 1, none⟩ = some (.int .i64 bu) ∧ w5.cell? ⟨gx, 2, none⟩ = some (.int .i64 pe)) := Lib.hid (by
              refine (budget_any A4 n4 c4 L (j : Int) pe W2.drew ((hL0.on HB1.out).below (Below.refl _ _).drew) q4 q5 ht hzx).mono ?_
              rintro e w5 ⟨rfl, hb5⟩
              have hb6 : Below W2.heap.size W2 w5 := ⟨hb5.os, hb5.tape, hb5.output, hb5.size, hb5.block⟩
              exact ⟨rfl, hb6, (hb6.cell (p := ⟨gx, 1, none⟩) hgx).trans f1, (hb6.cell (p := ⟨gx, 2, none⟩) hgx).trans f2⟩)
            generalize budL (wordsL L) (j : Int) pe = z at HBG
            go_region_with (go_at_call 48; refine HBG.out.mono ?_; rintro e w5 ⟨rfl, hb5, g1, g2⟩)
            go_wp2_with fail
            all_goals
              first
              | (go_ret; exact ⟨_, rfl, hb0.trans ((HB1.out.trans (hb5.mono HB1.out.size)).mono hb0.size)⟩)
              | (go_roundw
                 case rel => exact ⟨j + 1, by omega, by go_num, HB1.out.trans (hb5.mono HB1.out.size)⟩
                 case measure => simp [intOf]; omega)
          · have hbd : decide (0 < bu) = false := decide_eq_false hbu
            go_quiet (fail)
            go_wp2_with fail
            go_roundw
            case rel => exact ⟨j + 1, by omega, by go_num, Below.drewN HB1.out nq⟩
            case measure => simp [intOf]; omega
        · have hge : n1 ≤ j := by omega
          go_wp2_with fail
          go_ret
          exact ⟨_, rfl, hb0.trans (hb.mono hb0.size)⟩
end Go.Proofs.Ytoaocdmcjjohgaa

/- Rows of structs of the call's own: a store into one field of one of them. -/
namespace Go.Proofs.Ytoaocdmcjjohgaa
open Go.RowKit Tab
set_option linter.unusedSimpArgs false
set_option linter.unusedVariables false

theorem heap_set_same (w : World) (g j : Nat) (v : Value) {cur : Array Value} {E : TypeId} {fr : Nat × Nat} (h : w.heap[g]? = some (.cells cur E fr)) : (w.setCell ⟨g, j, none⟩ v).heap[g]? = some (.cells (cur.setIfInBounds j v) E fr) := by
  unfold World.setCell
  simp [Array.getElem?_modify, h]
theorem OwnV.set {E s B n c g : Nat} {w : World} {l : List Value} (h : OwnV E s w B (some ⟨g, 0, none⟩) n c l) (j : Nat) (v : Value) (hj : j < l.length) : OwnV E s (w.setCell ⟨g, j, none⟩ v) B (some ⟨g, 0, none⟩) n c (l.set j v) := by
  refine ⟨by rw [List.length_set]; exact h.1, ?_⟩
  rcases h.2 with ⟨hv, _⟩ | ⟨g', cap, cur, hv, hbg, hg, hnc, hcm, hcs, htake⟩
  · cases hv
  · simp only [Value.slice.injEq, Option.some.injEq, Addr.mk.injEq, and_true, true_and] at hv
    obtain ⟨rfl, rfl⟩ := hv
    refine .inr ⟨g, c, cur.setIfInBounds j v, rfl, hbg, heap_set_same w g j v hg, hnc, hcm, by rw [Array.size_setIfInBounds]; exact hcs, ?_⟩
    rw [Array.toList_setIfInBounds, List.take_set, htake]
/-- A store into another block leaves a row. -/
theorem OwnV.other {E s B n c : Nat} {w : World} {A : Option Addr} {l : List Value} (h : OwnV E s w B A n c l) (p : Addr) (v : Value) (hp : ∀ g, A = some ⟨g, 0, none⟩ → g ≠ p.block) : OwnV E s (w.setCell p v) B A n c l := by
  refine ⟨h.1, ?_⟩
  rcases h.2 with hv | ⟨g, cap, cur, hv, hbg, hg, r⟩
  · exact .inl hv
  · refine .inr ⟨g, cap, cur, hv, hbg, ?_, r⟩
    rw [Below.heap_setCell w p v g (hp g (by injection hv))]
    exact hg
section
variable {α : Type} {f : α → List Value} {s : Nat}
theorem flat_len (hf : ∀ x, (f x).length = s) (l : List α) : (l.flatMap f).length = l.length * s := by
  induction l with
  | nil => simp
  | cons x l ih => rw [List.flatMap_cons, List.length_append, hf, ih, List.length_cons, Nat.succ_mul]; omega
theorem flat_set (hf : ∀ x, (f x).length = s) (l : List α) (i k : Nat) (x y : α) (v : Value) (hx : l[i]? = some x) (hk : k < s) (hy : f y = (f x).set k v) : (l.set i y).flatMap f = (l.flatMap f).set (i * s + k) v := by
  induction l generalizing i with
  | nil => simp at hx
  | cons z l ih =>
    cases i with
    | zero =>
      simp at hx
      subst hx
      rw [List.set_cons_zero, List.flatMap_cons, List.flatMap_cons, hy, Nat.zero_mul, Nat.zero_add, List.set_append_left _ _ (by rw [hf]; exact hk)]
    | succ i =>
      rw [List.set_cons_succ, List.flatMap_cons, List.flatMap_cons, ih i (by simpa using hx), List.set_append_right _ _ (by rw [hf, Nat.succ_mul]; omega), hf]
      congr 2
      rw [Nat.succ_mul]
      omega
end
/-- A row of structs, each in s cells, of the call's own, block B or behind it. -/
structure OwnB {α : Type} (E s : Nat) (f : α → List Value) (w : World) (B : Nat) (A : Option Addr) (n c : Nat) (l : List α) : Prop where
  len : l.length = n
  own : OwnV E s w B A n c (l.flatMap f)
section
variable {α : Type} {f : α → List Value} {E s B B' n c : Nat} {w w' : World} {A : Option Addr} {l : List α}
theorem OwnB.rdb (h : OwnB E s f w B A n c l) : RdB f w w.heap.size A n l := ⟨h.len, h.own.rd⟩
theorem OwnB.cap (h : OwnB E s f w B A n c l) : n ≤ c := h.own.cap
theorem OwnB.nil (w : World) (E s B : Nat) : OwnB E s f w B none 0 0 [] := ⟨rfl, OwnV.nil _ _ _ _⟩
theorem OwnB.below (h : OwnB E s f w B A n c l) (hb : Below w.heap.size w w') : OwnB E s f w' B A n c l := ⟨h.len, h.own.below rfl hb⟩
theorem OwnB.other (h : OwnB E s f w B A n c l) (p : Addr) (v : Value) (hp : ∀ g, A = some ⟨g, 0, none⟩ → g ≠ p.block) : OwnB E s f (w.setCell p v) B A n c l := ⟨h.len, h.own.other p v hp⟩
theorem OwnB.weak (h : OwnB E s f w B A n c l) (hB : B' ≤ B) : OwnB E s f w B' A n c l := ⟨h.len, h.own.weak hB⟩
theorem OwnB.block (h : OwnB E s f w B A n c l) (hn : 0 < n) : ∃ g, A = some ⟨g, 0, none⟩ ∧ B ≤ g ∧ g < w.heap.size := h.own.block hn
theorem mk_add (g i : Nat) : (⟨g, 0, none⟩ : Addr).add i = ⟨g, i, none⟩ := by
  unfold Addr.add
  split <;> simp_all
/-- A store into a struct's field k, as a walk spells its place. -/
theorem OwnB.set {g : Nat} (h : OwnB E s f w B (some ⟨g, 0, none⟩) n c l) (hf : ∀ x, (f x).length = s) {i k : Nat} {x y : α} {v : Value} (hx : l[i]? = some x) (hk : k < s) (hy : f y = (f x).set k v) :
    OwnB E s f (w.setCell ⟨((⟨g, 0, none⟩ : Addr).add (i * s)).block, ((⟨g, 0, none⟩ : Addr).add (i * s)).off + k, none⟩ v) B (some ⟨g, 0, none⟩) n c (l.set i y) := by
  have hi : i < l.length := (List.getElem?_eq_some_iff.1 hx).1
  refine ⟨by rw [List.length_set]; exact h.len, ?_⟩
  rw [mk_add, flat_set hf l i k x y v hx hk hy]
  refine h.own.set (i * s + k) v ?_
  rw [flat_len hf]
  have h1 : (i + 1) * s ≤ l.length * s := Nat.mul_le_mul_right _ hi
  rw [Nat.succ_mul] at h1
  omega
end
/-- A store into a channel's bound, into a partition's budget, its period. -/
theorem cc_late (x : ChV) (z : Int) : cc { x with late := z } = (cc x).set 5 (.int .i64 z) := rfl
theorem pcl_bud (x : PtV) (z : Int) : pcl { x with bud := z } = (pcl x).set 1 (.int .i64 z) := rfl
theorem pcl_per (x : PtV) (z : Int) : pcl { x with per := z } = (pcl x).set 2 (.int .i64 z) := rfl
end Go.Proofs.Ytoaocdmcjjohgaa

/- All that may be moved: by the document's own answer. -/
namespace Go.Proofs.Ytoaocdmcjjohgaa
open Go.RowKit Tab
set_option linter.unusedSimpArgs false
set_option linter.unusedVariables false

/-- A move: from, to, which way. -/
structure Mo where
  i : Nat
  j : Nat
  r : Bool
def mcl (x : Mo) : List Value := [.int .i64 (x.i : Int), .int .i64 (x.j : Int), .bool x.r]
theorem mcl_len (x : Mo) : (mcl x).length = 3 := rfl
theorem mcl_one (l : List Mo) : ∀ u ∈ l.flatMap mcl, u.oneCell' = true := by
  intro u hu
  obtain ⟨x, _, hx⟩ := List.mem_flatMap.1 hu
  simp [mcl] at hx
  rcases hx with rfl | rfl | rfl <;> rfl
def twoM (D : Int → Int → Bool) (ps : List Int) (i j : Nat) : List Mo := if mayP D ps i j = true then [⟨i, j, false⟩, ⟨i, j, true⟩] else []
def allJ (D : Int → Int → Bool) (ps : List Int) (i : Nat) : Nat → Nat → List Mo
  | 0, _ => []
  | f + 1, j => twoM D ps i j ++ allJ D ps i f (j + 1)
def allI (D : Int → Int → Bool) (ps : List Int) : Nat → Nat → List Mo
  | 0, _ => []
  | f + 1, i => allJ D ps i (ps.length - (i + 1)) (i + 1) ++ allI D ps f (i + 1)
def allF (D : Int → Int → Bool) (ps : List Int) : List Mo := allI D ps ps.length 0
theorem twoM_le (D : Int → Int → Bool) (ps : List Int) (i j : Nat) : (twoM D ps i j).length ≤ 2 := by
  unfold twoM
  split <;> simp
theorem allJ_le (D : Int → Int → Bool) (ps : List Int) (i : Nat) : ∀ f j, (allJ D ps i f j).length ≤ 2 * f := by
  intro f
  induction f with
  | zero => intro j; exact Nat.le_refl _
  | succ f ih =>
    intro j
    unfold allJ
    rw [List.length_append]
    have h1 := twoM_le D ps i j
    have h2 := ih (j + 1)
    omega
theorem allI_le (D : Int → Int → Bool) (ps : List Int) : ∀ f i, (allI D ps f i).length ≤ f * (2 * ps.length) := by
  intro f
  induction f with
  | zero => intro i; exact Nat.zero_le _
  | succ f ih =>
    intro i
    unfold allI
    rw [List.length_append, Nat.succ_mul]
    have h1 := allJ_le D ps i (ps.length - (i + 1)) (i + 1)
    have h2 := ih (i + 1)
    omega
theorem allF_le {D : Int → Int → Bool} {ps : List Int} (h : ps.length ≤ 1024) : (allF D ps).length ≤ 2097152 := by
  have h1 := allI_le D ps ps.length 0
  have h2 : ps.length * (2 * ps.length) ≤ 1024 * (2 * 1024) := Nat.mul_le_mul h (by omega)
  unfold allF
  omega
theorem allJ_step (D : Int → Int → Bool) (ps : List Int) (i : Nat) {j n : Nat} (h : j < n) : allJ D ps i (n - j) j = twoM D ps i j ++ allJ D ps i (n - (j + 1)) (j + 1) := by
  have e : n - j = (n - (j + 1)) + 1 := by omega
  rw [e]
  rfl
theorem allI_step (D : Int → Int → Bool) (ps : List Int) {i : Nat} (h : i < ps.length) : allI D ps (ps.length - i) i = allJ D ps i (ps.length - (i + 1)) (i + 1) ++ allI D ps (ps.length - (i + 1)) (i + 1) := by
  have e : ps.length - i = (ps.length - (i + 1)) + 1 := by omega
  rw [e]
  rfl
theorem elRm : Elt 73 76 3 24 (.agg #[.int .i64 0, .int .i64 0, .bool false]) := ⟨Try.underlying73, by kernel_rfl, rfl, by omega⟩
/-- A row of moves, new, of the call's own. -/
def RowM (E : Nat) (l : List Mo) (w : World) (e : Ending) (w' : World) : Prop := ∃ A c, e = .returned (.slice A l.length c) ∧ OwnB E 3 mcl w' w.heap.size A l.length c l ∧ Below w.heap.size w w'
theorem mayZ_nat (D : Int → Int → Bool) {ps : List Int} {i j : Nat} (hij : i < j) (hj : j < ps.length) : mayZ D ps (i : Int) (j : Int) = mayP D ps i j := by
  unfold mayZ
  rw [decide_eq_true (show (0 : Int) ≤ (i : Int) by omega), decide_eq_true (show (i : Int) < (j : Int) by omega), decide_eq_true (show (j : Int) < (ps.length : Int) by omega)]
  simp
set_option maxRecDepth 100000 in
set_option maxHeartbeats 4000000 in
theorem rall_any (A A3 : Option Addr) (n c n3 c3 : Nat) (ps : List Int) (m : Nat → Nat → Bool) (w : World) (h : RdP w w.heap.size A n ps) (hM : RdM w w.heap.size A3 n3 (fun _ => n3) m)
    (hc : n ≤ c) (hn : n ≤ 1024) (h3 : n3 ≤ 1024) (hps : ∀ q ∈ ps, -1 ≤ q ∧ q ≤ 1024) :
    Calls Try.prog 26 #[.slice A n c, .slice A3 n3 c3] w (RowM 76 (allF (depW n3 m) ps) w) := by
  have hlen := h.len
  obtain ⟨R, hR⟩ : ∃ R, R = allF (depW n3 m) ps := ⟨_, rfl⟩
  have hRl : R.length ≤ 2097152 := by rw [hR]; exact allF_le (by omega)
  rw [← hR]
  have HR := Lib.hid hR
  have HLN := Lib.hid hlen
  have HP := Lib.hid h
  have HM := Lib.hid hM
  have HPS := Lib.hid hps
  clear h hM hps hlen hR
  go_enter Try.func26, Try.ntmps26
  go_wp2_with fail
  go_loopw [5, 6, 7, 8, 11] (fun q _ _ _ s wr => ∃ (i k cq : Nat) (AQ : Option Addr) (Q : List Mo), i ≤ n ∧ s = .int .i64 i ∧ q = .slice AQ k cq ∧ OwnB 76 3 mcl wr w.heap.size AQ k cq Q ∧ Q ++ allI (depW n3 m) ps (n - i) i = R ∧ Below w.heap.size w wr) (fun _ _ _ _ s _ => n - (intOf s).toNat)
  case atStart => exact ⟨0, 0, 0, none, [], by omega, rfl, rfl, OwnB.nil _ _ _ _, by rw [HR.out, List.nil_append, ← HLN.out]; rfl, Below.refl _ _⟩
  case round =>
    obtain ⟨i, k, cq, AQ, Q, hi, rfl, rfl, hown, hQ, hb⟩ := hrel
    have HOW := Lib.hid hown
    have HQ := Lib.hid hQ
    have HB := Lib.hid hb
    clear hown hQ hb
    by_cases hin : i < n
    · have hini : (i : Int) < (n : Int) := by omega
      have hst := allI_step (depW n3 m) ps (i := i) (by rw [HLN.out]; exact hin)
      rw [HLN.out] at hst
      have HQ1 : Hid (Q ++ (allJ (depW n3 m) ps i (n - (i + 1)) (i + 1) ++ allI (depW n3 m) ps (n - (i + 1)) (i + 1)) = R) := Lib.hid (by rw [← hst]; exact HQ.out)
      have hw1 : IntKind.i64.wrap ((i : Int) + 1) = (i : Int) + 1 := IntWalk.i64_in _ (by omega)
      clear hst HQ
      go_wp2_with fail
      go_loopw [5, 7, 8] (fun q s _ wx => ∃ (j k cq : Nat) (AQ : Option Addr) (Q : List Mo), i < j ∧ j ≤ n ∧ s = .int .i64 j ∧ q = .slice AQ k cq ∧ OwnB 76 3 mcl wx w.heap.size AQ k cq Q ∧ Q ++ (allJ (depW n3 m) ps i (n - j) j ++ allI (depW n3 m) ps (n - (i + 1)) (i + 1)) = R ∧ Below w.heap.size w wx) (fun _ s _ _ => n - (intOf s).toNat)
      case atStart => exact ⟨i + 1, k, cq, AQ, Q, by omega, by omega, by go_num, rfl, HOW.out, HQ1.out, HB.out⟩
      case round =>
        obtain ⟨j, k, cq, AQ, Q, hij, hj, rfl, rfl, hown, hQ, hb⟩ := hrel
        clear HOW HQ1 HB
        have HQ := Lib.hid hQ
        have HB := Lib.hid hb
        have HOW := Lib.hid hown
        clear hQ
        by_cases hjn : j < n
        · have hjni : (j : Int) < (n : Int) := by omega
          have hbl := bl1 wr (.cells #[.int .i64 (i : Int), .int .i64 (j : Int), .bool false] 76)
          have g0 : (wr.alloc (.cells #[.int .i64 (i : Int), .int .i64 (j : Int), .bool false] 76)).cell? ⟨wr.heap.size, 0, none⟩ = some (.int .i64 (i : Int)) := World.cell?_alloc_mark _ _ _ _ _
          have g1 : (wr.alloc (.cells #[.int .i64 (i : Int), .int .i64 (j : Int), .bool false] 76)).cell? ⟨wr.heap.size, 1, none⟩ = some (.int .i64 (j : Int)) := World.cell?_alloc_mark _ _ _ _ _
          have g2 : (wr.alloc (.cells #[.int .i64 (i : Int), .int .i64 (j : Int), .bool false] 76)).cell? ⟨wr.heap.size, 2, none⟩ = some (.bool false) := World.cell?_alloc_mark _ _ _ _ _
          have HB1 := Lib.hid (hb.trans (hbl.mono hb.size))
          have HOW1 := Lib.hid (hown.below hbl)
          have hsj := allJ_step (depW n3 m) ps i hjn
          have HQ2 : Hid (Q ++ (twoM (depW n3 m) ps i j ++ (allJ (depW n3 m) ps i (n - (j + 1)) (j + 1) ++ allI (depW n3 m) ps (n - (i + 1)) (i + 1))) = R) := Lib.hid (by rw [← List.append_assoc (twoM _ _ _ _), ← hsj]; exact HQ.out)
          have hgl : wr.heap.size < (wr.alloc (.cells #[.int .i64 (i : Int), .int .i64 (j : Int), .bool false] 76)).heap.size := by simp
          clear hown hb hbl hsj HQ HB HOW
          go_upto_region 9 with fail
          generalize wr.alloc (.cells #[.int .i64 (i : Int), .int .i64 (j : Int), .bool false] 76) = W1 at g0 g1 g2 HB1 HOW1 hgl ⊢
          generalize wr.heap.size = gm at g0 g1 g2 hgl ⊢
          have hma := rmay_any A A3 n c n3 c3 ps m (i : Int) (j : Int) false W1 (HP.out.on HB1.out) (HM.out.on HB1.out) hc (by omega) h3 HPS.out
          rw [mayZ_nat (depW n3 m) hij (by rw [HLN.out]; exact hjn)] at hma
          have htw : twoM (depW n3 m) ps i j = if mayP (depW n3 m) ps i j = true then [⟨i, j, false⟩, ⟨i, j, true⟩] else [] := rfl
          generalize mayP (depW n3 m) ps i j = bv at hma htw
          have HMA := Lib.hid hma
          have HTW := Lib.hid htw
          clear hma htw
          cases bv with
          | false =>
            have hq : Q ++ (allJ (depW n3 m) ps i (n - (j + 1)) (j + 1) ++ allI (depW n3 m) ps (n - (i + 1)) (i + 1)) = R := by
              have h := HQ2.out
              rw [HTW.out] at h
              exact h
            have HQ3 := Lib.hid hq
            clear hq
            go_wp2_with fail
            refine HMA.out.mono ?_
            rintro e w5 ⟨rfl, hb5⟩
            have HB5 := Lib.hid (HB1.out.trans (hb5.mono HB1.out.size))
            have HOW5 := Lib.hid (HOW1.out.below hb5)
            clear hb5 HMA
            go_wp2_with fail
            go_roundw
            case rel => exact ⟨j + 1, k, cq, AQ, Q, by omega, by omega, by go_num, rfl, HOW5.out, HQ3.out, HB5.out⟩
            case measure => simp [intOf]; omega
          | true =>
            have hq : (Q ++ [⟨i, j, false⟩, ⟨i, j, true⟩]) ++ (allJ (depW n3 m) ps i (n - (j + 1)) (j + 1) ++ allI (depW n3 m) ps (n - (i + 1)) (i + 1)) = R := by
              have h := HQ2.out
              rw [HTW.out] at h
              rw [List.append_assoc]
              exact h
            have hkl : k + 2 ≤ 2097152 := by
              have h1 := congrArg List.length hq
              rw [List.length_append, List.length_append, HOW1.out.len] at h1
              simp only [List.length_cons, List.length_nil] at h1
              omega
            have HQ3 := Lib.hid hq
            clear hq
            go_wp2_with fail
            refine HMA.out.mono ?_
            rintro e w5 ⟨rfl, hb5⟩
            have HB5 := Lib.hid (HB1.out.trans (hb5.mono HB1.out.size))
            have hq0 := (hb5.cell (p := ⟨gm, 0, none⟩) hgl).trans g0
            have hq1 := (hb5.cell (p := ⟨gm, 1, none⟩) hgl).trans g1
            have hq2 := (hb5.cell (p := ⟨gm, 2, none⟩) hgl).trans g2
            have hbx := bl1 w5 (.cells #[.int .i64 (i : Int), .int .i64 (j : Int), .bool false, .int .i64 (i : Int), .int .i64 (j : Int), .bool true] 76)
            have how5 := (HOW1.out.below hb5).below hbx
            have hown5 := how5.own
            have hrd := rdV_new w5 #[.int .i64 (i : Int), .int .i64 (j : Int), .bool false, .int .i64 (i : Int), .int .i64 (j : Int), .bool true] 76 (([⟨i, j, false⟩, ⟨i, j, true⟩] : List Mo).flatMap mcl) rfl
            have HB6 := Lib.hid (HB5.out.trans (hbx.mono HB5.out.size))
            have hs6 : w.heap.size ≤ (w5.alloc (.cells #[.int .i64 (i : Int), .int .i64 (j : Int), .bool false, .int .i64 (i : Int), .int .i64 (j : Int), .bool true] 76)).heap.size := HB6.out.size
            have hkq := HOW1.out.len
            have hfm : Q.flatMap mcl ++ ([⟨i, j, false⟩, ⟨i, j, true⟩] : List Mo).flatMap mcl = (Q ++ ([⟨i, j, false⟩, ⟨i, j, true⟩] : List Mo)).flatMap mcl := List.flatMap_append.symm
            clear hb5 HMA hbx HB5 how5
            go_wp2_with (at_builtin; go_loud (refine wpList_appV elRm rfl (.tmp 29) (.tmp 34) rfl rfl w.heap.size AQ k cq _ rfl hown5 _ 2 2 _ _ rfl hrd rfl (mcl_one _) (by omega) (by unfold maxLen; omega) hs6 (k + 2) rfl _ hfm ?_; intro A8 c8 w8 hw8 hb8 _))
            go_roundw
            case rel => exact ⟨j + 1, k + 2, c8, A8, _, by omega, by omega, by go_num, rfl, ⟨by rw [List.length_append, hkq]; rfl, hw8⟩, HQ3.out, HB6.out.trans hb8⟩
            case measure => simp [intOf]; omega
        · have hjni : ¬ (j : Int) < (n : Int) := by omega
          obtain rfl : n = j := by omega
          have hq : Q ++ allI (depW n3 m) ps (n - (i + 1)) (i + 1) = R := by
            have h := HQ.out
            rw [Nat.sub_self] at h
            exact h
          have HQ3 := Lib.hid hq
          clear hq hown hb
          go_wp2_with fail
          go_roundw
          case rel => exact ⟨i + 1, k, cq, AQ, Q, by omega, by go_num, rfl, HOW.out, HQ3.out, HB.out⟩
          case measure => simp [intOf]; omega
    · have hini : ¬ (i : Int) < (n : Int) := by omega
      obtain rfl : n = i := by omega
      have hq : Q = R := by
        have h := HQ.out
        rw [Nat.sub_self] at h
        simpa [allI] using h
      subst hq
      have hkl := HOW.out.len
      have HKL := Lib.hid hkl
      clear hkl
      go_wp2_with fail
      go_ret
      exact ⟨AQ, cq, by rw [HKL.out]; rfl, by rw [HKL.out]; exact HOW.out, HB.out⟩
end Go.Proofs.Ytoaocdmcjjohgaa

/- A region that draws its order and stores: by what each of its operations yields, and what the world is by then. -/
namespace Go.Proofs.Ytoaocdmcjjohgaa
open Go Go.RowKit
namespace Rgs
open Reg (waits writes left left_set all_listed Closed)
set_option linter.unusedSimpArgs false

/-- As Reg.good; an operation may have no slot. -/
def good (ops : Array Oper) (n : Nat) : Bool :=
  (List.range ops.size).all fun i => match ops[i]? with
    | some o => (match o.dst with
        | some d => decide (d < n) && (List.range ops.size).all fun j => j == i || (match ops[j]? with | some p => !(p.dst == some d) | none => true)
        | none => true) && o.after.toList.all fun e => !Region.binds .any e || decide (e.on < i)
    | none => false
theorem good_at {ops : Array Oper} {n : Nat} (h : good ops n = true) {i : Nat} {o : Oper} (hi : ops[i]? = some o) :
    (∀ d, o.dst = some d → d < n ∧ ∀ j p, ops[j]? = some p → j ≠ i → p.dst ≠ some d) ∧ ∀ e ∈ o.after, Region.binds .any e = true → e.on < i := by
  have hlt : i < ops.size := (Array.getElem?_eq_some_iff.1 hi).1
  have h1 := List.all_eq_true.1 h i (List.mem_range.2 hlt)
  rw [hi] at h1
  simp only [Bool.and_eq_true] at h1
  obtain ⟨h2, h3⟩ := h1
  refine ⟨fun d hd => ?_, fun e he hbd => ?_⟩
  · rw [hd] at h2
    simp only [Bool.and_eq_true, decide_eq_true_iff] at h2
    refine ⟨h2.1, fun j p hj hne => ?_⟩
    have hjl : j < ops.size := (Array.getElem?_eq_some_iff.1 hj).1
    have h4 := List.all_eq_true.1 h2.2 j (List.mem_range.2 hjl)
    rw [hj] at h4
    simp only [Bool.or_eq_true, beq_iff_eq, Bool.not_eq_true', beq_eq_false_iff_ne] at h4
    exact h4.resolve_left hne
  · have := List.all_eq_true.1 h3 e (Array.mem_toList_iff.2 he)
    rw [hbd] at this
    simpa using this
def upd (live : Nat → Bool) (i : Nat) : Nat → Bool := fun j => j == i || live j
structure Inv (ops : Array Oper) (a0 : Act) (V : Nat → Value → World → Prop) (W : (Nat → Bool) → Act → World → Prop) (listed : Array Bool) (a : Act) (w : World) : Prop where
  size : a.tmps.size = a0.tmps.size
  defers : a.defers = a0.defers
  env : ∀ t, writes ops t = false → a.eval (.tmp t) = a0.eval (.tmp t)
  val : ∀ j o, ops[j]? = some o → listed.getD j false = true → ∃ v, V j v w ∧ ∀ d, o.dst = some d → a.eval (.tmp d) = v
  world : W (fun j => listed.getD j false) a w
  closed : Closed ops fun j => listed.getD j false
/-- What a step owes; live: who has come up. -/
def Owes (live : Nat → Bool) (V : Nat → Value → World → Prop) (W : (Nat → Bool) → Act → World → Prop) (i : Nat) (o : Oper) (a : Act) (w : World) (a' : Act) (w' : World) : Prop :=
  ∃ v, a' = a.put o.dst v ∧ V i v w' ∧ W (upd live i) (a.put o.dst v) w' ∧ ∀ j v, live j = true → V j v w → V j v w'
theorem live_set {listed : Array Bool} {i : Nat} (hi : i < listed.size) : (fun j => (listed.setIfInBounds i true).getD j false) = upd (fun j => listed.getD j false) i := by
  funext j
  unfold upd
  by_cases h : j = i
  · subst h
    simp [hi]
  · rw [getD_set_ne false (Ne.symm h)]
    simp [h]
theorem upd_off {live : Nat → Bool} {i k : Nat} (h : upd live i k = false) : live k = false := by
  unfold upd at h
  cases e : live k with
  | false => rfl
  | true => rw [e] at h; simp at h
theorem upd_self (live : Nat → Bool) (i : Nat) : upd live i i = true := by simp [upd]
theorem upd_on {live : Nat → Bool} {i k : Nat} (h : live k = true) : upd live i k = true := by simp [upd, h]
theorem put_none (a : Act) (v : Value) : a.put none v = a := rfl
theorem Inv.step {ops : Array Oper} {a0 : Act} {V : Nat → Value → World → Prop} {W : (Nat → Bool) → Act → World → Prop} {listed : Array Bool} {a a' : Act} {w w' : World} (hg : good ops a0.tmps.size = true)
    {i : Nat} {o : Oper} (hi : ops[i]? = some o) (hil : i < listed.size) (h : Inv ops a0 V W listed a w) (hr : ∀ k, waits o k = true → listed.getD k false = true) (hs : Owes (fun j => listed.getD j false) V W i o a w a' w') : Inv ops a0 V W (listed.setIfInBounds i true) a' w' := by
  obtain ⟨v, rfl, hv, hw, hm⟩ := hs
  obtain ⟨hgd, _⟩ := good_at hg hi
  have hcl : Closed ops fun j => (listed.setIfInBounds i true).getD j false := fun j p hj hl k hk => by
    by_cases hji : j = i
    · subst hji
      rw [hi] at hj
      injection hj with hj
      subst hj
      exact getD_set_true (hr k hk)
    · have hl' : (listed.setIfInBounds i true).getD j false = true := hl
      rw [getD_set_ne false (Ne.symm hji)] at hl'
      exact getD_set_true (h.closed j p hj hl' k hk)
  cases hd : o.dst with
  | none =>
    rw [hd] at hw
    rw [put_none] at hw ⊢
    refine ⟨h.size, h.defers, h.env, fun j p hj hl => ?_, by rw [live_set hil]; exact hw, hcl⟩
    by_cases hji : j = i
    · subst hji
      rw [hi] at hj
      injection hj with hj
      subst hj
      exact ⟨v, hv, fun d e => by rw [hd] at e; cases e⟩
    · rw [getD_set_ne false (Ne.symm hji)] at hl
      obtain ⟨u, hu, he⟩ := h.val j p hj hl
      exact ⟨u, hm j u hl hu, he⟩
  | some d =>
    rw [hd] at hw
    obtain ⟨hdn, hdist⟩ := hgd d hd
    have hsz : d < a.tmps.size := by rw [h.size]; exact hdn
    refine ⟨by simp [Act.put, h.size], by simp [Act.put, h.defers], fun t ht => ?_, fun j p hj hl => ?_, by rw [live_set hil]; exact hw, hcl⟩
    · have hne : d ≠ t := by
        rintro rfl
        have : writes ops d = true := List.any_eq_true.2 ⟨o, Array.mem_toList_iff.2 (Array.mem_of_getElem? hi), by simp [hd]⟩
        rw [this] at ht; cases ht
      rw [Reg.eval_other _ _ _ _ hne]; exact h.env t ht
    · by_cases hji : j = i
      · subst hji
        rw [hi] at hj
        injection hj with hj
        subst hj
        exact ⟨v, hv, fun d' e => by rw [hd] at e; injection e with e; subst e; exact Reg.eval_same _ _ _ hsz⟩
      · rw [getD_set_ne false (Ne.symm hji)] at hl
        obtain ⟨u, hu, he⟩ := h.val j p hj hl
        refine ⟨u, hm j u hl hu, fun d' e => ?_⟩
        rw [Reg.eval_other _ _ _ _ fun e2 => hdist j p hj hji (by rw [e, e2])]
        exact he d' e
theorem all_live {ops : Array Oper} {n : Nat} (hg : good ops n = true) {listed : Array Bool} (hs : listed.size = ops.size) (hr : Region.ready .any ops listed = []) :
    ∀ j, j < ops.size → listed.getD j false = true := by
  intro j
  induction j using Nat.strongRecOn with
  | ind j ih =>
    intro hj
    have hjl : j < listed.size := by omega
    cases hb : listed.getD j false with
    | true => rfl
    | false =>
      have hb' : listed.getD j true = false := by
        simpa [hjl] using hb
      obtain ⟨o, ho⟩ : ∃ o, ops[j]? = some o := ⟨_, Array.getElem?_eq_getElem hj⟩
      obtain ⟨_, hacy⟩ := good_at hg ho
      have : j ∈ Region.ready .any ops listed := mem_ready.2 ⟨hb', o, ho, fun e he hbd => ih e.on (hacy e he hbd) (by have := hacy e he hbd; omega)⟩
      rw [hr] at this; cases this
/-- What is asked of one operation. -/
def Goal (P : Program) (ops : Array Oper) (Q : Exit → Act → World → Prop) (V : Nat → Value → World → Prop) (W : (Nat → Bool) → Act → World → Prop) (live : Nat → Bool) (i : Nat) (o : Oper) (a : Act) (w : World) : Prop :=
  wpOp P ops Q i (Owes live V W i o a w) a w
/-- The obligation for an operation. -/
def Step (P : Program) (ops : Array Oper) (Q : Exit → Act → World → Prop) (a0 : Act) (V : Nat → Value → World → Prop) (W : (Nat → Bool) → Act → World → Prop) (i : Nat) (o : Oper) : Prop :=
  ∀ (a : Act) (w : World) (live : Nat → Bool), a.tmps.size = a0.tmps.size → (∀ t, writes ops t = false → a.eval (.tmp t) = a0.eval (.tmp t)) →
    (∀ j, waits o j = true → ∀ p d, ops[j]? = some p → p.dst = some d → V j (a.eval (.tmp d)) w) → Closed ops live → live i = false → (∀ k, waits o k = true → live k = true) → W live a w → Goal P ops Q V W live i o a w
def Steps (P : Program) (ops : Array Oper) (Q : Exit → Act → World → Prop) (a0 : Act) (V : Nat → Value → World → Prop) (W : (Nat → Bool) → Act → World → Prop) : Prop :=
  ∀ i o, ops[i]? = some o → Step P ops Q a0 V W i o
theorem any_of {P : Program} {ops : Array Oper} {Q : Exit → Act → World → Prop} {a0 : Act} {V : Nat → Value → World → Prop} {W : (Nat → Bool) → Act → World → Prop} (hg : good ops a0.tmps.size = true) (hst : Steps P ops Q a0 V W)
    (hend : ∀ listed a w, Inv ops a0 V W listed a w → (∀ j, j < ops.size → listed.getD j false = true) → Q .normal a w) :
    ∀ (fuel : Nat) (listed : Array Bool) (a : Act) (w : World), listed.size = ops.size → left listed ≤ fuel → Inv ops a0 V W listed a w → wpAny P .any ops Q fuel listed a w := by
  intro fuel
  induction fuel with
  | zero =>
    intro listed a w hs hl h
    have hr : Region.ready .any ops listed = [] := by
      cases hc : Region.ready .any ops listed with
      | nil => rfl
      | cons i r =>
        have hi : i ∈ Region.ready .any ops listed := by rw [hc]; exact List.mem_cons_self
        have := left_set (mem_ready.1 hi).1
        omega
    exact ⟨hr, hend listed a w h (all_live hg hs hr)⟩
  | succ fuel ih =>
    intro listed a w hs hl h
    refine ⟨fun hr => hend listed a w h (all_live hg hs hr), fun i hi => ?_⟩
    obtain ⟨h0, o, ho, hall⟩ := mem_ready.1 hi
    have hi' : i < ops.size := (Array.getElem?_eq_some_iff.1 ho).1
    have hlt : i < listed.size := by omega
    have hwait : ∀ k, waits o k = true → k < i ∧ listed.getD k false = true := fun k hk => by
      obtain ⟨e, he, heq⟩ := List.any_eq_true.1 hk
      have he := Array.mem_toList_iff.1 he
      simp only [Bool.and_eq_true, beq_iff_eq] at heq
      obtain ⟨rfl, hb⟩ := heq
      obtain ⟨_, hacy⟩ := good_at hg ho
      exact ⟨hacy e he hb, hall e he hb⟩
    have hstep := hst i o ho a w (fun j => listed.getD j false) h.size h.env (fun j hj p d hp hd => by
      obtain ⟨v, hv, he⟩ := h.val j p hp (hwait j hj).2
      rw [he d hd]
      exact hv) h.closed (by simpa [hlt] using h0) (fun k hk => (hwait k hk).2) h.world
    refine wpOp_mono (fun a' w' hw => ?_) hstep
    refine ih _ a' w' (by simpa using hs) ?_ (h.step hg ho hlt (fun k hk => (hwait k hk).2) hw)
    have := left_set h0
    omega
theorem region {P : Program} {id : Nat} {ops : Array Oper} {Q : Exit → Act → World → Prop} {a0 : Act} {w0 : World} (hm : P.follows .mixedOrders = true) (hg : good ops a0.tmps.size = true) (V : Nat → Value → World → Prop) (W : (Nat → Bool) → Act → World → Prop)
    (hW : W (fun _ => false) a0 w0.drew) (hst : Steps P ops Q a0 V W)
    (hend : ∀ a w live, a.tmps.size = a0.tmps.size → a.defers = a0.defers → (∀ t, writes ops t = false → a.eval (.tmp t) = a0.eval (.tmp t)) → (∀ j p, ops[j]? = some p → ∃ v, V j v w ∧ ∀ d, p.dst = some d → a.eval (.tmp d) = v) → (∀ j, j < ops.size → live j = true) → W live a w → Q .normal a w) :
    (Code.region id ops true).wp P Q a0 w0 := by
  refine wp_region_any hm ?_
  have hfalse : (fun j => (Array.replicate ops.size false).getD j false) = fun _ => false := by
    funext j
    by_cases hj : j < ops.size <;> simp [hj]
  refine any_of hg hst (fun listed a w h hall => hend a w (fun j => listed.getD j false) h.size h.defers h.env (fun j p hj => h.val j p hj (hall j (Array.getElem?_eq_some_iff.1 hj).1)) hall h.world) ops.size (Array.replicate ops.size false) a0 w0.drew (by simp) ?_ ?_
  · unfold left
    have := List.countP_le_length (p := (· == false)) (l := (Array.replicate ops.size false).toList)
    simpa using this
  · refine ⟨rfl, rfl, fun _ _ => rfl, fun j p hj hl => ?_, by rw [hfalse]; exact hW, fun j p hj hl k hk => ?_⟩
    · have hjl : j < ops.size := (Array.getElem?_eq_some_iff.1 hj).1
      simp [hjl] at hl
    · have hjl : j < ops.size := (Array.getElem?_eq_some_iff.1 hj).1
      have hl' : (Array.replicate ops.size false).getD j false = true := hl
      simp [hjl] at hl'
theorem steps_of {P : Program} {l : List Oper} {Q : Exit → Act → World → Prop} {a0 : Act} {V : Nat → Value → World → Prop} {W : (Nat → Bool) → Act → World → Prop}
    (h : Reg.All (fun i o => Step P l.toArray Q a0 V W i o) 0 l) : Steps P l.toArray Q a0 V W := by
  intro i o hi
  have := Reg.All.get l 0 h i o (by simpa using hi)
  rwa [Nat.zero_add] at this
section
variable {P : Program} {ops : Array Oper} {Q : Exit → Act → World → Prop} {V : Nat → Value → World → Prop} {W : (Nat → Bool) → Act → World → Prop} {live : Nat → Bool} {i : Nat} {o : Oper} {a : Act} {w : World}
/-- An operation that yields a value, and does nothing else. -/
theorem val (hi : ops[i]? = some o) (hw : Region.wanted o (yielded ops a.tmps) = true) (v : Value) (hr : (execOp a.eval o).run P w = .ok (.value v) w) (hv : V i v w) (hW : W (upd live i) (a.put o.dst v) w) : Goal P ops Q V W live i o a w := by
  unfold Goal wpOp
  rw [hi]
  simp only [hw, if_true]
  refine .inl ?_
  unfold Oper.wp
  rw [hr]
  exact ⟨v, rfl, hv, hW, fun _ _ _ h => h⟩
/-- An operation that yields a value, in another world; what those that have come up yielded is to stand. -/
theorem grow (hi : ops[i]? = some o) (hw : Region.wanted o (yielded ops a.tmps) = true) (v : Value) (w' : World) (hr : (execOp a.eval o).run P w = .ok (.value v) w') (hv : V i v w') (hW : W (upd live i) (a.put o.dst v) w')
    (hm : ∀ j v, live j = true → V j v w → V j v w') : Goal P ops Q V W live i o a w := by
  unfold Goal wpOp
  rw [hi]
  simp only [hw, if_true]
  refine .inl ?_
  unfold Oper.wp
  rw [hr]
  exact ⟨v, rfl, hv, hW, hm⟩
/-- A store. -/
theorem store (hi : ops[i]? = some o) (hw : Region.wanted o (yielded ops a.tmps) = true) (w' : World) (hr : (execOp a.eval o).run P w = .ok .skip w') (hv : V i undef w') (hW : W (upd live i) (a.put o.dst undef) w')
    (hm : ∀ j v, live j = true → V j v w → V j v w') : Goal P ops Q V W live i o a w := by
  unfold Goal wpOp
  rw [hi]
  simp only [hw, if_true]
  refine .inl ?_
  unfold Oper.wp
  rw [hr]
  exact ⟨undef, rfl, hv, hW, hm⟩
/-- A call of a Go function. -/
theorem call (hi : ops[i]? = some o) (hw : Region.wanted o (yielded ops a.tmps) = true) (f : FuncId) (args : Array Value) (hr : (execOp a.eval o).run P w = .ok (.enter f args) w)
    (hc : Calls P f args w fun e w' => ∃ v, e = .returned v ∧ V i v w' ∧ W (upd live i) (a.put o.dst v) w' ∧ ∀ j v, live j = true → V j v w → V j v w') : Goal P ops Q V W live i o a w := by
  unfold Goal wpOp
  rw [hi]
  simp only [hw, if_true]
  refine .inl ?_
  unfold Oper.wp
  rw [hr]
  refine hc.mono fun e w' he => ?_
  obtain ⟨v, rfl, h1, h2, h3⟩ := he
  exact ⟨v, rfl, h1, h2, h3⟩
/-- An operation whose guard says no. -/
theorem skip (hi : ops[i]? = some o) (hw : Region.wanted o (yielded ops a.tmps) = false) (hv : V i undef w) (hW : W (upd live i) (a.put o.dst undef) w) : Goal P ops Q V W live i o a w := by
  unfold Goal wpOp
  rw [hi]
  simp only [hw]
  exact ⟨undef, rfl, hv, hW, fun _ _ _ h => h⟩
end
theorem wanted_not {ops : Array Oper} {o : Oper} {a : Act} {g : Nat} {want b : Bool} (h : o.guard = some (g, want)) {t : Tmp} (ht : (ops[g]?).bind (·.dst) = some t) (hv : a.eval (.tmp t) = .bool b) (hb : (b == want) = false) : Region.wanted o (yielded ops a.tmps) = false := by
  have hlt : t < a.tmps.size := by
    rcases Nat.lt_or_ge t a.tmps.size with h' | h'
    · exact h'
    · simp [Act.eval, Array.getElem?_eq_none h', undef] at hv
  have h2 : a.tmps[t]? = some (.bool b) := by
    simpa [Act.eval, hlt] using hv
  simp only [Region.wanted, h, yielded, ht, Option.bind_some, h2]
  have : b ≠ want := by simpa using hb
  simp [this]
theorem wanted_undef {ops : Array Oper} {o : Oper} {a : Act} {g : Nat} {want : Bool} (h : o.guard = some (g, want)) {t : Tmp} (ht : (ops[g]?).bind (·.dst) = some t) (hv : a.eval (.tmp t) = undef) : Region.wanted o (yielded ops a.tmps) = false := by
  have h2 : ∀ b, a.tmps[t]? ≠ some (.bool b) := fun b e => by
    simp [Act.eval, e, undef] at hv
  simp only [Region.wanted, h, yielded, ht, Option.bind_some]
  rfl
theorem foldl_set (g : Nat → Value) (ws : List Nat) : ∀ arr : Array Value, (ws.foldl (fun r t => r.setIfInBounds t (g t)) arr).size = arr.size ∧ ∀ t, t < arr.size → (ws.foldl (fun r t => r.setIfInBounds t (g t)) arr)[t]? = if t ∈ ws then some (g t) else arr[t]? := by
  induction ws with
  | nil => intro arr; exact ⟨rfl, fun t _ => by simp⟩
  | cons x ws ih =>
    intro arr
    rw [List.foldl_cons]
    obtain ⟨h1, h2⟩ := ih (arr.setIfInBounds x (g x))
    refine ⟨by rw [h1]; simp, fun t ht => ?_⟩
    rw [h2 t (by simpa using ht)]
    by_cases hm : t ∈ ws
    · rw [if_pos hm, if_pos (List.mem_cons_of_mem _ hm)]
    · rw [if_neg hm]
      by_cases hx : t = x
      · subst hx
        rw [if_pos List.mem_cons_self]
        simp [ht]
      · rw [if_neg (by simp [hx, hm]), Array.getElem?_setIfInBounds_ne (Ne.symm hx)]
/-- A frame behind a region: as it was, but for the slots that the region writes. -/
theorem act_ws {ops : Array Oper} (a : Act) (T : Array Value) (dl : List Deferred) (hs : a.tmps.size = T.size) (hd : a.defers = dl) (E : ∀ t, writes ops t = false → a.eval (.tmp t) = (Act.mk T dl).eval (.tmp t)) (ws : List Nat)
    (hw : ((List.range T.size).all fun t => !writes ops t || ws.contains t) = true) : a = ⟨ws.foldl (fun r t => r.setIfInBounds t (a.eval (.tmp t))) T, dl⟩ := by
  obtain ⟨h1, h2⟩ := foldl_set (fun t => a.eval (.tmp t)) ws T
  obtain ⟨tmps, defers⟩ := a
  simp only at hs hd
  subst hd
  congr 1
  apply Array.ext_getElem?
  intro t
  by_cases ht : t < T.size
  · rw [h2 t ht]
    have hta : tmps[t]? = some ((Act.mk tmps defers).eval (.tmp t)) := by
      have : t < tmps.size := by omega
      simp [Act.eval, this]
    by_cases hm : t ∈ ws
    · rw [if_pos hm, hta]
    · rw [if_neg hm, hta]
      have hnw : writes ops t = false := by
        have := List.all_eq_true.1 hw t (List.mem_range.2 ht)
        simp only [Bool.or_eq_true, Bool.not_eq_true'] at this
        rcases this with h | h
        · exact h
        · exact absurd (List.contains_iff_mem.1 h) hm
      rw [E t hnw]
      simp [Act.eval, ht]
  · rw [Array.getElem?_eq_none (by omega), Array.getElem?_eq_none (by rw [h1]; omega)]
/-- A region that reads, and stores once, at its operation N. -/
def StW (w0 : World) (N : Nat) (p : Addr) (v : Value) (live : Nat → Bool) (w : World) : Prop := w = if live N = true then w0.setCell p v else w0
section
variable {w0 w : World} {N i : Nat} {p : Addr} {v : Value} {live : Nat → Bool}
theorem StW.off (h : StW w0 N p v live w) (hl : live N = false) : w = w0 := by unfold StW at h; rw [hl] at h; exact h
theorem StW.upd (h : StW w0 N p v live w) (hi : i ≠ N) : StW w0 N p v (upd live i) w := by
  have e : Rgs.upd live i N = live N := by unfold Rgs.upd; simp [Ne.symm hi]
  unfold StW at h ⊢
  rw [e]; exact h
theorem StW.put (w0 : World) (N : Nat) (p : Addr) (v : Value) (live : Nat → Bool) : StW w0 N p v (Rgs.upd live N) (w0.setCell p v) := by
  unfold StW
  rw [upd_self]; rfl
theorem StW.keepN (h : StW w0 N p v live w) : w = w0 ∨ w = w0.setCell p v := by unfold StW at h; split at h <;> simp [h]
theorem StW.on (h : StW w0 N p v live w) (hl : live N = true) : w = w0.setCell p v := by unfold StW at h; rw [hl] at h; exact h
end
/-- A region that stores twice, N ahead of M. -/
def StW2 (w0 : World) (N M : Nat) (p q : Addr) (u v : Value) (live : Nat → Bool) (w : World) : Prop := w = if live M = true then (w0.setCell p u).setCell q v else if live N = true then w0.setCell p u else w0
section
variable {w0 w : World} {N M i : Nat} {p q : Addr} {u v : Value} {live : Nat → Bool}
theorem StW2.any (h : StW2 w0 N M p q u v live w) : w = w0 ∨ w = w0.setCell p u ∨ w = (w0.setCell p u).setCell q v := by
  unfold StW2 at h
  split at h
  · exact .inr (.inr h)
  · split at h
    · exact .inr (.inl h)
    · exact .inl h
theorem StW2.upd (h : StW2 w0 N M p q u v live w) (h1 : i ≠ N) (h2 : i ≠ M) : StW2 w0 N M p q u v (upd live i) w := by
  have e1 : Rgs.upd live i N = live N := by unfold Rgs.upd; simp [Ne.symm h1]
  have e2 : Rgs.upd live i M = live M := by unfold Rgs.upd; simp [Ne.symm h2]
  unfold StW2 at h ⊢
  rw [e1, e2]; exact h
theorem StW2.off (h : StW2 w0 N M p q u v live w) (h1 : live N = false) (h2 : live M = false) : w = w0 := by unfold StW2 at h; rw [h1, h2] at h; exact h
theorem StW2.mid (h : StW2 w0 N M p q u v live w) (h1 : live N = true) (h2 : live M = false) : w = w0.setCell p u := by unfold StW2 at h; rw [h1, h2] at h; exact h
theorem StW2.on (h : StW2 w0 N M p q u v live w) (h2 : live M = true) : w = (w0.setCell p u).setCell q v := by unfold StW2 at h; rw [h2] at h; exact h
theorem StW2.put1 (w0 : World) (hMN : M ≠ N) (p q : Addr) (u v : Value) (live : Nat → Bool) (h2 : live M = false) : StW2 w0 N M p q u v (Rgs.upd live N) (w0.setCell p u) := by
  unfold StW2
  have e2 : Rgs.upd live N M = false := by unfold Rgs.upd; simp [hMN, h2]
  rw [upd_self, e2]; rfl
theorem StW2.put2 (w0 : World) (N M : Nat) (p q : Addr) (u v : Value) (live : Nat → Bool) : StW2 w0 N M p q u v (Rgs.upd live M) ((w0.setCell p u).setCell q v) := by
  unfold StW2
  rw [upd_self]; rfl
end
/-- A region that stores twice, by whatever worlds. -/
def StG (w0 w1 w2 : World) (N M : Nat) (live : Nat → Bool) (w : World) : Prop := w = if live M = true then w2 else if live N = true then w1 else w0
section
variable {w0 w1 w2 w : World} {N M i : Nat} {live : Nat → Bool}
theorem StG.upd (h : StG w0 w1 w2 N M live w) (h1 : i ≠ N) (h2 : i ≠ M) : StG w0 w1 w2 N M (Rgs.upd live i) w := by
  have e1 : Rgs.upd live i N = live N := by unfold Rgs.upd; simp [Ne.symm h1]
  have e2 : Rgs.upd live i M = live M := by unfold Rgs.upd; simp [Ne.symm h2]
  unfold StG at h ⊢
  rw [e1, e2]; exact h
theorem StG.off (h : StG w0 w1 w2 N M live w) (h1 : live N = false) (h2 : live M = false) : w = w0 := by unfold StG at h; rw [h1, h2] at h; exact h
theorem StG.mid (h : StG w0 w1 w2 N M live w) (h1 : live N = true) (h2 : live M = false) : w = w1 := by unfold StG at h; rw [h1, h2] at h; exact h
theorem StG.on (h : StG w0 w1 w2 N M live w) (h2 : live M = true) : w = w2 := by unfold StG at h; rw [h2] at h; exact h
theorem StG.put1 (w0 w1 w2 : World) (hMN : M ≠ N) (live : Nat → Bool) (h2 : live M = false) : StG w0 w1 w2 N M (Rgs.upd live N) w1 := by
  unfold StG
  have e2 : Rgs.upd live N M = false := by unfold Rgs.upd; simp [hMN, h2]
  rw [upd_self, e2]; rfl
theorem StG.put2 (w0 w1 w2 : World) (N M : Nat) (live : Nat → Bool) : StG w0 w1 w2 N M (Rgs.upd live M) w2 := by
  unfold StG
  rw [upd_self]; rfl
end
end Rgs
end Go.Proofs.Ytoaocdmcjjohgaa

/- Law 8's turned: a row with runs side by side turned about, at places. -/
namespace Go.Proofs.Ytoaocdmcjjohgaa
open Go.RowKit Tab
set_option linter.unusedSimpArgs false
set_option linter.unusedVariables false

def rcl (x : Rn) : List Value := [.int .i64 x.p, .int .i64 (x.n : Int)]
theorem rcl_len (x : Rn) : (rcl x).length = 2 := rfl
theorem rs_flat (L : List Rn) : rs L = L.flatMap rcl := by
  induction L with
  | nil => rfl
  | cons x L ih => rw [List.flatMap_cons, ← ih]; rfl
theorem swap_perm (l : List Rn) (k : Nat) : (swapAt l k).Perm l := by
  cases hx : l[k]? with
  | none => unfold swapAt; rw [hx]
  | some x =>
    cases hy : l[k + 1]? with
    | none => unfold swapAt; rw [hx, hy]
    | some y =>
      rw [swap_two hx hy]
      conv => rhs; rw [split_two hx hy]
      exact List.Perm.append_left _ (List.Perm.swap _ _ _)
theorem swap_len (l : List Rn) (k : Nat) : (swapAt l k).length = l.length := (swap_perm l k).length_eq
theorem swap_set {l : List Rn} {k : Nat} {x y : Rn} (hx : l[k]? = some x) (hy : l[k + 1]? = some y) : swapAt l k = (l.set k y).set (k + 1) x := by
  unfold swapAt
  rw [hx, hy]
theorem ticks_perm {a b : List Rn} (h : a.Perm b) : ticks a = ticks b := by
  induction h with
  | nil => rfl
  | cons x _ ih => simp only [ticks, ih]
  | swap x y l => simp only [ticks]; omega
  | trans _ _ h1 h2 => exact h1.trans h2
theorem OwnB.cellK {α : Type} {E s : Nat} {f : α → List Value} {w : World} {B g n c : Nat} {l : List α} (h : OwnB E s f w B (some ⟨g, 0, none⟩) n c l) (hf : ∀ x, (f x).length = s) {i k : Nat} {x : α} {v : Value} (hx : l[i]? = some x) (hk : k < s) (hv : (f x)[k]? = some v) : w.cell? ⟨g, i * s + k, none⟩ = some v ∧ w.frozen? ⟨g, i * s + k, none⟩ = false := by
  have hi : i < l.length := (List.getElem?_eq_some_iff.1 hx).1
  have h1 : (i + 1) * s ≤ l.length * s := Nat.mul_le_mul_right _ hi
  rw [Nat.succ_mul] at h1
  refine ⟨?_, World.ownsRow.frozenAt h.own _⟩
  rw [World.ownsRow.cellAt h.own (i * s + k) (by rw [← h.len]; omega), flat_get hf l i k x hx hk]
  exact hv
theorem OwnB.putK {α : Type} {E s : Nat} {f : α → List Value} {w : World} {B g n c : Nat} {l : List α} (h : OwnB E s f w B (some ⟨g, 0, none⟩) n c l) (hf : ∀ x, (f x).length = s) {i k : Nat} {x y : α} {v : Value} (hx : l[i]? = some x) (hk : k < s) (hy : f y = (f x).set k v) :
    OwnB E s f (w.setCell ⟨g, i * s + k, none⟩ v) B (some ⟨g, 0, none⟩) n c (l.set i y) := by
  have hi : i < l.length := (List.getElem?_eq_some_iff.1 hx).1
  have h1 : (i + 1) * s ≤ l.length * s := Nat.mul_le_mul_right _ hi
  rw [Nat.succ_mul] at h1
  refine ⟨by rw [List.length_set]; exact h.len, ?_⟩
  rw [flat_set hf l i k x y v hx hk hy]
  refine h.own.set (i * s + k) v ?_
  rw [flat_len hf]
  omega
/-- A row of runs of the call's own, in as many cells. -/
theorem OwnB.cellR {w : World} {B g n c : Nat} {X : List Rn} (h : OwnB 39 2 rcl w B (some ⟨g, 0, none⟩) n c X) {i : Nat} {x : Rn} (hx : X[i]? = some x) : w.cell? ⟨g, i * 2, none⟩ = some (.int .i64 x.p) ∧ w.cell? ⟨g, i * 2 + 1, none⟩ = some (.int .i64 (x.n : Int)) ∧ w.frozen? ⟨g, i * 2, none⟩ = false ∧ w.frozen? ⟨g, i * 2 + 1, none⟩ = false := by
  have h0 := OwnB.cellK h rcl_len (k := 0) hx (by omega) rfl
  have h1 := OwnB.cellK h rcl_len (k := 1) hx (by omega) rfl
  exact ⟨h0.1, h1.1, h0.2, h1.2⟩
theorem OwnB.putR {w : World} {B g n c : Nat} {X : List Rn} (h : OwnB 39 2 rcl w B (some ⟨g, 0, none⟩) n c X) {i : Nat} {x : Rn} (hx : X[i]? = some x) (y : Rn) : OwnB 39 2 rcl ((w.setCell ⟨g, i * 2, none⟩ (.int .i64 y.p)).setCell ⟨g, i * 2 + 1, none⟩ (.int .i64 (y.n : Int))) B (some ⟨g, 0, none⟩) n c (X.set i y) := by
  have hil := (List.getElem?_eq_some_iff.1 hx).1
  have h1 := OwnB.putK h rcl_len (k := 0) (y := ⟨y.p, x.n⟩) hx (by omega) (v := .int .i64 y.p) rfl
  have hx1 : (X.set i ⟨y.p, x.n⟩)[i]? = some ⟨y.p, x.n⟩ := List.getElem?_set_self hil
  have h2 := OwnB.putK h1 rcl_len (k := 1) (y := y) hx1 (by omega) (v := .int .i64 (y.n : Int)) rfl
  rw [List.set_set] at h2
  exact h2
/-- A row, new, of the same runs in some order. -/
def TurR (L : List Rn) (w : World) (e : Ending) (w' : World) : Prop := ∃ A c X, e = .returned (.slice A L.length c) ∧ RdR w' w'.heap.size A L.length X ∧ L.length ≤ c ∧ X.Perm L ∧ Below w.heap.size w w'
end Go.Proofs.Ytoaocdmcjjohgaa

/- A move is done: by the document's own answer. -/
namespace Go.Proofs.Ytoaocdmcjjohgaa
open Go.RowKit Tab
set_option linter.unusedSimpArgs false
set_option linter.unusedVariables false

theorem mv_ticks {L : List Rn} {i j : Nat} {x y : Rn} (hij : i < j) (hx : L[i]? = some x) (hy : L[j]? = some y) (right : Bool) : ticks (mv L i j right) = ticks L := by
  rw [mv_split hij hx hy]
  conv => rhs; rw [split_far hij hx hy]
  have e : ∀ (X M Y : List Rn) (a b : Rn), ticks (X ++ a :: (M ++ b :: Y)) = ticks X + (a.n + (ticks M + (b.n + ticks Y))) := fun X M Y a b => by
    rw [ticks_append]
    simp only [ticks]
    rw [ticks_append]
    simp only [ticks]
  rw [e, e]
  cases right <;> simp <;> omega
/-- What Do answers, by any numbers. -/
def doZ (L : List Rn) (I J : Int) (right : Bool) : List Rn := if 0 ≤ I ∧ I < J ∧ J < (L.length : Int) then tidy (mv L I.toNat J.toNat right) else L
/-- It answers a row of runs, and leaves what was there. -/
def RowQ (L : List Rn) (w : World) (e : Ending) (w' : World) : Prop := ∃ A c, e = .returned (.slice A L.length c) ∧ RdR w' w'.heap.size A L.length L ∧ L.length ≤ c ∧ Below w.heap.size w w'
set_option maxRecDepth 100000 in
set_option maxHeartbeats 8000000 in
theorem rdo_any (A : Option Addr) (n c0 : Nat) (L : List Rn) (I J : Int) (rt : Bool) (w : World) (h : RdR w w.heap.size A n L) (hc : n ≤ c0) (hn : n ≤ 1048576) (ht : ticks L ≤ 1099511627776) :
    Calls Try.prog 32 #[.slice A n c0, .agg #[.int .i64 I, .int .i64 J, .bool rt]] w (RowQ (doZ L I J rt) w) := by
  have hlen := h.len
  have hb0 := bl1 w (.cells #[.int .i64 I, .int .i64 J, .bool rt] 76)
  have hv0 : Vec (w.alloc (.cells #[.int .i64 I, .int .i64 J, .bool rt] 76)) w.heap.size 3 (fun q => if q = 0 then .int .i64 I else if q = 1 then .int .i64 J else .bool rt) := Vec.lit w _ _ 3 _ fun q hq => by
    rcases (by omega : q = 0 ∨ q = 1 ∨ q = 2) with rfl | rfl | rfl <;> rfl
  have hP0 := h.on hb0
  obtain ⟨R, hR⟩ : ∃ R, R = doZ L I J rt := ⟨_, rfl⟩
  have HLN := Lib.hid hlen
  rw [← hR]
  have HR := Lib.hid hR
  clear h hlen hR
  go_enter Try.func32, Try.ntmps32
  go_upto_region 1 with fail
  generalize w.alloc (.cells #[.int .i64 I, .int .i64 J, .bool rt] 76) = W at hb0 hv0 hP0 ⊢
  obtain ⟨gm, hgm⟩ : ∃ gm, gm = w.heap.size := ⟨_, rfl⟩
  rw [← hgm] at hv0 ⊢
  have hgw : gm < W.heap.size := hv0.lt
  have HGM := Lib.hid hgm
  clear hgm
  have hbe := bl1 W (.cells #[] 39)
  have hown0 : OwnV 39 2 (W.alloc (.cells #[] 39)) W.heap.size (some ⟨W.heap.size, 0, none⟩) 0 0 [] := ownV_lit W _ 2 W.heap.size #[] 0 rfl (Nat.le_refl _) (by unfold maxLen; omega)
  have hrd := (hP0.on hbe).rd
  have hle : W.heap.size ≤ (W.alloc (.cells #[] 39)).heap.size := hbe.size
  go_upto_region 2 with (at_builtin; go_loud (refine wpList_appV elR rfl (.tmp 6) (.tmp 7) rfl rfl W.heap.size (some ⟨W.heap.size, 0, none⟩) 0 0 [] rfl hown0 A n c0 (rs L) _ rfl hrd (by rw [rs_length, HLN.out]) (rs_one _) (by omega) (by unfold maxLen; omega) hle n (Nat.zero_add _) (rs L) (List.nil_append _) ?_; intro A4 c4 wq hw4 hb4 hot4))
  have hbq := hbe.trans hb4
  have HBQ := Lib.hid (hb0.trans (hbq.mono hb0.size))
  have HOB : Hid (OwnB 39 2 rcl wq W.heap.size A4 n c4 L) := Lib.hid ⟨HLN.out, by rw [← rs_flat]; exact hw4⟩
  have HVM := Lib.hid (hv0.on hbq)
  obtain ⟨c, rfl⟩ : ∃ c, c = c4 := ⟨_, rfl⟩
  have hcap : n ≤ c := HOB.out.cap
  clear hw4 hb4 hot4 hown0 hrd hle hbe hbq hb0 hv0 hP0
  have q0 := HVM.out.cell 0 (by omega)
  have q1 := HVM.out.cell 1 (by omega)
  have q2 := HVM.out.cell 2 (by omega)
  simp only [if_true, if_false, Nat.one_ne_zero, Nat.succ_ne_zero] at q0 q1 q2
  have q0' : wq.cell? ⟨gm, 0, none⟩ = some (.int .i64 I) := q0
  have q1' : wq.cell? ⟨gm, 1, none⟩ = some (.int .i64 J) := q1
  have q2' : wq.cell? ⟨gm, 2, none⟩ = some (.bool rt) := q2
  clear q0 q1 q2
  have hself : ¬ (0 ≤ I ∧ I < J ∧ J < (n : Int)) → RowQ R w (.returned (.slice A4 n c)) wq := fun hno => by
    have e : R = L := by
      rw [HR.out]
      unfold doZ
      rw [HLN.out, if_neg hno]
    rw [e]
    have hl := HLN.out
    subst hl
    exact ⟨A4, c, rfl, ⟨rfl, by rw [rs_flat]; exact HOB.out.own.rd⟩, hcap, HBQ.out⟩
  have HSELF := Lib.hid hself
  clear hself
  by_cases hI : I < 0
  · have e0 : decide (I < 0) = true := decide_eq_true hI
    have HN := Lib.hid (HSELF.out (by omega))
    go_wp2_with fail
    go_ret
    exact HN.out
  · have e0 : decide (I < 0) = false := decide_eq_false hI
    by_cases hJ : J ≤ I
    · have e1 : decide (J ≤ I) = true := decide_eq_true hJ
      have HN := Lib.hid (HSELF.out (by omega))
      go_wp2_with fail
      go_ret
      exact HN.out
    · have e1 : decide (J ≤ I) = false := decide_eq_false hJ
      by_cases hJn : (n : Int) ≤ J
      · have e2 : decide ((n : Int) ≤ J) = true := decide_eq_true hJn
        have HN := Lib.hid (HSELF.out (by omega))
        go_wp2_with fail
        go_ret
        exact HN.out
      · have e2 : decide ((n : Int) ≤ J) = false := decide_eq_false hJn
        obtain ⟨i, rfl⟩ : ∃ i : Nat, I = i := ⟨I.toNat, by omega⟩
        obtain ⟨j, rfl⟩ : ∃ j : Nat, J = j := ⟨J.toNat, by omega⟩
        have hij : i < j := by omega
        have hjn : j < n := by omega
        obtain ⟨x, hx⟩ : ∃ x, L[i]? = some x := ⟨_, List.getElem?_eq_getElem (by have := HLN.out; omega)⟩
        obtain ⟨y, hy⟩ : ∃ y, L[j]? = some y := ⟨_, List.getElem?_eq_getElem (by have := HLN.out; omega)⟩
        obtain ⟨g, rfl, hgW, _⟩ := HOB.out.block (by omega)
        have hBg : w.heap.size ≤ g := by have := HGM.out; omega
        have HOUT : Hid (∀ b e w', rt = b → RowQ (tidy (mv L i j b)) w e w' → RowQ R w e w') := Lib.hid fun b e w' hb hq => by
          subst hb
          have e : R = tidy (mv L i j rt) := by
            rw [HR.out]
            unfold doZ
            rw [HLN.out, if_pos (by omega)]
            rfl
          rw [e]
          exact hq
        have hxn : x.n ≤ ticks L := mem_ticks (List.mem_of_getElem? hx)
        have hyn : y.n ≤ ticks L := mem_ticks (List.mem_of_getElem? hy)
        have HSM := Lib.hid fun W => sum_any (y.n : Int) (x.n : Int) (y.n : Int) (x.n : Int) W (by omega) (by omega) (by omega) rfl rfl
        have HLT : Hid ((i : Int) < (n : Int) ∧ i < n ∧ (j : Int) < (n : Int) ∧ j < n) := Lib.hid ⟨by omega, by omega, by omega, by omega⟩
        clear HSELF hxn hyn
        cases rt with
        | true =>
          go_upto_region 5 with fail
          clear q0' q1' q2'
          have hmm := HOB.out.below (w' := wq.drew) (Below.refl _ _).drew
          have cy : wq.drew.cell? ⟨g, j * 2 + 1, none⟩ = some (.int .i64 (y.n : Int)) := (hmm.cellR hy).2.1
          have cx : wq.drew.cell? ⟨g, i * 2 + 1, none⟩ = some (.int .i64 (x.n : Int)) := (hmm.cellR hx).2.1
          have e1 : wq.drew.cell? ⟨g, j * 2 + 1, none⟩ = some (.int .i64 (y.n : Int)) := (hmm.cellR hy).2.1
          have e2 : wq.drew.frozen? ⟨g, j * 2 + 1, none⟩ = false := (hmm.cellR hy).2.2.2
          have hm1 := OwnB.putK hmm rcl_len (k := 1) (y := ⟨y.p, y.n + x.n⟩) hy (by omega) (v := (.int .i64 ((y.n : Int) + (x.n : Int)))) rfl
          have h2x : (L.set j ⟨y.p, y.n + x.n⟩)[i]? = some x := by rw [List.getElem?_set_ne (by omega)]; exact hx
          have k1 : (wq.drew.setCell ⟨g, j * 2 + 1, none⟩ (.int .i64 ((y.n : Int) + (x.n : Int)))).cell? ⟨g, i * 2 + 1, none⟩ = some (.int .i64 (x.n : Int)) := (hm1.cellR h2x).2.1
          have k2 : (wq.drew.setCell ⟨g, j * 2 + 1, none⟩ (.int .i64 ((y.n : Int) + (x.n : Int)))).frozen? ⟨g, i * 2 + 1, none⟩ = false := (hm1.cellR h2x).2.2.2
          have hm2 := OwnB.putK hm1 rcl_len (k := 1) (y := ⟨x.p, 0⟩) h2x (by omega) (v := (.int .i64 0)) rfl
          have hmv : (L.set j ⟨y.p, y.n + x.n⟩).set i ⟨x.p, 0⟩ = mv L i j true := by
            unfold mv
            rw [hx, hy]
            rfl
          rw [hmv] at hm2
          have HFIN := Lib.hid hm2
          have HBF : Hid (Below w.heap.size w ((wq.drew.setCell ⟨g, j * 2 + 1, none⟩ (.int .i64 ((y.n : Int) + (x.n : Int)))).setCell ⟨g, i * 2 + 1, none⟩ (.int .i64 0))) := Lib.hid ((HBQ.out.drew.setCell (p := ⟨g, j * 2 + 1, none⟩) hBg _).setCell (p := ⟨g, i * 2 + 1, none⟩) hBg _)
          have HFA : Hid (∀ wx, (wx = wq.drew ∨ wx = wq.drew.setCell ⟨g, j * 2 + 1, none⟩ (.int .i64 ((y.n : Int) + (x.n : Int))) ∨ wx = (wq.drew.setCell ⟨g, j * 2 + 1, none⟩ (.int .i64 ((y.n : Int) + (x.n : Int)))).setCell ⟨g, i * 2 + 1, none⟩ (.int .i64 0)) → wx.cell? ⟨gm, 0, none⟩ = some (.int .i64 (i : Int)) ∧ wx.cell? ⟨gm, 1, none⟩ = some (.int .i64 (j : Int))) := Lib.hid fun wx hwx => by
            have hvd : Vec wq.drew gm 3 _ := HVM.out.drewN 1
            have hgm : gm ≠ g := by omega
            rcases hwx with rfl | rfl | rfl
            · exact ⟨hvd.cell 0 (by omega), hvd.cell 1 (by omega)⟩
            · exact ⟨(hvd.other ⟨g, j * 2 + 1, none⟩ _ hgm).cell 0 (by omega), (hvd.other ⟨g, j * 2 + 1, none⟩ _ hgm).cell 1 (by omega)⟩
            · exact ⟨((hvd.other ⟨g, j * 2 + 1, none⟩ _ hgm).other ⟨g, i * 2 + 1, none⟩ _ hgm).cell 0 (by omega), ((hvd.other ⟨g, j * 2 + 1, none⟩ _ hgm).other ⟨g, i * 2 + 1, none⟩ _ hgm).cell 1 (by omega)⟩
          clear hmm hm1 hm2 hmv h2x
          go_wp2_with fail
          refine Rgs.region (by kernel_rfl) (by kernel_rfl) (fun (opn : Nat) (vl : Value) (_ : World) => match opn with | 0 => vl = .slice (some ⟨g, 0, none⟩) n c | 1 => vl = .pointer (some ⟨gm, 1, none⟩) | 2 => vl = .int .i64 (j : Int) | 3 => vl = .slice (some ⟨g, 0, none⟩) n c | 4 => vl = .pointer (some ⟨gm, 0, none⟩) | 5 => vl = .int .i64 (i : Int) | 6 => vl = .slice (some ⟨g, 0, none⟩) n c | 7 => vl = .pointer (some ⟨gm, 1, none⟩) | 8 => vl = .int .i64 (j : Int) | 9 => vl = .pointer (some ⟨g, j * 2, none⟩) | 10 => vl = .pointer (some ⟨g, j * 2 + 1, none⟩) | 11 => vl = .int .i64 (y.n : Int) | 12 => vl = .slice (some ⟨g, 0, none⟩) n c | 13 => vl = .pointer (some ⟨gm, 0, none⟩) | 14 => vl = .int .i64 (i : Int) | 15 => vl = .pointer (some ⟨g, i * 2, none⟩) | 16 => vl = .pointer (some ⟨g, i * 2 + 1, none⟩) | 17 => vl = .int .i64 (x.n : Int) | 18 => vl = .int .i64 ((y.n : Int) + (x.n : Int)) | 19 => vl = .pointer (some ⟨g, j * 2, none⟩) | 20 => vl = .pointer (some ⟨g, j * 2 + 1, none⟩) | 21 => vl = undef | 22 => vl = .pointer (some ⟨g, i * 2, none⟩) | 23 => vl = .pointer (some ⟨g, i * 2 + 1, none⟩) | 24 => vl = undef | _ => True) (fun live _ w' => Rgs.StW2 wq.drew 21 24 ⟨g, j * 2 + 1, none⟩ ⟨g, i * 2 + 1, none⟩ (.int .i64 ((y.n : Int) + (x.n : Int))) (.int .i64 0) live w') rfl (Rgs.steps_of ?_) ?_
          · refine ⟨?_, ?_, ?_, ?_, ?_, ?_, ?_, ?_, ?_, ?_, ?_, ?_, ?_, ?_, ?_, ?_, ?_, ?_, ?_, ?_, ?_, ?_, ?_, ?_, ?_, trivial⟩
            · intro a w1 live S E D C h0 hk hW
              have e5 : a.eval (.tmp 5) = .slice (some ⟨g, 0, none⟩) n c := E 5 rfl
              exact Rgs.val rfl (Reg.wanted_free rfl) (.slice (some ⟨g, 0, none⟩) n c) (by have c := Reg.consts a; generalize a.eval = ρ at *; simp [execOp, go_sem, c.1, c.2, e5]) rfl (hW.upd (by decide) (by decide))
            · intro a w1 live S E D C h0 hk hW
              have e3 : a.eval (.tmp 3) = .pointer (some ⟨gm, 0, none⟩) := E 3 rfl
              exact Rgs.val rfl (Reg.wanted_free rfl) (.pointer (some ⟨gm, 1, none⟩)) (by have c := Reg.consts a; generalize a.eval = ρ at *; simp [execOp, go_sem, c.1, c.2, e3]) rfl (hW.upd (by decide) (by decide))
            · intro a w1 live S E D C h0 hk hW
              have d1 : a.eval (.tmp 30) = .pointer (some ⟨gm, 1, none⟩) := D 1 rfl _ _ rfl rfl
              have hc0 := (HFA.out w1 hW.any).2
              exact Rgs.val rfl (Reg.wanted_free rfl) (.int .i64 (j : Int)) (by have c := Reg.consts a; generalize a.eval = ρ at *; simp [execOp, go_sem, c.1, c.2, d1, hc0]) rfl (hW.upd (by decide) (by decide))
            · intro a w1 live S E D C h0 hk hW
              have e5 : a.eval (.tmp 5) = .slice (some ⟨g, 0, none⟩) n c := E 5 rfl
              exact Rgs.val rfl (Reg.wanted_free rfl) (.slice (some ⟨g, 0, none⟩) n c) (by have c := Reg.consts a; generalize a.eval = ρ at *; simp [execOp, go_sem, c.1, c.2, e5]) rfl (hW.upd (by decide) (by decide))
            · intro a w1 live S E D C h0 hk hW
              have e3 : a.eval (.tmp 3) = .pointer (some ⟨gm, 0, none⟩) := E 3 rfl
              exact Rgs.val rfl (Reg.wanted_free rfl) (.pointer (some ⟨gm, 0, none⟩)) (by have c := Reg.consts a; generalize a.eval = ρ at *; simp [execOp, go_sem, c.1, c.2, e3]) rfl (hW.upd (by decide) (by decide))
            · intro a w1 live S E D C h0 hk hW
              have d4 : a.eval (.tmp 33) = .pointer (some ⟨gm, 0, none⟩) := D 4 rfl _ _ rfl rfl
              have hc0 := (HFA.out w1 hW.any).1
              exact Rgs.val rfl (Reg.wanted_free rfl) (.int .i64 (i : Int)) (by have c := Reg.consts a; generalize a.eval = ρ at *; simp [execOp, go_sem, c.1, c.2, d4, hc0]) rfl (hW.upd (by decide) (by decide))
            · intro a w1 live S E D C h0 hk hW
              have e5 : a.eval (.tmp 5) = .slice (some ⟨g, 0, none⟩) n c := E 5 rfl
              exact Rgs.val rfl (Reg.wanted_free rfl) (.slice (some ⟨g, 0, none⟩) n c) (by have c := Reg.consts a; generalize a.eval = ρ at *; simp [execOp, go_sem, c.1, c.2, e5]) rfl (hW.upd (by decide) (by decide))
            · intro a w1 live S E D C h0 hk hW
              have e3 : a.eval (.tmp 3) = .pointer (some ⟨gm, 0, none⟩) := E 3 rfl
              exact Rgs.val rfl (Reg.wanted_free rfl) (.pointer (some ⟨gm, 1, none⟩)) (by have c := Reg.consts a; generalize a.eval = ρ at *; simp [execOp, go_sem, c.1, c.2, e3]) rfl (hW.upd (by decide) (by decide))
            · intro a w1 live S E D C h0 hk hW
              have d7 : a.eval (.tmp 36) = .pointer (some ⟨gm, 1, none⟩) := D 7 rfl _ _ rfl rfl
              have hc0 := (HFA.out w1 hW.any).2
              exact Rgs.val rfl (Reg.wanted_free rfl) (.int .i64 (j : Int)) (by have c := Reg.consts a; generalize a.eval = ρ at *; simp [execOp, go_sem, c.1, c.2, d7, hc0]) rfl (hW.upd (by decide) (by decide))
            · intro a w1 live S E D C h0 hk hW
              have d6 : a.eval (.tmp 35) = .slice (some ⟨g, 0, none⟩) n c := D 6 rfl _ _ rfl rfl
              have d8 : a.eval (.tmp 37) = .int .i64 (j : Int) := D 8 rfl _ _ rfl rfl
              have i1 := HLT.out
              obtain ⟨i1, i2, i3, i4⟩ := i1
              have ead := mk_add (g) (j * 2)
              exact Rgs.val rfl (Reg.wanted_free rfl) (.pointer (some ⟨g, j * 2, none⟩)) (by have c := Reg.consts a; generalize a.eval = ρ at *; simp [execOp, go_sem, c.1, c.2, d6, d8, i1, i2, i3, i4, ead]) rfl (hW.upd (by decide) (by decide))
            · intro a w1 live S E D C h0 hk hW
              have d9 : a.eval (.tmp 38) = .pointer (some ⟨g, j * 2, none⟩) := D 9 rfl _ _ rfl rfl
              exact Rgs.val rfl (Reg.wanted_free rfl) (.pointer (some ⟨g, j * 2 + 1, none⟩)) (by have c := Reg.consts a; generalize a.eval = ρ at *; simp [execOp, go_sem, c.1, c.2, d9]) rfl (hW.upd (by decide) (by decide))
            · intro a w1 live S E D C h0 hk hW
              have d10 : a.eval (.tmp 39) = .pointer (some ⟨g, j * 2 + 1, none⟩) := D 10 rfl _ _ rfl rfl
              have l18 := Reg.not_live C h0 (j := 18) rfl rfl
              have l21 := Reg.not_live C l18 (j := 21) rfl rfl
              have l24 := Reg.not_live C l21 (j := 24) rfl rfl
              have hw := hW.off l21 l24
              subst hw
              exact Rgs.val rfl (Reg.wanted_free rfl) (.int .i64 (y.n : Int)) (by have c := Reg.consts a; generalize a.eval = ρ at *; simp [execOp, go_sem, c.1, c.2, d10, cy]) rfl (hW.upd (by decide) (by decide))
            · intro a w1 live S E D C h0 hk hW
              have e5 : a.eval (.tmp 5) = .slice (some ⟨g, 0, none⟩) n c := E 5 rfl
              exact Rgs.val rfl (Reg.wanted_free rfl) (.slice (some ⟨g, 0, none⟩) n c) (by have c := Reg.consts a; generalize a.eval = ρ at *; simp [execOp, go_sem, c.1, c.2, e5]) rfl (hW.upd (by decide) (by decide))
            · intro a w1 live S E D C h0 hk hW
              have e3 : a.eval (.tmp 3) = .pointer (some ⟨gm, 0, none⟩) := E 3 rfl
              exact Rgs.val rfl (Reg.wanted_free rfl) (.pointer (some ⟨gm, 0, none⟩)) (by have c := Reg.consts a; generalize a.eval = ρ at *; simp [execOp, go_sem, c.1, c.2, e3]) rfl (hW.upd (by decide) (by decide))
            · intro a w1 live S E D C h0 hk hW
              have d13 : a.eval (.tmp 42) = .pointer (some ⟨gm, 0, none⟩) := D 13 rfl _ _ rfl rfl
              have hc0 := (HFA.out w1 hW.any).1
              exact Rgs.val rfl (Reg.wanted_free rfl) (.int .i64 (i : Int)) (by have c := Reg.consts a; generalize a.eval = ρ at *; simp [execOp, go_sem, c.1, c.2, d13, hc0]) rfl (hW.upd (by decide) (by decide))
            · intro a w1 live S E D C h0 hk hW
              have d12 : a.eval (.tmp 41) = .slice (some ⟨g, 0, none⟩) n c := D 12 rfl _ _ rfl rfl
              have d14 : a.eval (.tmp 43) = .int .i64 (i : Int) := D 14 rfl _ _ rfl rfl
              have i1 := HLT.out
              obtain ⟨i1, i2, i3, i4⟩ := i1
              have ead := mk_add (g) (i * 2)
              exact Rgs.val rfl (Reg.wanted_free rfl) (.pointer (some ⟨g, i * 2, none⟩)) (by have c := Reg.consts a; generalize a.eval = ρ at *; simp [execOp, go_sem, c.1, c.2, d12, d14, i1, i2, i3, i4, ead]) rfl (hW.upd (by decide) (by decide))
            · intro a w1 live S E D C h0 hk hW
              have d15 : a.eval (.tmp 44) = .pointer (some ⟨g, i * 2, none⟩) := D 15 rfl _ _ rfl rfl
              exact Rgs.val rfl (Reg.wanted_free rfl) (.pointer (some ⟨g, i * 2 + 1, none⟩)) (by have c := Reg.consts a; generalize a.eval = ρ at *; simp [execOp, go_sem, c.1, c.2, d15]) rfl (hW.upd (by decide) (by decide))
            · intro a w1 live S E D C h0 hk hW
              have d16 : a.eval (.tmp 45) = .pointer (some ⟨g, i * 2 + 1, none⟩) := D 16 rfl _ _ rfl rfl
              have l18 := Reg.not_live C h0 (j := 18) rfl rfl
              have l21 := Reg.not_live C l18 (j := 21) rfl rfl
              have l24 := Reg.not_live C l21 (j := 24) rfl rfl
              have hw := hW.off l21 l24
              subst hw
              exact Rgs.val rfl (Reg.wanted_free rfl) (.int .i64 (x.n : Int)) (by have c := Reg.consts a; generalize a.eval = ρ at *; simp [execOp, go_sem, c.1, c.2, d16, cx]) rfl (hW.upd (by decide) (by decide))
            · intro a w1 live S E D C h0 hk hW
              have d11 : a.eval (.tmp 40) = .int .i64 (y.n : Int) := D 11 rfl _ _ rfl rfl
              have d17 : a.eval (.tmp 46) = .int .i64 (x.n : Int) := D 17 rfl _ _ rfl rfl
              have l21 := Reg.not_live C h0 (j := 21) rfl rfl
              have l24 := Reg.not_live C l21 (j := 24) rfl rfl
              have hw := hW.off l21 l24
              subst hw
              refine Rgs.call rfl (Reg.wanted_free rfl) 35 #[.int .i64 (y.n : Int), .int .i64 (x.n : Int)] (by have c := Reg.consts a; generalize a.eval = ρ at *; simp [execOp, go_sem, c.1, c.2, d11, d17]) ?_
              refine (HSM.out _).mono ?_
              rintro e w5 ⟨rfl, rfl⟩
              exact ⟨_, rfl, rfl, (hW.upd (by decide) (by decide)), fun j v _ h => h⟩
            · intro a w1 live S E D C h0 hk hW
              have d0 : a.eval (.tmp 29) = .slice (some ⟨g, 0, none⟩) n c := D 0 rfl _ _ rfl rfl
              have d2 : a.eval (.tmp 31) = .int .i64 (j : Int) := D 2 rfl _ _ rfl rfl
              have i1 := HLT.out
              obtain ⟨i1, i2, i3, i4⟩ := i1
              have ead := mk_add (g) (j * 2)
              exact Rgs.val rfl (Reg.wanted_free rfl) (.pointer (some ⟨g, j * 2, none⟩)) (by have c := Reg.consts a; generalize a.eval = ρ at *; simp [execOp, go_sem, c.1, c.2, d0, d2, i1, i2, i3, i4, ead]) rfl (hW.upd (by decide) (by decide))
            · intro a w1 live S E D C h0 hk hW
              have d19 : a.eval (.tmp 48) = .pointer (some ⟨g, j * 2, none⟩) := D 19 rfl _ _ rfl rfl
              exact Rgs.val rfl (Reg.wanted_free rfl) (.pointer (some ⟨g, j * 2 + 1, none⟩)) (by have c := Reg.consts a; generalize a.eval = ρ at *; simp [execOp, go_sem, c.1, c.2, d19]) rfl (hW.upd (by decide) (by decide))
            · intro a w1 live S E D C h0 hk hW
              have d20 : a.eval (.tmp 49) = .pointer (some ⟨g, j * 2 + 1, none⟩) := D 20 rfl _ _ rfl rfl
              have d18 : a.eval (.tmp 47) = .int .i64 ((y.n : Int) + (x.n : Int)) := D 18 rfl _ _ rfl rfl
              have l24 := Reg.not_live C h0 (j := 24) rfl rfl
              have hw := hW.off h0 l24
              subst hw
              refine Rgs.store rfl (Reg.wanted_free rfl) _ (by have c := Reg.consts a; generalize a.eval = ρ at *; simp [execOp, go_sem, c.1, c.2, d20, d18, e1, e2]) rfl (Rgs.StW2.put1 _ (by decide) _ _ _ _ _ l24) (fun j v _ h => h)
            · intro a w1 live S E D C h0 hk hW
              have d3 : a.eval (.tmp 32) = .slice (some ⟨g, 0, none⟩) n c := D 3 rfl _ _ rfl rfl
              have d5 : a.eval (.tmp 34) = .int .i64 (i : Int) := D 5 rfl _ _ rfl rfl
              have i1 := HLT.out
              obtain ⟨i1, i2, i3, i4⟩ := i1
              have ead := mk_add (g) (i * 2)
              exact Rgs.val rfl (Reg.wanted_free rfl) (.pointer (some ⟨g, i * 2, none⟩)) (by have c := Reg.consts a; generalize a.eval = ρ at *; simp [execOp, go_sem, c.1, c.2, d3, d5, i1, i2, i3, i4, ead]) rfl (hW.upd (by decide) (by decide))
            · intro a w1 live S E D C h0 hk hW
              have d22 : a.eval (.tmp 50) = .pointer (some ⟨g, i * 2, none⟩) := D 22 rfl _ _ rfl rfl
              exact Rgs.val rfl (Reg.wanted_free rfl) (.pointer (some ⟨g, i * 2 + 1, none⟩)) (by have c := Reg.consts a; generalize a.eval = ρ at *; simp [execOp, go_sem, c.1, c.2, d22]) rfl (hW.upd (by decide) (by decide))
            · intro a w1 live S E D C h0 hk hW
              have d23 : a.eval (.tmp 51) = .pointer (some ⟨g, i * 2 + 1, none⟩) := D 23 rfl _ _ rfl rfl
              have hw := hW.mid (hk 21 rfl) h0
              subst hw
              refine Rgs.store rfl (Reg.wanted_free rfl) ((wq.drew.setCell ⟨g, j * 2 + 1, none⟩ (.int .i64 ((y.n : Int) + (x.n : Int)))).setCell ⟨g, i * 2 + 1, none⟩ (.int .i64 0)) ?_ rfl (Rgs.StW2.put2 _ _ _ _ _ _ _ _) (fun j v _ h => h)
              obtain ⟨wz, hwz⟩ : ∃ wz, wz = wq.drew.setCell ⟨g, j * 2 + 1, none⟩ (.int .i64 ((y.n : Int) + (x.n : Int))) := ⟨_, rfl⟩
              rw [← hwz] at k1 k2 ⊢
              clear hwz
              have c := Reg.consts a
              generalize a.eval = ρ at *
              simp [execOp, go_sem, c.1, c.2, d23, k1, k2]
          · intro a w3 live hs hd E D' Hl hW
            rw [Rgs.act_ws a _ _ hs hd E [29, 30, 31, 32, 33, 34, 35, 36, 37, 38, 39, 40, 41, 42, 43, 44, 45, 46, 47, 48, 49, 50, 51] (by kernel_rfl)]
            simp only [List.foldl, List.setIfInBounds_toArray, List.set_cons_succ, List.set_cons_zero]
            have hw := hW.on (Hl 24 (by decide))
            subst hw
            clear E D' Hl hW e1 e2 k1 k2 cx cy HFA
            generalize a.eval = ρ
            clear a hs hd
            generalize (wq.drew.setCell ⟨g, j * 2 + 1, none⟩ (.int .i64 ((y.n : Int) + (x.n : Int)))).setCell ⟨g, i * 2 + 1, none⟩ (.int .i64 0) = w9 at HFIN HBF ⊢
            have hlm := mv_len L i j true
            rw [HLN.out] at hlm
            have hT := rtidy_any (some ⟨g, 0, none⟩) n c (mv L i j true) w9 ⟨hlm, by rw [rs_flat]; exact HFIN.out.own.rd⟩ HFIN.out.cap (by omega) (by rw [mv_ticks hij hx hy]; exact ht)
            have HT := Lib.hid hT
            clear hT
            go_wp2_with fail
            refine HT.out.mono ?_
            rintro e w10 ⟨A10, c10, rfl, hr10, hc10, hb10, _⟩
            have HR10 := Lib.hid (And.intro hr10 (HBF.out.trans (hb10.mono HBF.out.size)))
            clear hr10 hb10 HT
            go_wp2_with fail
            go_ret
            exact HOUT.out _ _ _ rfl ⟨A10, c10, rfl, HR10.out.1, hc10, HR10.out.2⟩
        | false =>
          go_upto_region 6 with fail
          clear q0' q1' q2'
          have hmm := HOB.out.below (w' := wq.drew) (Below.refl _ _).drew
          have cy : wq.drew.cell? ⟨g, j * 2 + 1, none⟩ = some (.int .i64 (y.n : Int)) := (hmm.cellR hy).2.1
          have cx : wq.drew.cell? ⟨g, i * 2 + 1, none⟩ = some (.int .i64 (x.n : Int)) := (hmm.cellR hx).2.1
          have e1 : wq.drew.cell? ⟨g, i * 2 + 1, none⟩ = some (.int .i64 (x.n : Int)) := (hmm.cellR hx).2.1
          have e2 : wq.drew.frozen? ⟨g, i * 2 + 1, none⟩ = false := (hmm.cellR hx).2.2.2
          have hm1 := OwnB.putK hmm rcl_len (k := 1) (y := ⟨x.p, y.n + x.n⟩) hx (by omega) (v := (.int .i64 ((y.n : Int) + (x.n : Int)))) rfl
          have h2x : (L.set i ⟨x.p, y.n + x.n⟩)[j]? = some y := by rw [List.getElem?_set_ne (by omega)]; exact hy
          have k1 : (wq.drew.setCell ⟨g, i * 2 + 1, none⟩ (.int .i64 ((y.n : Int) + (x.n : Int)))).cell? ⟨g, j * 2 + 1, none⟩ = some (.int .i64 (y.n : Int)) := (hm1.cellR h2x).2.1
          have k2 : (wq.drew.setCell ⟨g, i * 2 + 1, none⟩ (.int .i64 ((y.n : Int) + (x.n : Int)))).frozen? ⟨g, j * 2 + 1, none⟩ = false := (hm1.cellR h2x).2.2.2
          have hm2 := OwnB.putK hm1 rcl_len (k := 1) (y := ⟨y.p, 0⟩) h2x (by omega) (v := (.int .i64 0)) rfl
          have hmv : (L.set i ⟨x.p, y.n + x.n⟩).set j ⟨y.p, 0⟩ = mv L i j false := by
            unfold mv
            rw [hx, hy]
            rfl
          rw [hmv] at hm2
          have HFIN := Lib.hid hm2
          have HBF : Hid (Below w.heap.size w ((wq.drew.setCell ⟨g, i * 2 + 1, none⟩ (.int .i64 ((y.n : Int) + (x.n : Int)))).setCell ⟨g, j * 2 + 1, none⟩ (.int .i64 0))) := Lib.hid ((HBQ.out.drew.setCell (p := ⟨g, i * 2 + 1, none⟩) hBg _).setCell (p := ⟨g, j * 2 + 1, none⟩) hBg _)
          have HFA : Hid (∀ wx, (wx = wq.drew ∨ wx = wq.drew.setCell ⟨g, i * 2 + 1, none⟩ (.int .i64 ((y.n : Int) + (x.n : Int))) ∨ wx = (wq.drew.setCell ⟨g, i * 2 + 1, none⟩ (.int .i64 ((y.n : Int) + (x.n : Int)))).setCell ⟨g, j * 2 + 1, none⟩ (.int .i64 0)) → wx.cell? ⟨gm, 0, none⟩ = some (.int .i64 (i : Int)) ∧ wx.cell? ⟨gm, 1, none⟩ = some (.int .i64 (j : Int))) := Lib.hid fun wx hwx => by
            have hvd : Vec wq.drew gm 3 _ := HVM.out.drewN 1
            have hgm : gm ≠ g := by omega
            rcases hwx with rfl | rfl | rfl
            · exact ⟨hvd.cell 0 (by omega), hvd.cell 1 (by omega)⟩
            · exact ⟨(hvd.other ⟨g, i * 2 + 1, none⟩ _ hgm).cell 0 (by omega), (hvd.other ⟨g, i * 2 + 1, none⟩ _ hgm).cell 1 (by omega)⟩
            · exact ⟨((hvd.other ⟨g, i * 2 + 1, none⟩ _ hgm).other ⟨g, j * 2 + 1, none⟩ _ hgm).cell 0 (by omega), ((hvd.other ⟨g, i * 2 + 1, none⟩ _ hgm).other ⟨g, j * 2 + 1, none⟩ _ hgm).cell 1 (by omega)⟩
          clear hmm hm1 hm2 hmv h2x
          go_wp2_with fail
          refine Rgs.region (by kernel_rfl) (by kernel_rfl) (fun (opn : Nat) (vl : Value) (_ : World) => match opn with | 0 => vl = .slice (some ⟨g, 0, none⟩) n c | 1 => vl = .pointer (some ⟨gm, 0, none⟩) | 2 => vl = .int .i64 (i : Int) | 3 => vl = .slice (some ⟨g, 0, none⟩) n c | 4 => vl = .pointer (some ⟨gm, 1, none⟩) | 5 => vl = .int .i64 (j : Int) | 6 => vl = .slice (some ⟨g, 0, none⟩) n c | 7 => vl = .pointer (some ⟨gm, 1, none⟩) | 8 => vl = .int .i64 (j : Int) | 9 => vl = .pointer (some ⟨g, j * 2, none⟩) | 10 => vl = .pointer (some ⟨g, j * 2 + 1, none⟩) | 11 => vl = .int .i64 (y.n : Int) | 12 => vl = .slice (some ⟨g, 0, none⟩) n c | 13 => vl = .pointer (some ⟨gm, 0, none⟩) | 14 => vl = .int .i64 (i : Int) | 15 => vl = .pointer (some ⟨g, i * 2, none⟩) | 16 => vl = .pointer (some ⟨g, i * 2 + 1, none⟩) | 17 => vl = .int .i64 (x.n : Int) | 18 => vl = .int .i64 ((y.n : Int) + (x.n : Int)) | 19 => vl = .pointer (some ⟨g, i * 2, none⟩) | 20 => vl = .pointer (some ⟨g, i * 2 + 1, none⟩) | 21 => vl = undef | 22 => vl = .pointer (some ⟨g, j * 2, none⟩) | 23 => vl = .pointer (some ⟨g, j * 2 + 1, none⟩) | 24 => vl = undef | _ => True) (fun live _ w' => Rgs.StW2 wq.drew 21 24 ⟨g, i * 2 + 1, none⟩ ⟨g, j * 2 + 1, none⟩ (.int .i64 ((y.n : Int) + (x.n : Int))) (.int .i64 0) live w') rfl (Rgs.steps_of ?_) ?_
          · refine ⟨?_, ?_, ?_, ?_, ?_, ?_, ?_, ?_, ?_, ?_, ?_, ?_, ?_, ?_, ?_, ?_, ?_, ?_, ?_, ?_, ?_, ?_, ?_, ?_, ?_, trivial⟩
            · intro a w1 live S E D C h0 hk hW
              have e5 : a.eval (.tmp 5) = .slice (some ⟨g, 0, none⟩) n c := E 5 rfl
              exact Rgs.val rfl (Reg.wanted_free rfl) (.slice (some ⟨g, 0, none⟩) n c) (by have c := Reg.consts a; generalize a.eval = ρ at *; simp [execOp, go_sem, c.1, c.2, e5]) rfl (hW.upd (by decide) (by decide))
            · intro a w1 live S E D C h0 hk hW
              have e3 : a.eval (.tmp 3) = .pointer (some ⟨gm, 0, none⟩) := E 3 rfl
              exact Rgs.val rfl (Reg.wanted_free rfl) (.pointer (some ⟨gm, 0, none⟩)) (by have c := Reg.consts a; generalize a.eval = ρ at *; simp [execOp, go_sem, c.1, c.2, e3]) rfl (hW.upd (by decide) (by decide))
            · intro a w1 live S E D C h0 hk hW
              have d1 : a.eval (.tmp 53) = .pointer (some ⟨gm, 0, none⟩) := D 1 rfl _ _ rfl rfl
              have hc0 := (HFA.out w1 hW.any).1
              exact Rgs.val rfl (Reg.wanted_free rfl) (.int .i64 (i : Int)) (by have c := Reg.consts a; generalize a.eval = ρ at *; simp [execOp, go_sem, c.1, c.2, d1, hc0]) rfl (hW.upd (by decide) (by decide))
            · intro a w1 live S E D C h0 hk hW
              have e5 : a.eval (.tmp 5) = .slice (some ⟨g, 0, none⟩) n c := E 5 rfl
              exact Rgs.val rfl (Reg.wanted_free rfl) (.slice (some ⟨g, 0, none⟩) n c) (by have c := Reg.consts a; generalize a.eval = ρ at *; simp [execOp, go_sem, c.1, c.2, e5]) rfl (hW.upd (by decide) (by decide))
            · intro a w1 live S E D C h0 hk hW
              have e3 : a.eval (.tmp 3) = .pointer (some ⟨gm, 0, none⟩) := E 3 rfl
              exact Rgs.val rfl (Reg.wanted_free rfl) (.pointer (some ⟨gm, 1, none⟩)) (by have c := Reg.consts a; generalize a.eval = ρ at *; simp [execOp, go_sem, c.1, c.2, e3]) rfl (hW.upd (by decide) (by decide))
            · intro a w1 live S E D C h0 hk hW
              have d4 : a.eval (.tmp 56) = .pointer (some ⟨gm, 1, none⟩) := D 4 rfl _ _ rfl rfl
              have hc0 := (HFA.out w1 hW.any).2
              exact Rgs.val rfl (Reg.wanted_free rfl) (.int .i64 (j : Int)) (by have c := Reg.consts a; generalize a.eval = ρ at *; simp [execOp, go_sem, c.1, c.2, d4, hc0]) rfl (hW.upd (by decide) (by decide))
            · intro a w1 live S E D C h0 hk hW
              have e5 : a.eval (.tmp 5) = .slice (some ⟨g, 0, none⟩) n c := E 5 rfl
              exact Rgs.val rfl (Reg.wanted_free rfl) (.slice (some ⟨g, 0, none⟩) n c) (by have c := Reg.consts a; generalize a.eval = ρ at *; simp [execOp, go_sem, c.1, c.2, e5]) rfl (hW.upd (by decide) (by decide))
            · intro a w1 live S E D C h0 hk hW
              have e3 : a.eval (.tmp 3) = .pointer (some ⟨gm, 0, none⟩) := E 3 rfl
              exact Rgs.val rfl (Reg.wanted_free rfl) (.pointer (some ⟨gm, 1, none⟩)) (by have c := Reg.consts a; generalize a.eval = ρ at *; simp [execOp, go_sem, c.1, c.2, e3]) rfl (hW.upd (by decide) (by decide))
            · intro a w1 live S E D C h0 hk hW
              have d7 : a.eval (.tmp 59) = .pointer (some ⟨gm, 1, none⟩) := D 7 rfl _ _ rfl rfl
              have hc0 := (HFA.out w1 hW.any).2
              exact Rgs.val rfl (Reg.wanted_free rfl) (.int .i64 (j : Int)) (by have c := Reg.consts a; generalize a.eval = ρ at *; simp [execOp, go_sem, c.1, c.2, d7, hc0]) rfl (hW.upd (by decide) (by decide))
            · intro a w1 live S E D C h0 hk hW
              have d6 : a.eval (.tmp 58) = .slice (some ⟨g, 0, none⟩) n c := D 6 rfl _ _ rfl rfl
              have d8 : a.eval (.tmp 60) = .int .i64 (j : Int) := D 8 rfl _ _ rfl rfl
              have i1 := HLT.out
              obtain ⟨i1, i2, i3, i4⟩ := i1
              have ead := mk_add (g) (j * 2)
              exact Rgs.val rfl (Reg.wanted_free rfl) (.pointer (some ⟨g, j * 2, none⟩)) (by have c := Reg.consts a; generalize a.eval = ρ at *; simp [execOp, go_sem, c.1, c.2, d6, d8, i1, i2, i3, i4, ead]) rfl (hW.upd (by decide) (by decide))
            · intro a w1 live S E D C h0 hk hW
              have d9 : a.eval (.tmp 61) = .pointer (some ⟨g, j * 2, none⟩) := D 9 rfl _ _ rfl rfl
              exact Rgs.val rfl (Reg.wanted_free rfl) (.pointer (some ⟨g, j * 2 + 1, none⟩)) (by have c := Reg.consts a; generalize a.eval = ρ at *; simp [execOp, go_sem, c.1, c.2, d9]) rfl (hW.upd (by decide) (by decide))
            · intro a w1 live S E D C h0 hk hW
              have d10 : a.eval (.tmp 62) = .pointer (some ⟨g, j * 2 + 1, none⟩) := D 10 rfl _ _ rfl rfl
              have l18 := Reg.not_live C h0 (j := 18) rfl rfl
              have l21 := Reg.not_live C l18 (j := 21) rfl rfl
              have l24 := Reg.not_live C l21 (j := 24) rfl rfl
              have hw := hW.off l21 l24
              subst hw
              exact Rgs.val rfl (Reg.wanted_free rfl) (.int .i64 (y.n : Int)) (by have c := Reg.consts a; generalize a.eval = ρ at *; simp [execOp, go_sem, c.1, c.2, d10, cy]) rfl (hW.upd (by decide) (by decide))
            · intro a w1 live S E D C h0 hk hW
              have e5 : a.eval (.tmp 5) = .slice (some ⟨g, 0, none⟩) n c := E 5 rfl
              exact Rgs.val rfl (Reg.wanted_free rfl) (.slice (some ⟨g, 0, none⟩) n c) (by have c := Reg.consts a; generalize a.eval = ρ at *; simp [execOp, go_sem, c.1, c.2, e5]) rfl (hW.upd (by decide) (by decide))
            · intro a w1 live S E D C h0 hk hW
              have e3 : a.eval (.tmp 3) = .pointer (some ⟨gm, 0, none⟩) := E 3 rfl
              exact Rgs.val rfl (Reg.wanted_free rfl) (.pointer (some ⟨gm, 0, none⟩)) (by have c := Reg.consts a; generalize a.eval = ρ at *; simp [execOp, go_sem, c.1, c.2, e3]) rfl (hW.upd (by decide) (by decide))
            · intro a w1 live S E D C h0 hk hW
              have d13 : a.eval (.tmp 65) = .pointer (some ⟨gm, 0, none⟩) := D 13 rfl _ _ rfl rfl
              have hc0 := (HFA.out w1 hW.any).1
              exact Rgs.val rfl (Reg.wanted_free rfl) (.int .i64 (i : Int)) (by have c := Reg.consts a; generalize a.eval = ρ at *; simp [execOp, go_sem, c.1, c.2, d13, hc0]) rfl (hW.upd (by decide) (by decide))
            · intro a w1 live S E D C h0 hk hW
              have d12 : a.eval (.tmp 64) = .slice (some ⟨g, 0, none⟩) n c := D 12 rfl _ _ rfl rfl
              have d14 : a.eval (.tmp 66) = .int .i64 (i : Int) := D 14 rfl _ _ rfl rfl
              have i1 := HLT.out
              obtain ⟨i1, i2, i3, i4⟩ := i1
              have ead := mk_add (g) (i * 2)
              exact Rgs.val rfl (Reg.wanted_free rfl) (.pointer (some ⟨g, i * 2, none⟩)) (by have c := Reg.consts a; generalize a.eval = ρ at *; simp [execOp, go_sem, c.1, c.2, d12, d14, i1, i2, i3, i4, ead]) rfl (hW.upd (by decide) (by decide))
            · intro a w1 live S E D C h0 hk hW
              have d15 : a.eval (.tmp 67) = .pointer (some ⟨g, i * 2, none⟩) := D 15 rfl _ _ rfl rfl
              exact Rgs.val rfl (Reg.wanted_free rfl) (.pointer (some ⟨g, i * 2 + 1, none⟩)) (by have c := Reg.consts a; generalize a.eval = ρ at *; simp [execOp, go_sem, c.1, c.2, d15]) rfl (hW.upd (by decide) (by decide))
            · intro a w1 live S E D C h0 hk hW
              have d16 : a.eval (.tmp 68) = .pointer (some ⟨g, i * 2 + 1, none⟩) := D 16 rfl _ _ rfl rfl
              have l18 := Reg.not_live C h0 (j := 18) rfl rfl
              have l21 := Reg.not_live C l18 (j := 21) rfl rfl
              have l24 := Reg.not_live C l21 (j := 24) rfl rfl
              have hw := hW.off l21 l24
              subst hw
              exact Rgs.val rfl (Reg.wanted_free rfl) (.int .i64 (x.n : Int)) (by have c := Reg.consts a; generalize a.eval = ρ at *; simp [execOp, go_sem, c.1, c.2, d16, cx]) rfl (hW.upd (by decide) (by decide))
            · intro a w1 live S E D C h0 hk hW
              have d11 : a.eval (.tmp 63) = .int .i64 (y.n : Int) := D 11 rfl _ _ rfl rfl
              have d17 : a.eval (.tmp 69) = .int .i64 (x.n : Int) := D 17 rfl _ _ rfl rfl
              have l21 := Reg.not_live C h0 (j := 21) rfl rfl
              have l24 := Reg.not_live C l21 (j := 24) rfl rfl
              have hw := hW.off l21 l24
              subst hw
              refine Rgs.call rfl (Reg.wanted_free rfl) 35 #[.int .i64 (y.n : Int), .int .i64 (x.n : Int)] (by have c := Reg.consts a; generalize a.eval = ρ at *; simp [execOp, go_sem, c.1, c.2, d11, d17]) ?_
              refine (HSM.out _).mono ?_
              rintro e w5 ⟨rfl, rfl⟩
              exact ⟨_, rfl, rfl, (hW.upd (by decide) (by decide)), fun j v _ h => h⟩
            · intro a w1 live S E D C h0 hk hW
              have d0 : a.eval (.tmp 52) = .slice (some ⟨g, 0, none⟩) n c := D 0 rfl _ _ rfl rfl
              have d2 : a.eval (.tmp 54) = .int .i64 (i : Int) := D 2 rfl _ _ rfl rfl
              have i1 := HLT.out
              obtain ⟨i1, i2, i3, i4⟩ := i1
              have ead := mk_add (g) (i * 2)
              exact Rgs.val rfl (Reg.wanted_free rfl) (.pointer (some ⟨g, i * 2, none⟩)) (by have c := Reg.consts a; generalize a.eval = ρ at *; simp [execOp, go_sem, c.1, c.2, d0, d2, i1, i2, i3, i4, ead]) rfl (hW.upd (by decide) (by decide))
            · intro a w1 live S E D C h0 hk hW
              have d19 : a.eval (.tmp 71) = .pointer (some ⟨g, i * 2, none⟩) := D 19 rfl _ _ rfl rfl
              exact Rgs.val rfl (Reg.wanted_free rfl) (.pointer (some ⟨g, i * 2 + 1, none⟩)) (by have c := Reg.consts a; generalize a.eval = ρ at *; simp [execOp, go_sem, c.1, c.2, d19]) rfl (hW.upd (by decide) (by decide))
            · intro a w1 live S E D C h0 hk hW
              have d20 : a.eval (.tmp 72) = .pointer (some ⟨g, i * 2 + 1, none⟩) := D 20 rfl _ _ rfl rfl
              have d18 : a.eval (.tmp 70) = .int .i64 ((y.n : Int) + (x.n : Int)) := D 18 rfl _ _ rfl rfl
              have l24 := Reg.not_live C h0 (j := 24) rfl rfl
              have hw := hW.off h0 l24
              subst hw
              refine Rgs.store rfl (Reg.wanted_free rfl) _ (by have c := Reg.consts a; generalize a.eval = ρ at *; simp [execOp, go_sem, c.1, c.2, d20, d18, e1, e2]) rfl (Rgs.StW2.put1 _ (by decide) _ _ _ _ _ l24) (fun j v _ h => h)
            · intro a w1 live S E D C h0 hk hW
              have d3 : a.eval (.tmp 55) = .slice (some ⟨g, 0, none⟩) n c := D 3 rfl _ _ rfl rfl
              have d5 : a.eval (.tmp 57) = .int .i64 (j : Int) := D 5 rfl _ _ rfl rfl
              have i1 := HLT.out
              obtain ⟨i1, i2, i3, i4⟩ := i1
              have ead := mk_add (g) (j * 2)
              exact Rgs.val rfl (Reg.wanted_free rfl) (.pointer (some ⟨g, j * 2, none⟩)) (by have c := Reg.consts a; generalize a.eval = ρ at *; simp [execOp, go_sem, c.1, c.2, d3, d5, i1, i2, i3, i4, ead]) rfl (hW.upd (by decide) (by decide))
            · intro a w1 live S E D C h0 hk hW
              have d22 : a.eval (.tmp 73) = .pointer (some ⟨g, j * 2, none⟩) := D 22 rfl _ _ rfl rfl
              exact Rgs.val rfl (Reg.wanted_free rfl) (.pointer (some ⟨g, j * 2 + 1, none⟩)) (by have c := Reg.consts a; generalize a.eval = ρ at *; simp [execOp, go_sem, c.1, c.2, d22]) rfl (hW.upd (by decide) (by decide))
            · intro a w1 live S E D C h0 hk hW
              have d23 : a.eval (.tmp 74) = .pointer (some ⟨g, j * 2 + 1, none⟩) := D 23 rfl _ _ rfl rfl
              have hw := hW.mid (hk 21 rfl) h0
              subst hw
              refine Rgs.store rfl (Reg.wanted_free rfl) ((wq.drew.setCell ⟨g, i * 2 + 1, none⟩ (.int .i64 ((y.n : Int) + (x.n : Int)))).setCell ⟨g, j * 2 + 1, none⟩ (.int .i64 0)) ?_ rfl (Rgs.StW2.put2 _ _ _ _ _ _ _ _) (fun j v _ h => h)
              obtain ⟨wz, hwz⟩ : ∃ wz, wz = wq.drew.setCell ⟨g, i * 2 + 1, none⟩ (.int .i64 ((y.n : Int) + (x.n : Int))) := ⟨_, rfl⟩
              rw [← hwz] at k1 k2 ⊢
              clear hwz
              have c := Reg.consts a
              generalize a.eval = ρ at *
              simp [execOp, go_sem, c.1, c.2, d23, k1, k2]
          · intro a w3 live hs hd E D' Hl hW
            rw [Rgs.act_ws a _ _ hs hd E [52, 53, 54, 55, 56, 57, 58, 59, 60, 61, 62, 63, 64, 65, 66, 67, 68, 69, 70, 71, 72, 73, 74] (by kernel_rfl)]
            simp only [List.foldl, List.setIfInBounds_toArray, List.set_cons_succ, List.set_cons_zero]
            have hw := hW.on (Hl 24 (by decide))
            subst hw
            clear E D' Hl hW e1 e2 k1 k2 cx cy HFA
            generalize a.eval = ρ
            clear a hs hd
            generalize (wq.drew.setCell ⟨g, i * 2 + 1, none⟩ (.int .i64 ((y.n : Int) + (x.n : Int)))).setCell ⟨g, j * 2 + 1, none⟩ (.int .i64 0) = w9 at HFIN HBF ⊢
            have hlm := mv_len L i j false
            rw [HLN.out] at hlm
            have hT := rtidy_any (some ⟨g, 0, none⟩) n c (mv L i j false) w9 ⟨hlm, by rw [rs_flat]; exact HFIN.out.own.rd⟩ HFIN.out.cap (by omega) (by rw [mv_ticks hij hx hy]; exact ht)
            have HT := Lib.hid hT
            clear hT
            go_wp2_with fail
            refine HT.out.mono ?_
            rintro e w10 ⟨A10, c10, rfl, hr10, hc10, hb10, _⟩
            have HR10 := Lib.hid (And.intro hr10 (HBF.out.trans (hb10.mono HBF.out.size)))
            clear hr10 hb10 HT
            go_wp2_with fail
            go_ret
            exact HOUT.out _ _ _ rfl ⟨A10, c10, rfl, HR10.out.1, hc10, HR10.out.2⟩
end Go.Proofs.Ytoaocdmcjjohgaa

/- A row of runs that is made of a tape of numbers. -/
namespace Go.Proofs.Ytoaocdmcjjohgaa
open Go.RowKit Tab
set_option linter.unusedSimpArgs false
set_option linter.unusedVariables false

/-- A run of the kind that a tape makes. -/
def Fair (parts : Nat) (r : Rn) : Prop := 1 ≤ r.n ∧ r.n ≤ 4 ∧ -1 ≤ r.p ∧ r.p < parts
theorem fair_ticks {parts : Nat} {L : List Rn} (h : ∀ r ∈ L, Fair parts r) : ticks L ≤ 4 * L.length := by
  induction L with
  | nil => simp [ticks]
  | cons x L ih =>
    have h1 := h x (by simp)
    have h2 := ih fun r hr => h r (by simp [hr])
    unfold Fair at h1
    simp only [ticks, List.length_cons]
    omega
/-- A row of runs, new; of what was there the tape alone has turned. -/
def RowT (B b : Nat) (A : Option Addr) (m c : Nat) (f : Nat → Int) (parts most : Nat) (w : World) (e : Ending) (w' : World) : Prop :=
  ∃ (L : List Rn) (A' : Option Addr) (n' c' at' : Nat), e = .returned (.slice A' n' c') ∧ (∀ r ∈ L, Fair parts r) ∧ OwnV 39 2 w' w.heap.size A' n' c' (rs L) ∧ 1 ≤ n' ∧ n' ≤ most ∧ TapeW w' B b A m c f at' ∧ w.grownBy w' (some b)
theorem OwnV.gb {E s : Nat} {w w' : World} {B n c b : Nat} {A : Option Addr} {l : List Value} (h : OwnV E s w B A n c l) (hg : w.grownBy w' (some b)) (hb : b < B) : OwnV E s w' B A n c l :=
  h.keep fun k hk hlt => hg.block k hlt (fun e => by injection e with e; omega)
set_option maxRecDepth 100000 in
set_option maxHeartbeats 4000000 in
theorem row_any (B b : Nat) (A : Option Addr) (m c : Nat) (f : Nat → Int) (hm : m ≤ 140737488351232) (parts most : Nat) (hp1 : 1 ≤ parts) (hp2 : parts ≤ 6) (hm1 : 1 ≤ most) (hm2 : most ≤ 64) (at_ : Nat) (w : World) (T : TapeW w B b A m c f at_) :
    Calls Try.prog 10 #[.pointer (some ⟨b, 0, none⟩), .int .i64 (parts : Int), .int .i64 (most : Int)] w (RowT B b A m c f parts most w) := by
  have hb0 : b < w.heap.size := T.lt
  go_enter Try.func10, Try.ntmps10
  go_wp2_with fail
  refine (next_at B b A m c f at_ most _ w T rfl hm1 (by omega) hm).mono ?_
  rintro e w1 ⟨k, at1, hk, rfl, T1, G1⟩
  go_wp2_with fail
  go_loopw [7, 8] (fun q s wr => ∃ (i : Nat) (L : List Rn) (A1 : Option Addr) (c1 at' : Nat), i ≤ 1 + k ∧ s = .int .i64 ((1 + k - i : Nat) : Int) ∧ q = .slice A1 i c1 ∧ (∀ r ∈ L, Fair parts r) ∧ OwnV 39 2 wr w.heap.size A1 i c1 (rs L) ∧ TapeW wr B b A m c f at' ∧ w.grownBy wr (some b)) (fun _ s _ => (intOf s).toNat)
  case atStart => exact ⟨0, [], none, 0, at1, by omega, by simp, rfl, by simp, OwnV.nil _ _ _ _, T1, G1⟩
  case round =>
    obtain ⟨i, L, A1, c1, at3, hi, rfl, rfl, hL, hown, T4, G4⟩ := hrel
    have HLL := Lib.hid hL
    clear hL
    by_cases hlt : i < 1 + k
    · obtain ⟨j, hj⟩ : ∃ j : Nat, 1 + k - i = j + 1 := ⟨k - i, by omega⟩
      rw [hj]
      have hj0 : 0 < (j : Int) + 1 := by omega
      go_wp2_with fail
      refine (next_at B b A m c f at3 (parts + 1) _ _ T4 (by omega) (by omega) (by omega) hm).mono ?_
      rintro e w5 ⟨p, at5, hp, rfl, T5, G5⟩
      go_wp2_with fail
      refine (next_at B b A m c f at5 4 _ w5 T5 rfl (by omega) (by omega) hm).mono ?_
      rintro e w6 ⟨z, at6, hz, rfl, T6, G6⟩
      have q6 := (hown.gb G5 hb0).gb G6 hb0
      have G7 := gb_trans G4 (gb_trans G5 G6)
      have hown7 := q6.below rfl (bl1 w6 (.cells #[.int .i64 ((p : Int) - 1), .int .i64 (1 + (z : Int))] 39))
      have T7 := T6.below (bl1 w6 (.cells #[.int .i64 ((p : Int) - 1), .int .i64 (1 + (z : Int))] 39)) T6.lt
      have G8 := gb_alloc G7 (.cells #[.int .i64 ((p : Int) - 1), .int .i64 (1 + (z : Int))] 39)
      have hrd := rdV_new w6 #[.int .i64 ((p : Int) - 1), .int .i64 (1 + (z : Int))] 39 (rs [⟨(p : Int) - 1, 1 + z⟩]) rfl
      clear T1 T4 T5 T6 G1 G4 G5 G6 G7 hown q6
      go_wp2_with (at_builtin; go_loud (refine wpList_appV elR rfl (.tmp 17) (.tmp 27) rfl rfl w.heap.size A1 i c1 _ rfl hown7 _ 1 1 _ _ rfl hrd rfl (rs_one _) (by omega) (by unfold maxLen; omega) G8.size (i + 1) rfl (rs (L ++ [⟨(p : Int) - 1, 1 + z⟩])) (rs_append _ _).symm ?_; intro A2 c2 w2 hw2 hb2 _))
      go_roundw
      case rel =>
        refine ⟨i + 1, _, A2, c2, at6, by omega, ?_, rfl, ?_, hw2, T7.below hb2 hb0, gb_below G8 hb2 (Nat.le_refl _)⟩
        · rw [show 1 + k - (i + 1) = j by omega]
        · intro r hr
          rcases List.mem_append.1 hr with hr | hr
          · exact HLL.out r hr
          · simp at hr
            subst hr
            unfold Fair
            dsimp only
            omega
      case measure => simp [intOf]
    · have e : 1 + k - i = 0 := by omega
      rw [e]
      go_wp2_with fail
      go_ret
      exact ⟨L, A1, i, c1, at3, rfl, HLL.out, hown, by omega, by omega, T4, G4⟩
/-- A row of runs, new; what was there is as it was. -/
def RowB (parts most : Nat) (w : World) (e : Ending) (w' : World) : Prop :=
  ∃ (L : List Rn) (A' : Option Addr) (n' c' : Nat), e = .returned (.slice A' n' c') ∧ (∀ r ∈ L, Fair parts r) ∧ RdR w' w'.heap.size A' n' L ∧ n' ≤ c' ∧ 1 ≤ n' ∧ n' ≤ most ∧ Below w.heap.size w w'
/-- Out of a tape that was just boxed. -/
theorem row_box (A : Option Addr) (n cap : Nat) (f : Nat → Int) (w : World) (P D : Int) (parts most : Nat) (hP : P = (parts : Int)) (hD : D = (most : Int)) (hp1 : 1 ≤ parts) (hp2 : parts ≤ 6) (hm1 : 1 ≤ most) (hm2 : most ≤ 64) (h : RdC w w.heap.size A n fun j => .int .i64 (f j)) (hn : n ≤ 140737488351232) :
    Calls Try.prog 10 #[.pointer (some ⟨w.heap.size, 0, none⟩), .int .i64 P, .int .i64 D] (w.alloc (.cells #[.slice A n cap, .int .i64 0] 26)) (RowB parts most w) := by
  subst hP; subst hD
  refine (row_any w.heap.size w.heap.size A n cap f hn parts most hp1 hp2 hm1 hm2 0 _ (tape_boxed A n cap f w h)).mono ?_
  rintro e w1 ⟨L, A', n', c', at', rfl, hL, hown, h1, h2, T1, G1⟩
  exact ⟨L, A', n', c', rfl, hL, hown.rdr, hown.cap, h1, h2, gb_boxed G1⟩
end Go.Proofs.Ytoaocdmcjjohgaa

/- How late, round: frames that are the same circle. Plain mathematics. -/
namespace Go.Proofs.Ytoaocdmcjjohgaa
open Go.RowKit Tab
set_option linter.unusedSimpArgs false
set_option linter.unusedVariables false

/-- Whose tick it is, round. -/
def rnd (W : List Int) (t : Nat) : Option Int := W[t % W.length]?
theorem rnd_add (W : List Int) (t k : Nat) : rnd W (t + W.length * k) = rnd W t := by
  unfold rnd
  rw [Nat.add_mul_mod_self_left]
theorem rnd_lt {W : List Int} {t : Nat} (h : t < W.length) : rnd W t = W[t]? := by
  unfold rnd
  rw [Nat.mod_eq_of_lt h]
theorem hasL_iff {W : List Int} {q : Int} : hasL q W = true ↔ ∃ i, i < W.length ∧ W[i]? = some q := by
  refine ⟨hasL_get, ?_⟩
  induction W with
  | nil => rintro ⟨i, hi, _⟩; simp at hi
  | cons x W ih =>
    rintro ⟨i, hi, e⟩
    simp only [hasL, Bool.or_eq_true, decide_eq_true_eq]
    cases i with
    | zero => left; simpa using e
    | succ i => right; exact ih ⟨i, by simpa using hi, by simpa using e⟩
theorem hasL_rnd {W : List Int} {q : Int} : hasL q W = true ↔ ∃ t, rnd W t = some q := by
  rw [hasL_iff]
  constructor
  · rintro ⟨i, hi, e⟩
    exact ⟨i, by rw [rnd_lt hi]; exact e⟩
  · rintro ⟨t, e⟩
    unfold rnd at e
    have h := (List.getElem?_eq_some_iff.1 e).1
    exact ⟨_, h, e⟩
/-- The next tick of q behind t is d away. -/
def Dst (W : List Int) (q : Int) (t d : Nat) : Prop := 1 ≤ d ∧ rnd W (t + d) = some q ∧ ∀ e, 1 ≤ e → e < d → ¬ rnd W (t + e) = some q
theorem Dst.eq {W : List Int} {q : Int} {t d e : Nat} (h : Dst W q t d) (k : Dst W q t e) : d = e := by
  rcases Nat.lt_trichotomy d e with hl | hl | hl
  · exact absurd h.2.1 (k.2.2 d h.1 hl)
  · exact hl
  · exact absurd k.2.1 (h.2.2 e k.1 hl)
theorem distF_dst {W : List Int} {q : Int} {t : Nat} : ∀ f d, 1 ≤ d → (∀ e, 1 ≤ e → e < d → ¬ rnd W (t + e) = some q) → (∃ e, d ≤ e ∧ e < d + f ∧ rnd W (t + e) = some q) → Dst W q t (distF W q t f d) := by
  intro f
  induction f with
  | zero => rintro d _ _ ⟨e, h1, h2, _⟩; omega
  | succ f ih =>
    intro d hd hno hex
    by_cases hh : rnd W (t + d) = some q
    · rw [distF_yes (by unfold rnd at hh; exact hh)]
      exact ⟨hd, hh, hno⟩
    · rw [distF_no (by unfold rnd at hh; exact hh)]
      refine ih (d + 1) (by omega) (fun e h1 h2 => ?_) ?_
      · by_cases hed : e = d
        · subst hed; exact hh
        · exact hno e h1 (by omega)
      · obtain ⟨e, h1, h2, h3⟩ := hex
        refine ⟨e, ?_, by omega, h3⟩
        rcases Nat.lt_or_ge d e with h4 | h4
        · omega
        · have : e = d := by omega
          subst this
          exact absurd h3 hh
theorem dist_dst {W : List Int} {q : Int} (h : hasL q W = true) (t : Nat) : Dst W q t (dist W q t) := by
  obtain ⟨e, h1, h2, h3⟩ := dist_ex h t
  exact distF_dst W.length 1 (Nat.le_refl _) (fun e h1 h2 => by omega) ⟨e, h1, by omega, h3⟩
theorem dist_le {W : List Int} {q : Int} (h : hasL q W = true) (t : Nat) : dist W q t ≤ W.length := by
  obtain ⟨e, h1, h2, h3⟩ := dist_ex h t
  have k := dist_dst h t
  rcases Nat.lt_or_ge e (dist W q t) with hl | hl
  · exact absurd h3 (k.2.2 e h1 hl)
  · omega
theorem lateW_le {W : List Int} {p q : Int} {M : Nat} : ∀ k, lateW W p q k ≤ M ↔ ∀ t, t < k → W[t]? = some p → dist W q t ≤ M := by
  intro k
  induction k with
  | zero => exact ⟨fun _ t h => by omega, fun _ => Nat.zero_le _⟩
  | succ k ih =>
    unfold lateW
    by_cases hp : W[k]? = some p
    · rw [if_pos hp]
      constructor
      · intro h t ht hpt
        by_cases htk : t = k
        · subst htk; omega
        · exact (ih.1 (by omega)) t (by omega) hpt
      · intro h
        have h1 := ih.2 fun t ht hpt => h t (by omega) hpt
        have h2 := h k (by omega) hp
        omega
    · rw [if_neg hp, ih]
      constructor
      · intro h t ht hpt
        by_cases htk : t = k
        · subst htk; exact absurd hpt hp
        · exact h t (by omega) hpt
      · exact fun h t ht hpt => h t (by omega) hpt
/-- Round, for each tick. -/
theorem lateW_rnd {W : List Int} {p q : Int} {M : Nat} (hq : hasL q W = true) : lateW W p q W.length ≤ M ↔ ∀ t d, rnd W t = some p → Dst W q t d → d ≤ M := by
  rw [lateW_le]
  constructor
  · intro h t d hp hd
    have hpos : 0 < W.length := by
      unfold rnd at hp
      have := (List.getElem?_eq_some_iff.1 hp).1
      omega
    have hlt : t % W.length < W.length := Nat.mod_lt _ hpos
    have h1 := h (t % W.length) hlt hp
    have e : ∀ x, rnd W (t % W.length + x) = rnd W (t + x) := fun x => by
      have h2 := Nat.div_add_mod t W.length
      have h3 : t + x = (t % W.length + x) + W.length * (t / W.length) := by omega
      rw [h3, rnd_add]
    have hd2 : Dst W q (t % W.length) d := ⟨hd.1, by rw [e]; exact hd.2.1, fun x hx hx2 => by rw [e]; exact hd.2.2 x hx hx2⟩
    rw [(dist_dst hq (t % W.length)).eq hd2] at h1
    exact h1
  · intro h t ht hp
    exact h t _ (by rw [rnd_lt ht]; exact hp) (dist_dst hq t)
theorem nat_eq_of_le {a b : Nat} (h : ∀ M, a ≤ M ↔ b ≤ M) : a = b := Nat.le_antisymm ((h b).2 (Nat.le_refl _)) ((h a).1 (Nat.le_refl _))
/-- The same circle, begun a ticks later. -/
structure Circ (V W : List Int) (a : Nat) : Prop where
  pos : 0 < W.length
  eq : ∀ i, rnd V i = rnd W (i + a)
theorem Circ.back {V W : List Int} {a : Nat} (h : Circ V W a) (j : Nat) : ∃ i, ∀ x, rnd W (j + x) = rnd V (i + x) := by
  refine ⟨j + (W.length - 1) * a, fun x => ?_⟩
  rw [h.eq]
  have hp := h.pos
  have e : j + (W.length - 1) * a + x + a = (j + x) + W.length * a := by
    have : W.length * a = (W.length - 1) * a + a := by
      conv => lhs; rw [show W.length = (W.length - 1) + 1 by omega]
      rw [Nat.add_mul, Nat.one_mul]
    omega
  rw [e, rnd_add]
theorem Circ.has {V W : List Int} {a : Nat} (h : Circ V W a) (q : Int) : hasL q V = hasL q W := by
  rw [Bool.eq_iff_iff, hasL_rnd, hasL_rnd]
  constructor
  · rintro ⟨t, e⟩
    exact ⟨t + a, by rw [← h.eq]; exact e⟩
  · rintro ⟨t, e⟩
    obtain ⟨i, hi⟩ := h.back t
    exact ⟨i, by have := hi 0; simp only [Nat.add_zero] at this; rw [← this]; exact e⟩
theorem Circ.late {V W : List Int} {a : Nat} (h : Circ V W a) (p q : Int) : lateL V p q = lateL W p q := by
  unfold lateL
  rw [h.has p, h.has q]
  by_cases hp : hasL p W = false
  · rw [if_pos hp, if_pos hp]
  · rw [if_neg hp, if_neg hp]
    by_cases hq : hasL q W = false
    · rw [if_pos hq, if_pos hq]
    · rw [if_neg hq, if_neg hq]
      have hqW : hasL q W = true := by simpa using hq
      have hqV : hasL q V = true := by rw [h.has]; exact hqW
      congr 1
      refine nat_eq_of_le fun M => ?_
      rw [lateW_rnd hqV, lateW_rnd hqW]
      constructor
      · intro H t d hpt hd
        obtain ⟨i, hi⟩ := h.back t
        have h0 := hi 0
        simp only [Nat.add_zero] at h0
        exact H i d (by rw [← h0]; exact hpt) ⟨hd.1, by rw [← hi]; exact hd.2.1, fun x h1 h2 => by rw [← hi]; exact hd.2.2 x h1 h2⟩
      · intro H t d hpt hd
        have e : ∀ x, rnd V (t + x) = rnd W (t + a + x) := fun x => by rw [h.eq, Nat.add_right_comm]
        have e0 := e 0
        simp only [Nat.add_zero] at e0
        exact H (t + a) d (by rw [← e0]; exact hpt) ⟨hd.1, by rw [← e]; exact hd.2.1, fun x h1 h2 => by rw [← e]; exact hd.2.2 x h1 h2⟩
theorem circ_two (W : List Int) (h : 0 < W.length) : Circ (W ++ W) W 0 := by
  refine ⟨h, fun i => ?_⟩
  unfold rnd
  rw [List.length_append, Nat.add_zero]
  have h1 : i % (W.length + W.length) < W.length + W.length := Nat.mod_lt _ (by omega)
  have h2 := Nat.div_add_mod i (W.length + W.length)
  generalize hr : i % (W.length + W.length) = r at h1 h2
  have h3 : i % W.length = r % W.length := by
    have : i = r + W.length * (2 * (i / (W.length + W.length))) := by
      rw [← Nat.mul_assoc, Nat.mul_two]
      omega
    conv => lhs; rw [this]
    rw [Nat.add_mul_mod_self_left]
  rw [h3]
  by_cases hl : r < W.length
  · rw [List.getElem?_append_left hl, Nat.mod_eq_of_lt hl]
  · rw [List.getElem?_append_right (by omega)]
    have : r % W.length = r - W.length := by
      rw [Nat.mod_eq_sub_mod (by omega), Nat.mod_eq_of_lt (by omega)]
    rw [this]
theorem circ_turn (X Y : List Int) (h : 0 < (X ++ Y).length) : Circ (Y ++ X) (X ++ Y) X.length := by
  refine ⟨h, fun i => ?_⟩
  unfold rnd
  have hn : (Y ++ X).length = (X ++ Y).length := by simp only [List.length_append]; omega
  rw [hn]
  have hl : (X ++ Y).length = X.length + Y.length := List.length_append
  generalize hN : (X ++ Y).length = N at *
  have h1 : i % N < N := Nat.mod_lt _ h
  have h2 : (i + X.length) % N = (i % N + X.length) % N := by rw [Nat.mod_add_mod]
  rw [h2]
  generalize i % N = r at h1
  by_cases hr : r < Y.length
  · rw [List.getElem?_append_left hr, Nat.mod_eq_of_lt (by omega), List.getElem?_append_right (by omega)]
    congr 1
    omega
  · rw [List.getElem?_append_right (by omega)]
    have : (r + X.length) % N = r + X.length - N := by rw [Nat.mod_eq_sub_mod (by omega), Nat.mod_eq_of_lt (by omega)]
    rw [this, List.getElem?_append_left (by omega)]
    congr 1
    omega
/-- The most ticks that go by between two of p's, round. -/
def gapL (W : List Int) (p : Int) : Int := if lateL W p p < 1 then -1 else lateL W p p - 1
theorem lateL_le (W : List Int) (p q : Int) : lateL W p q ≤ W.length := by
  unfold lateL
  split
  · omega
  · split
    · omega
    · rename_i h
      have hq : hasL q W = true := by simpa using h
      have := (lateW_le (W := W) (p := p) (q := q) (M := W.length) W.length).2 fun t _ _ => dist_le hq t
      omega
theorem gapL_lt (W : List Int) (p : Int) (h : 0 < W.length) : gapL W p < W.length := by
  have := lateL_le W p p
  unfold gapL
  split <;> omega
theorem lateL_neg (W : List Int) (p q : Int) : lateL W p q < 0 ↔ hasL p W = true ∧ hasL q W = false := by
  unfold lateL
  split
  · rename_i h
    simp [h]
  · rename_i h
    split
    · rename_i h2
      simp [h2]
      simpa using h
    · rename_i h2
      simp [h2]
theorem cnt_has {W : List Int} {p : Int} : 0 < cntF p W ↔ hasL p W = true := by
  induction W with
  | nil => simp [cntF, hasL]
  | cons x W ih =>
    simp only [cntF, hasL, Bool.or_eq_true, decide_eq_true_eq, ← ih]
    by_cases hx : x = p
    · simp [hx]; omega
    · simp [hx]
theorem cnt_rep (p x : Int) (n : Nat) : cntF p (List.replicate n x) = if x = p then n else 0 := by
  induction n with
  | zero => simp [cntF]
  | succ n ih =>
    simp only [List.replicate_succ, cntF, ih]
    by_cases h : x = p
    · simp [h]; omega
    · simp [h]
theorem cnt_words (p : Int) (L : List Rn) : cntF p (wordsL L) = tkOf p L := by
  induction L with
  | nil => rfl
  | cons r s ih => simp only [wordsL, cntF_append, cnt_rep, tkOf, ih]
/-- A budget of the whole frame: how many are p's. -/
theorem budL_all (W : List Int) (p : Int) (h : 0 < W.length) : budL W p W.length = cntF p W := by
  unfold budL
  rw [if_neg (by omega), if_neg (by omega), Int.toNat_natCast, if_neg (by rw [Nat.mod_self]; simp), Nat.div_self h]
  have h1 := cntF_le p W
  simp only [budW, Nat.zero_mul, List.drop_zero, List.take_length]
  omega
theorem budL_two (W : List Int) (p : Int) (h : 0 < W.length) : budL (W ++ W) p W.length = cntF p W := by
  have hl : (W ++ W).length = W.length * 2 := by rw [List.length_append]; omega
  unfold budL
  rw [hl, if_neg (by omega), if_neg (by omega), Int.toNat_natCast, if_neg (by rw [Nat.mul_mod_right]; simp), Nat.mul_div_cancel_left 2 h]
  have h1 := cntF_le p W
  have e1 : (W ++ W).take W.length = W := List.take_left' rfl
  have e2 : (W ++ W).drop W.length = W := List.drop_left' rfl
  simp only [budW, Nat.zero_mul, Nat.one_mul, List.drop_zero, e1, e2, List.take_length]
  omega
theorem budL_ge (W : List Int) (p z : Int) : -1 ≤ budL W p z := by
  unfold budL
  split
  · omega
  · split
    · omega
    · split <;> omega
theorem cnt_turn (p : Int) (X Y : List Int) : cntF p (Y ++ X) = cntF p (X ++ Y) := by rw [cntF_append, cntF_append, Nat.add_comm]
end Go.Proofs.Ytoaocdmcjjohgaa
