/- Contracts and mathematics that the texts behind it stand on: Conf, Hold, Hol, Gled, Gclo, Ownb, Gway, Bsam, Bpkg. -/
import Derived.Test.YtcmdhaieggjgcaaLow1
import Derived.Test.YtcmdhaieggjgcaaLow3
import Derived.Test.YtcmdhaieggjgcaaLow4
import Derived.Test.YtcmdhaieggjgcaaLow5
import Derived.IntWalk
import Derived.BigQuiet
import Derived.Deep.CutRange
import Derived.OpenShut
/- Partitions and channels in memory; whether one of them may be, by the document's own answer (that it answers). -/
namespace Go.Proofs.Ytcmdhaieggjgcaa
open Go.RowKit Tab
set_option linter.unusedSimpArgs false
set_option linter.unusedVariables false

/-- A channel, whole. -/
structure ChV where
  from_ : Int
  to_ : Int
  queue : Bool
  cap : Int
  max : Int
  late : Int
/-- A partition, whole; its processes as the slice that holds them. -/
structure PtV where
  name : ByteArray
  bud : Int
  per : Int
  sched : Bool
  stop : Bool
  pa : Option Addr
  pn : Nat
  pc : Nat
  h0 : Int
  h1 : Int
  h2 : Int
  h3 : Int
  h4 : Int
abbrev cv (x : ChV) : Value := .agg #[.int .i64 x.from_, .int .i64 x.to_, .bool x.queue, .int .i64 x.cap, .int .u32 x.max, .int .i64 x.late]
abbrev pv (x : PtV) : Value := .agg #[.string x.name, .int .i64 x.bud, .int .i64 x.per, .bool x.sched, .bool x.stop, .slice x.pa x.pn x.pc, .int .i64 x.h0, .int .i64 x.h1, .int .i64 x.h2, .int .i64 x.h3, .int .i64 x.h4]
/-- It answers yes or no, and leaves what was there. -/
def SomB (w : World) (e : Ending) (w' : World) : Prop := ∃ b, e = .returned (.bool b) ∧ Below w.heap.size w w'
set_option maxRecDepth 100000 in
set_option maxHeartbeats 4000000 in
theorem chanRight_any (x : ChV) (n : Int) (w : World) : Calls Try.prog 53 #[cv x, .int .i64 n] w (SomB w) := by
  obtain ⟨f, t, q, c, m, l⟩ := x
  go_enter Try.func53, Try.ntmps53
  cases q <;> go_wp2 <;> (go_ret; exact ⟨_, rfl, bl1 _ _⟩)
end Go.Proofs.Ytcmdhaieggjgcaa

/- Rows of partitions, of channels in memory; whether a row of runs holds what is asked, by the document's own answer (that it answers). -/
namespace Go.Proofs.Ytcmdhaieggjgcaa
open Go.RowKit Tab
set_option linter.unusedSimpArgs false
set_option linter.unusedVariables false

section
variable {α : Type} {f : α → List Value} {s : Nat}
theorem flat_get (hf : ∀ x, (f x).length = s) (l : List α) (i k : Nat) (x : α) (hx : l[i]? = some x) (hk : k < s) : (l.flatMap f)[i * s + k]? = (f x)[k]? := by
  induction l generalizing i with
  | nil => simp at hx
  | cons y l ih =>
    rw [List.flatMap_cons]
    cases i with
    | zero =>
      simp at hx
      subst hx
      rw [Nat.zero_mul, Nat.zero_add, List.getElem?_append_left (by rw [hf]; exact hk)]
    | succ i =>
      rw [List.getElem?_append_right (by rw [hf, Nat.succ_mul]; omega), hf]
      have := ih i (by simpa using hx)
      rw [← this]
      congr 1
      rw [Nat.succ_mul]
      omega
end
/-- A slice at A, n long, of structs, each in s cells, holds l. -/
structure RdB {α : Type} (f : α → List Value) (w : World) (B : Nat) (A : Option Addr) (n : Nat) (l : List α) : Prop where
  len : l.length = n
  rd : RdV w B A (l.flatMap f)
section
variable {α : Type} {f : α → List Value} {s : Nat} {w w' : World} {B n : Nat} {A : Option Addr} {l : List α}
theorem RdB.on (h : RdB f w w.heap.size A n l) (hb : Below w.heap.size w w') : RdB f w' w'.heap.size A n l := ⟨h.len, (h.rd.below hb).more hb.size⟩
theorem RdB.at_ (h : RdB f w B A n l) (hf : ∀ x, (f x).length = s) (hs : 0 < s) {i : Nat} (hi : i < n) : ∃ (ad : Addr) (x : α), A = some ad ∧ ad.block < B ∧ l[i]? = some x ∧ (∀ v, (f x)[0]? = some v → w.cell? (ad.add (i * s)) = some v) ∧
    ∀ k v, 0 < k → (f x)[k]? = some v → w.cell? ⟨(ad.add (i * s)).block, (ad.add (i * s)).off + k, none⟩ = some v := by
  have hl : i < l.length := by rw [h.len]; exact hi
  have hx : l[i]? = some l[i] := List.getElem?_eq_getElem hl
  have hpos : 0 < (l.flatMap f).length := by
    cases l with
    | nil => simp at hl
    | cons y l => rw [List.flatMap_cons, List.length_append, hf]; omega
  obtain ⟨ad, e, hb, hc⟩ := h.rd hpos
  refine ⟨ad, l[i], e, hb, hx, fun v hv => ?_, fun k v hk hv => ?_⟩
  · have := flat_get hf l i 0 _ hx hs
    rw [Nat.add_zero] at this
    exact hc _ v (this.trans hv)
  · have hks : k < s := by rw [← hf l[i]]; exact (List.getElem?_eq_some_iff.1 hv).1
    have := flat_get hf l i k _ hx hks
    have e1 : (⟨(ad.add (i * s)).block, (ad.add (i * s)).off + k, none⟩ : Addr) = ad.add (i * s + k) := by
      rw [← add_add]
      generalize ad.add (i * s) = p
      unfold Addr.add
      rw [if_neg (by omega)]
    rw [e1]
    exact hc _ v (this.trans hv)
end
def cc (x : ChV) : List Value := [.int .i64 x.from_, .int .i64 x.to_, .bool x.queue, .int .i64 x.cap, .int .u32 x.max, .int .i64 x.late]
def pcl (x : PtV) : List Value := [.string x.name, .int .i64 x.bud, .int .i64 x.per, .bool x.sched, .bool x.stop, .slice x.pa x.pn x.pc, .int .i64 x.h0, .int .i64 x.h1, .int .i64 x.h2, .int .i64 x.h3, .int .i64 x.h4]
theorem cc_len (x : ChV) : (cc x).length = 6 := rfl
theorem pcl_len (x : PtV) : (pcl x).length = 11 := rfl
/-- It answers a number, and leaves what was there. -/
def SomI (w : World) (e : Ending) (w' : World) : Prop := ∃ z, e = .returned (.int .i64 z) ∧ Below w.heap.size w w'
set_option maxRecDepth 100000 in
set_option maxHeartbeats 4000000 in
theorem holds_any (A1 A2 A3 A4 : Option Addr) (n1 n2 n3 n4 c1 c2 c3 c4 : Nat) (P : List PtV) (C : List ChV) (L : List Rn) (w : World) (hP : RdB pcl w w.heap.size A1 n1 P) (hC : RdB cc w w.heap.size A2 n2 C) (hL : RdR w w.heap.size A4 n4 L)
    (q1 : n1 ≤ 1048576) (q2 : n2 ≤ 1048576) (q4 : n4 ≤ c4) (q5 : n4 ≤ 1048576) (ht : ticks L ≤ 8192) (hz : ∀ x ∈ P, In64 x.per) :
    Calls Try.prog 17 #[.agg #[.slice A1 n1 c1, .slice A2 n2 c2, .slice A3 n3 c3], .slice A4 n4 c4] w (SomI w) := by
  have hb0 := bl1 w (.cells #[.slice A1 n1 c1, .slice A2 n2 c2, .slice A3 n3 c3] 36)
  have hP0 := hP.on hb0
  have hC0 := hC.on hb0
  have hL0 := hL.on hb0
  have m0 : (w.alloc (.cells #[.slice A1 n1 c1, .slice A2 n2 c2, .slice A3 n3 c3] 36)).cell? ⟨w.heap.size, 0, none⟩ = some (.slice A1 n1 c1) := World.cell?_alloc_mark _ _ _ _ _
  have hgs : w.heap.size < (w.alloc (.cells #[.slice A1 n1 c1, .slice A2 n2 c2, .slice A3 n3 c3] 36)).heap.size := by simp
  have HZ := Lib.hid hz
  clear hP hC hL hz
  go_enter Try.func17, Try.ntmps17
  go_wp2_with fail
  generalize w.alloc (.cells #[.slice A1 n1 c1, .slice A2 n2 c2, .slice A3 n3 c3] 36) = W at hb0 hP0 hC0 hL0 m0 hgs ⊢
  obtain ⟨g, hg⟩ : ∃ g, g = w.heap.size := ⟨_, rfl⟩
  rw [← hg] at m0 hgs ⊢
  have HG := Lib.hid hg
  have HM0 := Lib.hid m0
  clear hg m0
  go_loopw [6, 7, 13] (fun _ _ s wr => ∃ i : Nat, i ≤ n2 ∧ s = .int .i64 i ∧ Below W.heap.size W wr) (fun _ _ s _ => n2 - (intOf s).toNat)
  case atStart => exact ⟨0, by omega, rfl, Below.refl _ _⟩
  case round =>
    obtain ⟨i, hi, rfl, hb⟩ := hrel
    by_cases hlt : i < n2
    · obtain ⟨ad, x, rfl, had, hx, c0, ck⟩ := (hC0.on hb).at_ cc_len (by omega) hlt
      have d0 := c0 _ rfl
      have d1 := ck 1 _ (by omega) rfl
      have d2 := ck 2 _ (by omega) rfl
      have d3 := ck 3 _ (by omega) rfl
      have d4 := ck 4 _ (by omega) rfl
      have d5 := ck 5 _ (by omega) rfl
      obtain ⟨xf, xt, xq, xc, xm, xl⟩ := x
      dsimp only at d0 d1 d2 d3 d4 d5
      have hbx := bl1 wr (.cells #[.int .i64 xf, .int .i64 xt, .bool xq, .int .i64 xc, .int .u32 xm, .int .i64 xl] 48)
      have hb1 := hb.trans (hbx.mono hb.size)
      have HLT := Lib.hid (late_any A4 n4 c4 L xf xt _ (hL0.on hb1) q4 q5 ht)
      have HB1 := Lib.hid hb1
      clear c0 ck hx hbx hb1
      go_wp2_with fail
      refine HLT.out.mono ?_
      rintro e w5 ⟨rfl, hb5⟩
      have e5 : w5.cell? ⟨wr.heap.size, 5, none⟩ = some (.int .i64 xl) := (hb5.cell (p := ⟨wr.heap.size, 5, none⟩) (by simp)).trans (World.cell?_alloc_mark _ _ _ _ _)
      have HB5 := Lib.hid (HB1.out.trans (hb5.mono HB1.out.size))
      clear hb5 HLT HB1 d0 d1 d2 d3 d4 d5
      generalize lateL (wordsL L) xf xt = z
      generalize wr.heap.size = gx at e5 ⊢
      go_wp2_with fail
      all_goals
        first
        | (go_ret; exact ⟨_, rfl, hb0.trans (HB5.out.mono hb0.size)⟩)
        | (go_roundw
           case rel => exact ⟨i + 1, by omega, by go_num, HB5.out⟩
           case measure => simp [intOf]; omega)
    · have hge : n2 ≤ i := by omega
      have m0 := (hb.cell (p := ⟨g, 0, none⟩) hgs).trans HM0.out
      go_wp2_with fail
      go_loopw [8, 9, 40] (fun _ _ s wx => ∃ j : Nat, j ≤ n1 ∧ s = .int .i64 j ∧ Below W.heap.size W wx) (fun _ _ s _ => n1 - (intOf s).toNat)
      case atStart => exact ⟨0, by omega, rfl, hb⟩
      case round =>
        obtain ⟨j, hj, rfl, hb⟩ := hrel
        by_cases hlt : j < n1
        · obtain ⟨ad, x, rfl, had, hx, c0, ck⟩ := (hP0.on hb).at_ pcl_len (by omega) hlt
          have d0 := c0 _ rfl
          have d1 := ck 1 _ (by omega) rfl
          have d2 := ck 2 _ (by omega) rfl
          have d3 := ck 3 _ (by omega) rfl
          have d4 := ck 4 _ (by omega) rfl
          have d5 := ck 5 _ (by omega) rfl
          have d6 := ck 6 _ (by omega) rfl
          have d7 := ck 7 _ (by omega) rfl
          have d8 := ck 8 _ (by omega) rfl
          have d9 := ck 9 _ (by omega) rfl
          have d10 := ck 10 _ (by omega) rfl
          have hzx := HZ.out x (List.mem_of_getElem? hx)
          obtain ⟨nm, bu, pe, sc, st, pa, pn, pc, h0, h1, h2, h3, h4⟩ := x
          dsimp only at d0 d1 d2 d3 d4 d5 d6 d7 d8 d9 d10 hzx
          have hbx := bl1 wr (.cells #[.string nm, .int .i64 bu, .int .i64 pe, .bool sc, .bool st, .slice pa pn pc, .int .i64 h0, .int .i64 h1, .int .i64 h2, .int .i64 h3, .int .i64 h4] 52)
          have hb1 := hb.trans (hbx.mono hb.size)
          have f1 : (wr.alloc (.cells #[.string nm, .int .i64 bu, .int .i64 pe, .bool sc, .bool st, .slice pa pn pc, .int .i64 h0, .int .i64 h1, .int .i64 h2, .int .i64 h3, .int .i64 h4] 52)).cell? ⟨wr.heap.size, 1, none⟩ = some (.int .i64 bu) := World.cell?_alloc_mark _ _ _ _ _
          have f2 : (wr.alloc (.cells #[.string nm, .int .i64 bu, .int .i64 pe, .bool sc, .bool st, .slice pa pn pc, .int .i64 h0, .int .i64 h1, .int .i64 h2, .int .i64 h3, .int .i64 h4] 52)).cell? ⟨wr.heap.size, 2, none⟩ = some (.int .i64 pe) := World.cell?_alloc_mark _ _ _ _ _
          have hgx : wr.heap.size < (wr.alloc (.cells #[.string nm, .int .i64 bu, .int .i64 pe, .bool sc, .bool st, .slice pa pn pc, .int .i64 h0, .int .i64 h1, .int .i64 h2, .int .i64 h3, .int .i64 h4] 52)).heap.size := by simp
          clear c0 ck hx hbx
          go_wp2_with fail
          generalize wr.alloc (.cells #[.string nm, .int .i64 bu, .int .i64 pe, .bool sc, .bool st, .slice pa pn pc, .int .i64 h0, .int .i64 h1, .int .i64 h2, .int .i64 h3, .int .i64 h4] 52) = W2 at hb1 f1 f2 hgx ⊢
          generalize wr.heap.size = gx at f1 f2 hgx ⊢
          have HB1 := Lib.hid hb1
          clear d0 d1 d2 d3 d4 d5 d6 d7 d8 d9 d10 hb1 had
          by_cases hbu : 0 < bu
          · have hbd : decide (0 < bu) = true := decide_eq_true hbu
            have HBG : Hid (Calls Try.prog 13 #[.slice A4 n4 c4, .int .i64 (j : Int), .int .i64 pe] W2.drew fun e w5 => e = .returned (.int .i64 (budL (wordsL L) (j : Int) pe)) ∧ Below W2.heap.size W2 w5 ∧ w5.cell? ⟨gx, 1, none⟩ = some (.int .i64 bu) ∧ w5.cell? ⟨gx, 2, none⟩ = some (.int .i64 pe)) := Lib.hid (by
              refine (budget_any A4 n4 c4 L (j : Int) pe W2.drew ((hL0.on HB1.out).below (Below.refl _ _).drew) q4 q5 ht hzx).mono ?_
              rintro e w5 ⟨rfl, hb5⟩
              have hb6 : Below W2.heap.size W2 w5 := ⟨hb5.os, hb5.tape, hb5.output, hb5.size, hb5.block⟩
              exact ⟨rfl, hb6, (hb6.cell (p := ⟨gx, 1, none⟩) hgx).trans f1, (hb6.cell (p := ⟨gx, 2, none⟩) hgx).trans f2⟩)
            generalize budL (wordsL L) (j : Int) pe = z at HBG
            go_region_with (go_at_call 13; refine HBG.out.mono ?_; rintro e w5 ⟨rfl, hb5, g1, g2⟩)
            go_wp2_with fail
            all_goals
              first
              | (go_ret; exact ⟨_, rfl, hb0.trans ((HB1.out.trans (hb5.mono HB1.out.size)).mono hb0.size)⟩)
              | (go_roundw
                 case rel => exact ⟨j + 1, by omega, by go_num, HB1.out.trans (hb5.mono HB1.out.size)⟩
                 case measure => simp [intOf]; omega)
          · have hbd : decide (0 < bu) = false := decide_eq_false hbu
            go_quiet (fail)
            go_wp2_with fail
            go_roundw
            case rel => exact ⟨j + 1, by omega, by go_num, Below.drewN HB1.out nq⟩
            case measure => simp [intOf]; omega
        · have hge : n1 ≤ j := by omega
          go_wp2_with fail
          go_ret
          exact ⟨_, rfl, hb0.trans (hb.mono hb0.size)⟩
end Go.Proofs.Ytcmdhaieggjgcaa

/- Whether a row of runs holds what is asked; how long a partition waits: by the document's own answer, exactly. -/
namespace Go.Proofs.Ytcmdhaieggjgcaa
open Go.RowKit Tab
set_option linter.unusedSimpArgs false
set_option linter.unusedVariables false

/-- Is a channel late? -/
def chLate (W : List Int) (x : ChV) : Bool := decide (0 < x.late) && (decide (lateL W x.from_ x.to_ < 0) || decide (x.late < lateL W x.from_ x.to_))
/-- Does a partition get too few? -/
def ptShort (W : List Int) (i : Nat) (x : PtV) : Bool := decide (0 < x.bud) && decide (budL W (i : Int) x.per < x.bud)
def shortF (W : List Int) : Nat → List PtV → Bool
  | _, [] => false
  | i, x :: l => ptShort W i x || shortF W (i + 1) l
def holdsF (W : List Int) (P : List PtV) (C : List ChV) : Int := if C.any (chLate W) = true then 19 else if shortF W 0 P = true then 20 else 0
theorem holdsF_late {W : List Int} {P : List PtV} {C : List ChV} (h : C.any (chLate W) = true) : holdsF W P C = 19 := if_pos h
theorem holdsF_short {W : List Int} {P : List PtV} {C : List ChV} (h : C.any (chLate W) = false) (h2 : shortF W 0 P = true) : holdsF W P C = 20 := by unfold holdsF; rw [if_neg (by rw [h]; decide), if_pos h2]
theorem holdsF_ok {W : List Int} {P : List PtV} {C : List ChV} (h : C.any (chLate W) = false) (h2 : shortF W 0 P = false) : holdsF W P C = 0 := by unfold holdsF; rw [if_neg (by rw [h]; decide), if_neg (by rw [h2]; decide)]
theorem any_more {α : Type} (f : α → Bool) {l : List α} {i : Nat} {x : α} (h : l[i]? = some x) : (l.take (i + 1)).any f = ((l.take i).any f || f x) := by
  obtain ⟨hi, e⟩ := List.getElem?_eq_some_iff.1 h
  rw [List.take_succ_eq_append_getElem hi, List.any_append, e]
  simp
theorem any_mem {α : Type} (f : α → Bool) {l : List α} {i : Nat} {x : α} (h : l[i]? = some x) (hf : f x = true) : l.any f = true := List.any_eq_true.2 ⟨x, List.mem_of_getElem? h, hf⟩
theorem shortF_append (W : List Int) (a b : List PtV) : ∀ i, shortF W i (a ++ b) = (shortF W i a || shortF W (i + a.length) b) := by
  induction a with
  | nil => intro i; simp [shortF]
  | cons x a ih =>
    intro i
    simp only [List.cons_append, shortF, ih, List.length_cons, Bool.or_assoc]
    rw [show i + 1 + a.length = i + (a.length + 1) by omega]
theorem short_more {W : List Int} {l : List PtV} {i : Nat} {x : PtV} (h : l[i]? = some x) : shortF W 0 (l.take (i + 1)) = (shortF W 0 (l.take i) || ptShort W i x) := by
  obtain ⟨hi, e⟩ := List.getElem?_eq_some_iff.1 h
  rw [List.take_succ_eq_append_getElem hi, shortF_append, e, Nat.zero_add, List.length_take, Nat.min_eq_left (by omega)]
  simp [shortF]
theorem short_mem {W : List Int} {l : List PtV} {i : Nat} {x : PtV} (h : l[i]? = some x) (hs : ptShort W i x = true) : shortF W 0 l = true := by
  have e := short_more (W := W) h
  rw [hs, Bool.or_true] at e
  have k := shortF_append W (l.take (i + 1)) (l.drop (i + 1)) 0
  rw [List.take_append_drop, e, Bool.true_or] at k
  exact k
theorem shortF_iff {W : List Int} {l : List PtV} : shortF W 0 l = false ↔ ∀ i x, l[i]? = some x → ptShort W i x = false := by
  constructor
  · intro h i x hx
    cases hs : ptShort W i x with
    | false => rfl
    | true => rw [short_mem hx hs] at h; cases h
  · intro h
    have key : ∀ k, shortF W 0 (l.take k) = false := by
      intro k
      induction k with
      | zero => rfl
      | succ k ih =>
        cases hx : l[k]? with
        | none =>
          have : l.length ≤ k := List.getElem?_eq_none_iff.1 hx
          rw [List.take_of_length_le (by omega)]
          rw [List.take_of_length_le this] at ih
          exact ih
        | some x => rw [short_more hx, ih, h k x hx]; rfl
    have := key l.length
    rwa [List.take_length] at this
set_option maxRecDepth 100000 in
set_option maxHeartbeats 1000000 in
theorem rgaps_any (A : Option Addr) (n cap : Nat) (L : List Rn) (p : Int) (w : World) (h : RdR w w.heap.size A n L) (hc : n ≤ cap) (hn : n ≤ 1048576) (ht : ticks L ≤ 8192) :
    Calls Try.prog 26 #[.slice A n cap, .int .i64 p] w (Ans (.int .i64 (gapL (wordsL L) p)) w) := by
  have H := Lib.hid (late_any A n cap L p p w h hc hn ht)
  have hle := lateL_le (wordsL L) p p
  rw [wordsL_len] at hle
  unfold gapL
  generalize lateL (wordsL L) p p = z at H hle ⊢
  obtain ⟨R, hR⟩ : ∃ R, R = if z < 1 then (-1 : Int) else z - 1 := ⟨_, rfl⟩
  rw [← hR]
  have HR := Lib.hid hR
  clear hR h
  go_enter Try.func26, Try.ntmps26
  go_wp2_with fail
  refine H.out.mono ?_
  rintro e w1 ⟨rfl, hb1⟩
  by_cases hz : z < 1
  · have hzd : decide (z < 1) = true := decide_eq_true hz
    have e : R = -1 := by rw [HR.out, if_pos hz]
    subst e
    go_wp2_with fail
    go_ret
    exact Ans.mk rfl hb1
  · have hzd : decide (z < 1) = false := decide_eq_false hz
    have e : R = z - 1 := by rw [HR.out, if_neg hz]
    subst e
    have hw : IntKind.i64.wrap (z - 1) = z - 1 := IntWalk.i64_in _ (by omega)
    go_wp2_with fail
    go_ret
    exact Ans.mk rfl hb1
set_option maxRecDepth 100000 in
set_option maxHeartbeats 4000000 in
theorem holdsx_any (A1 A2 A3 A4 : Option Addr) (n1 n2 n3 n4 c1 c2 c3 c4 : Nat) (P : List PtV) (C : List ChV) (L : List Rn) (w : World) (hP : RdB pcl w w.heap.size A1 n1 P) (hC : RdB cc w w.heap.size A2 n2 C) (hL : RdR w w.heap.size A4 n4 L)
    (q1 : n1 ≤ 1048576) (q2 : n2 ≤ 1048576) (q4 : n4 ≤ c4) (q5 : n4 ≤ 1048576) (ht : ticks L ≤ 8192) (hz : ∀ x ∈ P, In64 x.per) :
    Calls Try.prog 17 #[.agg #[.slice A1 n1 c1, .slice A2 n2 c2, .slice A3 n3 c3], .slice A4 n4 c4] w (Ans (.int .i64 (holdsF (wordsL L) P C)) w) := by
  have hb0 := bl1 w (.cells #[.slice A1 n1 c1, .slice A2 n2 c2, .slice A3 n3 c3] 36)
  have hP0 := hP.on hb0
  have hC0 := hC.on hb0
  have hL0 := hL.on hb0
  have m0 : (w.alloc (.cells #[.slice A1 n1 c1, .slice A2 n2 c2, .slice A3 n3 c3] 36)).cell? ⟨w.heap.size, 0, none⟩ = some (.slice A1 n1 c1) := World.cell?_alloc_mark _ _ _ _ _
  have hgs : w.heap.size < (w.alloc (.cells #[.slice A1 n1 c1, .slice A2 n2 c2, .slice A3 n3 c3] 36)).heap.size := by simp
  have HZ := Lib.hid hz
  obtain ⟨R, hR⟩ : ∃ R, R = holdsF (wordsL L) P C := ⟨_, rfl⟩
  rw [← hR]
  obtain ⟨X, hX⟩ : ∃ X, X = wordsL L := ⟨_, rfl⟩
  rw [← hX] at hR
  have HR := Lib.hid hR
  have HX := Lib.hid hX
  have hPl := hP.len
  have hCl := hC.len
  have HPL := Lib.hid hPl
  have HCL := Lib.hid hCl
  clear hP hC hL hz hR hX hPl hCl
  go_enter Try.func17, Try.ntmps17
  go_wp2_with fail
  generalize w.alloc (.cells #[.slice A1 n1 c1, .slice A2 n2 c2, .slice A3 n3 c3] 36) = W at hb0 hP0 hC0 hL0 m0 hgs ⊢
  obtain ⟨g, hg⟩ : ∃ g, g = w.heap.size := ⟨_, rfl⟩
  rw [← hg] at m0 hgs ⊢
  have HG := Lib.hid hg
  have HM0 := Lib.hid m0
  clear hg m0
  go_loopw [6, 7, 13] (fun _ _ s wr => ∃ i : Nat, i ≤ n2 ∧ s = .int .i64 i ∧ (C.take i).any (chLate X) = false ∧ Below W.heap.size W wr) (fun _ _ s _ => n2 - (intOf s).toNat)
  case atStart => exact ⟨0, by omega, rfl, rfl, Below.refl _ _⟩
  case round =>
    obtain ⟨i, hi, rfl, hany, hb⟩ := hrel
    have HANY := Lib.hid hany
    clear hany
    by_cases hlt : i < n2
    · obtain ⟨ad, x, rfl, had, hx, c0, ck⟩ := (hC0.on hb).at_ cc_len (by omega) hlt
      have d0 := c0 _ rfl
      have d1 := ck 1 _ (by omega) rfl
      have d2 := ck 2 _ (by omega) rfl
      have d3 := ck 3 _ (by omega) rfl
      have d4 := ck 4 _ (by omega) rfl
      have d5 := ck 5 _ (by omega) rfl
      have HMORE := Lib.hid (any_more (chLate X) hx)
      have HMEM := Lib.hid (any_mem (chLate X) hx)
      obtain ⟨xf, xt, xq, xc, xm, xl⟩ := x
      dsimp only at d0 d1 d2 d3 d4 d5
      have hbx := bl1 wr (.cells #[.int .i64 xf, .int .i64 xt, .bool xq, .int .i64 xc, .int .u32 xm, .int .i64 xl] 48)
      have hb1 := hb.trans (hbx.mono hb.size)
      have HLT := Lib.hid (late_any A4 n4 c4 L xf xt _ (hL0.on hb1) q4 q5 ht)
      have HB1 := Lib.hid hb1
      clear c0 ck hx hbx hb1
      go_wp2_with fail
      refine HLT.out.mono ?_
      rintro e w5 ⟨rfl, hb5⟩
      have e5 : w5.cell? ⟨wr.heap.size, 5, none⟩ = some (.int .i64 xl) := (hb5.cell (p := ⟨wr.heap.size, 5, none⟩) (by simp)).trans (World.cell?_alloc_mark _ _ _ _ _)
      have HB5 := Lib.hid (HB1.out.trans (hb5.mono HB1.out.size))
      clear hb5 HLT HB1 d0 d1 d2 d3 d4 d5
      rw [← HX.out]
      have hcl : chLate X ⟨xf, xt, xq, xc, xm, xl⟩ = (decide (0 < xl) && (decide (lateL X xf xt < 0) || decide (xl < lateL X xf xt))) := rfl
      generalize lateL X xf xt = z at hcl ⊢
      generalize wr.heap.size = gx at e5 ⊢
      have HCL2 := Lib.hid hcl
      clear hcl
      by_cases t1 : 0 < xl
      · have u1 : decide (0 < xl) = true := decide_eq_true t1
        by_cases t2 : z < 0
        · have u2 : decide (z < 0) = true := decide_eq_true t2
          have hres : R = 19 := by
            rw [HR.out]
            exact holdsF_late (HMEM.out (by rw [HCL2.out, u1, u2]; rfl))
          subst hres
          go_wp2_with fail
          go_ret
          exact Ans.mk rfl (hb0.trans (HB5.out.mono hb0.size))
        · have u2 : decide (z < 0) = false := decide_eq_false t2
          by_cases t3 : xl < z
          · have u3 : decide (xl < z) = true := decide_eq_true t3
            have hres : R = 19 := by
              rw [HR.out]
              exact holdsF_late (HMEM.out (by rw [HCL2.out, u1, u3]; simp))
            subst hres
            go_wp2_with fail
            go_ret
            exact Ans.mk rfl (hb0.trans (HB5.out.mono hb0.size))
          · have u3 : decide (xl < z) = false := decide_eq_false t3
            have HN : Hid ((C.take (i + 1)).any (chLate X) = false) := Lib.hid (by rw [HMORE.out, HANY.out, HCL2.out, u1, u2, u3]; rfl)
            go_wp2_with fail
            go_roundw
            case rel => exact ⟨i + 1, by omega, by go_num, HN.out, HB5.out⟩
            case measure => simp [intOf]; omega
      · have u1 : decide (0 < xl) = false := decide_eq_false t1
        have HN : Hid ((C.take (i + 1)).any (chLate X) = false) := Lib.hid (by rw [HMORE.out, HANY.out, HCL2.out, u1]; rfl)
        go_wp2_with fail
        go_roundw
        case rel => exact ⟨i + 1, by omega, by go_num, HN.out, HB5.out⟩
        case measure => simp [intOf]; omega
    · have hge : n2 ≤ i := by omega
      have HALL : Hid (C.any (chLate X) = false) := Lib.hid (by
        have h := HANY.out
        rw [List.take_of_length_le (by rw [HCL.out]; exact hge)] at h
        exact h)
      clear HANY
      have m0 := (hb.cell (p := ⟨g, 0, none⟩) hgs).trans HM0.out
      go_wp2_with fail
      go_loopw [8, 9, 40] (fun _ _ s wx => ∃ j : Nat, j ≤ n1 ∧ s = .int .i64 j ∧ shortF X 0 (P.take j) = false ∧ Below W.heap.size W wx) (fun _ _ s _ => n1 - (intOf s).toNat)
      case atStart => exact ⟨0, by omega, rfl, rfl, hb⟩
      case round =>
        obtain ⟨j, hj, rfl, hsh, hb⟩ := hrel
        have HSH := Lib.hid hsh
        clear hsh
        by_cases hlt : j < n1
        · obtain ⟨ad, x, rfl, had, hx, c0, ck⟩ := (hP0.on hb).at_ pcl_len (by omega) hlt
          have d0 := c0 _ rfl
          have d1 := ck 1 _ (by omega) rfl
          have d2 := ck 2 _ (by omega) rfl
          have d3 := ck 3 _ (by omega) rfl
          have d4 := ck 4 _ (by omega) rfl
          have d5 := ck 5 _ (by omega) rfl
          have d6 := ck 6 _ (by omega) rfl
          have d7 := ck 7 _ (by omega) rfl
          have d8 := ck 8 _ (by omega) rfl
          have d9 := ck 9 _ (by omega) rfl
          have d10 := ck 10 _ (by omega) rfl
          have hzx := HZ.out x (List.mem_of_getElem? hx)
          have HSM := Lib.hid (short_more (W := X) hx)
          have HSE := Lib.hid (short_mem (W := X) hx)
          obtain ⟨nm, bu, pe, sc, st, pa, pn, pc, h0, h1, h2, h3, h4⟩ := x
          dsimp only at d0 d1 d2 d3 d4 d5 d6 d7 d8 d9 d10 hzx
          have hbx := bl1 wr (.cells #[.string nm, .int .i64 bu, .int .i64 pe, .bool sc, .bool st, .slice pa pn pc, .int .i64 h0, .int .i64 h1, .int .i64 h2, .int .i64 h3, .int .i64 h4] 52)
          have hb1 := hb.trans (hbx.mono hb.size)
          have f1 : (wr.alloc (.cells #[.string nm, .int .i64 bu, .int .i64 pe, .bool sc, .bool st, .slice pa pn pc, .int .i64 h0, .int .i64 h1, .int .i64 h2, .int .i64 h3, .int .i64 h4] 52)).cell? ⟨wr.heap.size, 1, none⟩ = some (.int .i64 bu) := World.cell?_alloc_mark _ _ _ _ _
          have f2 : (wr.alloc (.cells #[.string nm, .int .i64 bu, .int .i64 pe, .bool sc, .bool st, .slice pa pn pc, .int .i64 h0, .int .i64 h1, .int .i64 h2, .int .i64 h3, .int .i64 h4] 52)).cell? ⟨wr.heap.size, 2, none⟩ = some (.int .i64 pe) := World.cell?_alloc_mark _ _ _ _ _
          have hgx : wr.heap.size < (wr.alloc (.cells #[.string nm, .int .i64 bu, .int .i64 pe, .bool sc, .bool st, .slice pa pn pc, .int .i64 h0, .int .i64 h1, .int .i64 h2, .int .i64 h3, .int .i64 h4] 52)).heap.size := by simp
          clear c0 ck hx hbx
          go_wp2_with fail
          generalize wr.alloc (.cells #[.string nm, .int .i64 bu, .int .i64 pe, .bool sc, .bool st, .slice pa pn pc, .int .i64 h0, .int .i64 h1, .int .i64 h2, .int .i64 h3, .int .i64 h4] 52) = W2 at hb1 f1 f2 hgx ⊢
          generalize wr.heap.size = gx at f1 f2 hgx ⊢
          have HB1 := Lib.hid hb1
          clear d0 d1 d2 d3 d4 d5 d6 d7 d8 d9 d10 hb1 had
          by_cases hbu : 0 < bu
          · have hbd : decide (0 < bu) = true := decide_eq_true hbu
            have HBG : Hid (Calls Try.prog 13 #[.slice A4 n4 c4, .int .i64 (j : Int), .int .i64 pe] W2.drew fun e w5 => e = .returned (.int .i64 (budL (wordsL L) (j : Int) pe)) ∧ Below W2.heap.size W2 w5 ∧ w5.cell? ⟨gx, 1, none⟩ = some (.int .i64 bu) ∧ w5.cell? ⟨gx, 2, none⟩ = some (.int .i64 pe)) := Lib.hid (by
              refine (budget_any A4 n4 c4 L (j : Int) pe W2.drew ((hL0.on HB1.out).below (Below.refl _ _).drew) q4 q5 ht hzx).mono ?_
              rintro e w5 ⟨rfl, hb5⟩
              have hb6 : Below W2.heap.size W2 w5 := ⟨hb5.os, hb5.tape, hb5.output, hb5.size, hb5.block⟩
              exact ⟨rfl, hb6, (hb6.cell (p := ⟨gx, 1, none⟩) hgx).trans f1, (hb6.cell (p := ⟨gx, 2, none⟩) hgx).trans f2⟩)
            rw [← HX.out] at HBG
            have hps : ptShort X j ⟨nm, bu, pe, sc, st, pa, pn, pc, h0, h1, h2, h3, h4⟩ = (decide (0 < bu) && decide (budL X (j : Int) pe < bu)) := rfl
            generalize budL X (j : Int) pe = z at HBG hps
            rw [hbd, Bool.true_and] at hps
            have HPS := Lib.hid hps
            clear hps
            go_region_with (go_at_call 13; refine HBG.out.mono ?_; rintro e w5 ⟨rfl, hb5, g1, g2⟩)
            all_goals
              by_cases t2 : z < bu
              · have u2 : decide (z < bu) = true := decide_eq_true t2
                have hres : R = 20 := by
                  rw [HR.out]
                  exact holdsF_short HALL.out (HSE.out (by rw [HPS.out]; exact u2))
                subst hres
                go_wp2_with fail
                go_ret
                exact Ans.mk rfl (hb0.trans ((HB1.out.trans (hb5.mono HB1.out.size)).mono hb0.size))
              · have u2 : decide (z < bu) = false := decide_eq_false t2
                have HN : Hid (shortF X 0 (P.take (j + 1)) = false) := Lib.hid (by rw [HSM.out, HSH.out, HPS.out, u2]; rfl)
                go_wp2_with fail
                go_roundw
                case rel => exact ⟨j + 1, by omega, by go_num, HN.out, HB1.out.trans (hb5.mono HB1.out.size)⟩
                case measure => simp [intOf]; omega
          · have hbd : decide (0 < bu) = false := decide_eq_false hbu
            have hps : ptShort X j ⟨nm, bu, pe, sc, st, pa, pn, pc, h0, h1, h2, h3, h4⟩ = (decide (0 < bu) && decide (budL X (j : Int) pe < bu)) := rfl
            rw [hbd, Bool.false_and] at hps
            have HN : Hid (shortF X 0 (P.take (j + 1)) = false) := Lib.hid (by rw [HSM.out, HSH.out, hps]; rfl)
            clear hps
            go_quiet (fail)
            go_wp2_with fail
            go_roundw
            case rel => exact ⟨j + 1, by omega, by go_num, HN.out, Below.drewN HB1.out nq⟩
            case measure => simp [intOf]; omega
        · have hge : n1 ≤ j := by omega
          have hres : R = 0 := by
            rw [HR.out]
            refine holdsF_ok HALL.out ?_
            have h := HSH.out
            rw [List.take_of_length_le (by rw [HPL.out]; exact hge)] at h
            exact h
          subst hres
          go_wp2_with fail
          go_ret
          exact Ans.mk rfl (hb0.trans (hb.mono hb0.size))
end Go.Proofs.Ytcmdhaieggjgcaa

/- A search from a few on: all to whom steps lead. -/
namespace Go.Proofs.Ytcmdhaieggjgcaa
open Go.RowKit Tab
set_option linter.unusedSimpArgs false
set_option linter.unusedVariables false

/-- A slice of numbers that is to be gone through. -/
structure Sl where
  a : Option Addr
  c : Nat
  l : List Nat
def Sl.v (s : Sl) : Value := .slice s.a s.l.length s.c
def SlOk (w : World) (B : Nat) (s : Sl) : Prop := s.l.length ≤ s.c ∧ s.l.length ≤ 1048576 ∧ RdI w B s.a s.l.length (s.l.map fun x : Nat => (x : Int))
theorem slv_one (T : List Sl) : ∀ u ∈ T.map Sl.v, u.oneCell' = true := by
  intro u hu
  obtain ⟨s, _, rfl⟩ := List.mem_map.1 hu
  rfl
/-- What is not marked, by the cells. -/
def unw (w : World) (h n : Nat) : Nat := un n fun j => match w.cell? ⟨h, j, none⟩ with | some (.bool b) => b | _ => false
theorem Vec.unw {w : World} {h n : Nat} {M : Nat → Bool} (hv : Vec w h n fun j => .bool (M j)) : unw w h n = un n M := by
  unfold Go.Proofs.Ytcmdhaieggjgcaa.unw
  exact un_congr fun j hj => by rw [hv.cell j hj]
theorem OwnV.keep' {E s B n c : Nat} {w w' : World} {A : Option Addr} {l : List Value} (h : OwnV E s w B A n c l) (hk : ∀ g, obk A = some g → w'.heap[g]? = w.heap[g]?) : OwnV E s w' B A n c l := by
  refine ⟨h.1, ?_⟩
  rcases h.2 with hv | ⟨g, cap, cur, hv, hbg, hg, r⟩
  · exact .inl hv
  · exact .inr ⟨g, cap, cur, hv, hbg, by rw [hk g (by injection hv with h1; rw [h1]; rfl)]; exact hg, r⟩
theorem drop_at {L : List Nat} {i : Nat} (h : i < L.length) : L.drop i = L[i] :: L.drop (i + 1) := List.drop_eq_getElem_cons h
theorem un_le (n : Nat) (M : Nat → Bool) : un n M ≤ n := by
  induction n with
  | zero => exact Nat.le_refl _
  | succ n ih => simp only [un]; split <;> omega
/-- What is led to. -/
def LedP (n : Nat) (S : Nat → List Nat) (F : List Nat) (w : World) (e : Ending) (w' : World) : Prop :=
  ∃ (h : Nat) (M : Nat → Bool), e = .returned (.slice (some ⟨h, 0, none⟩) n n) ∧ Vec w' h n (fun j => .bool (M j)) ∧ w.heap.size ≤ h ∧ Below w.heap.size w w' ∧ ∀ a, M a = true ↔ Rch S F a
end Go.Proofs.Ytcmdhaieggjgcaa

/- Closing a matrix by searches. -/
namespace Go.Proofs.Ytcmdhaieggjgcaa
open Go.RowKit Tab
set_option linter.unusedSimpArgs false
set_option linter.unusedVariables false

theorem OwnV.obk_ge {E s B n c b : Nat} {w : World} {A : Option Addr} {l : List Value} (h : OwnV E s w B A n c l) (hA : obk A = some b) : B ≤ b ∧ b < w.heap.size := by
  rcases h.2 with ⟨hv, _⟩ | ⟨g, cap, cur, hv, hbg, hg, _⟩
  · injection hv with h1
    subst h1
    cases hA
  · injection hv with h1
    subst h1
    injection hA with hA
    have hA : g = b := hA
    subst hA
    exact ⟨hbg, (Array.getElem?_eq_some_iff.1 hg).1⟩
def cast (l : List Nat) : List Int := l.map fun x : Nat => (x : Int)
/-- Rows of numbers of a call's own in a row of its own: k of them are laid. -/
structure Stp (w : World) (B g n k : Nat) (R : Nat → Option Addr × Nat) (S : Nat → List Nat) : Prop where
  outer : ∃ f, Vec w g n f ∧ ∀ i, i < k → f i = .slice (R i).1 (S i).length (R i).2
  rows : ∀ i, i < k → OwnV 3 1 w B (R i).1 (S i).length (R i).2 (is (cast (S i)))
  low : B ≤ g
  ne : ∀ i, i < k → obk (R i).1 ≠ some g
  inj : ∀ i j b, i < k → j < k → i ≠ j → obk (R i).1 = some b → obk (R j).1 ≠ some b
section
variable {w w' : World} {g n k B : Nat} {R : Nat → Option Addr × Nat} {S : Nat → List Nat}
theorem Stp.on (h : Stp w B g n k R S) (hb : Below w.heap.size w w') : Stp w' B g n k R S := by
  obtain ⟨f, h1, h2⟩ := h.outer
  exact ⟨⟨f, h1.on hb, h2⟩, fun i hi => (h.rows i hi).below rfl hb, h.low, h.ne, h.inj⟩
theorem Stp.push (h : Stp w B g n k R S) {A : Option Addr} {c : Nat} {l : List Nat} (hx : OwnV 3 1 w B A l.length c (is (cast l))) (hg : obk A ≠ some g) (hA : ∀ i b, i < k → obk (R i).1 = some b → obk A ≠ some b) (hk : k < n) :
    Stp (w.setCell ⟨g, k, none⟩ (.slice A l.length c)) B g n (k + 1) (put1 R k (A, c)) (put1 S k l) := by
  obtain ⟨f, h1, h2⟩ := h.outer
  have hlt : ∀ i, i < k + 1 → i ≠ k → i < k := fun i _ _ => by omega
  have hset : ∀ A n c l, OwnV 3 1 w B A n c l → obk A ≠ some g → ∀ v, OwnV 3 1 (w.setCell ⟨g, k, none⟩ v) B A n c l := fun A n c l ho hne v =>
    ho.keep' fun b hb => Below.heap_setCell _ _ _ _ fun e => hne (by rw [hb]; exact congrArg some e)
  refine ⟨⟨_, h1.set k _, fun i hi => ?_⟩, fun i hi => ?_, h.low, fun i hi => ?_, fun i j b hi hj hij e => ?_⟩
  · by_cases e : i = k
    · subst e; rw [put1_same, put1_same, put1_same]
    · rw [put1_other e, put1_other e, put1_other e]; exact h2 i (hlt i hi e)
  · by_cases e : i = k
    · subst e; rw [put1_same, put1_same]; exact hset _ _ _ _ hx hg _
    · rw [put1_other e, put1_other e]; exact hset _ _ _ _ (h.rows i (hlt i hi e)) (h.ne i (hlt i hi e)) _
  · by_cases e : i = k
    · subst e; rw [put1_same]; exact hg
    · rw [put1_other e]; exact h.ne i (hlt i hi e)
  · by_cases e1 : i = k
    · subst e1
      have e2 : j ≠ i := fun e => hij e.symm
      rw [put1_same] at e
      rw [put1_other e2]
      exact fun e3 => hA j b (hlt j hj e2) e3 e
    · rw [put1_other e1] at e
      by_cases e2 : j = k
      · subst e2; rw [put1_same]; exact hA i b (hlt i hi e1) e
      · rw [put1_other e2]; exact h.inj i j b (hlt i hi e1) (hlt j hj e2) hij e
theorem Stp.rds (h : Stp w B g n n R S) : RdS w w.heap.size (some ⟨g, 0, none⟩) n S := by
  obtain ⟨f, h1, h2⟩ := h.outer
  exact ⟨R, (h1.congr h2).rdc, fun i hi => ⟨(h.rows i hi).cap, ⟨by simp, (h.rows i hi).rd⟩⟩⟩
theorem RdS.congr {A : Option Addr} {T : Nat → List Nat} (h : RdS w B A n S) (e : ∀ i, i < n → S i = T i) : RdS w B A n T := by
  obtain ⟨R, h1, h2⟩ := h
  exact ⟨R, h1.congr fun i hi => by rw [e i hi], fun i hi => by rw [← e i hi]; exact h2 i hi⟩
end
theorem add_one'' (g k : Nat) : (⟨g, 0, none⟩ : Addr).add k = ⟨g, k, none⟩ := by
  unfold Addr.add
  split
  · rename_i h
    rw [h]
  · simp
theorem Mat.weak {w : World} {B B' g n k : Nat} {G : Nat → Nat} {m : Nat → Nat → Bool} (h : Mat w B g n k G m) (hB : B' ≤ B) : Mat w B' g n k G m :=
  ⟨h.outer, h.rows, Nat.le_trans hB h.low, fun i hi => Nat.le_trans hB (h.ge i hi), h.ne, h.inj⟩
end Go.Proofs.Ytcmdhaieggjgcaa

/- Rows of structs of the call's own: a store into one field of one of them. -/
namespace Go.Proofs.Ytcmdhaieggjgcaa
open Go.RowKit Tab
set_option linter.unusedSimpArgs false
set_option linter.unusedVariables false

theorem heap_set_same (w : World) (g j : Nat) (v : Value) {cur : Array Value} {E : TypeId} {fr : Nat × Nat} (h : w.heap[g]? = some (.cells cur E fr)) : (w.setCell ⟨g, j, none⟩ v).heap[g]? = some (.cells (cur.setIfInBounds j v) E fr) := by
  unfold World.setCell
  simp [Array.getElem?_modify, h]
theorem OwnV.set {E s B n c g : Nat} {w : World} {l : List Value} (h : OwnV E s w B (some ⟨g, 0, none⟩) n c l) (j : Nat) (v : Value) (hj : j < l.length) : OwnV E s (w.setCell ⟨g, j, none⟩ v) B (some ⟨g, 0, none⟩) n c (l.set j v) := by
  refine ⟨by rw [List.length_set]; exact h.1, ?_⟩
  rcases h.2 with ⟨hv, _⟩ | ⟨g', cap, cur, hv, hbg, hg, hnc, hcm, hcs, htake⟩
  · cases hv
  · simp only [Value.slice.injEq, Option.some.injEq, Addr.mk.injEq, and_true, true_and] at hv
    obtain ⟨rfl, rfl⟩ := hv
    refine .inr ⟨g, c, cur.setIfInBounds j v, rfl, hbg, heap_set_same w g j v hg, hnc, hcm, by rw [Array.size_setIfInBounds]; exact hcs, ?_⟩
    rw [Array.toList_setIfInBounds, List.take_set, htake]
/-- A store into another block leaves a row. -/
theorem OwnV.other {E s B n c : Nat} {w : World} {A : Option Addr} {l : List Value} (h : OwnV E s w B A n c l) (p : Addr) (v : Value) (hp : ∀ g, A = some ⟨g, 0, none⟩ → g ≠ p.block) : OwnV E s (w.setCell p v) B A n c l := by
  refine ⟨h.1, ?_⟩
  rcases h.2 with hv | ⟨g, cap, cur, hv, hbg, hg, r⟩
  · exact .inl hv
  · refine .inr ⟨g, cap, cur, hv, hbg, ?_, r⟩
    rw [Below.heap_setCell w p v g (hp g (by injection hv))]
    exact hg
section
variable {α : Type} {f : α → List Value} {s : Nat}
theorem flat_len (hf : ∀ x, (f x).length = s) (l : List α) : (l.flatMap f).length = l.length * s := by
  induction l with
  | nil => simp
  | cons x l ih => rw [List.flatMap_cons, List.length_append, hf, ih, List.length_cons, Nat.succ_mul]; omega
theorem flat_set (hf : ∀ x, (f x).length = s) (l : List α) (i k : Nat) (x y : α) (v : Value) (hx : l[i]? = some x) (hk : k < s) (hy : f y = (f x).set k v) : (l.set i y).flatMap f = (l.flatMap f).set (i * s + k) v := by
  induction l generalizing i with
  | nil => simp at hx
  | cons z l ih =>
    cases i with
    | zero =>
      simp at hx
      subst hx
      rw [List.set_cons_zero, List.flatMap_cons, List.flatMap_cons, hy, Nat.zero_mul, Nat.zero_add, List.set_append_left _ _ (by rw [hf]; exact hk)]
    | succ i =>
      rw [List.set_cons_succ, List.flatMap_cons, List.flatMap_cons, ih i (by simpa using hx), List.set_append_right _ _ (by rw [hf, Nat.succ_mul]; omega), hf]
      congr 2
      rw [Nat.succ_mul]
      omega
end
/-- A row of structs, each in s cells, of the call's own, block B or behind it. -/
structure OwnB {α : Type} (E s : Nat) (f : α → List Value) (w : World) (B : Nat) (A : Option Addr) (n c : Nat) (l : List α) : Prop where
  len : l.length = n
  own : OwnV E s w B A n c (l.flatMap f)
section
variable {α : Type} {f : α → List Value} {E s B B' n c : Nat} {w w' : World} {A : Option Addr} {l : List α}
theorem OwnB.rdb (h : OwnB E s f w B A n c l) : RdB f w w.heap.size A n l := ⟨h.len, h.own.rd⟩
theorem OwnB.cap (h : OwnB E s f w B A n c l) : n ≤ c := h.own.cap
theorem OwnB.nil (w : World) (E s B : Nat) : OwnB E s f w B none 0 0 [] := ⟨rfl, OwnV.nil _ _ _ _⟩
theorem OwnB.below (h : OwnB E s f w B A n c l) (hb : Below w.heap.size w w') : OwnB E s f w' B A n c l := ⟨h.len, h.own.below rfl hb⟩
theorem OwnB.other (h : OwnB E s f w B A n c l) (p : Addr) (v : Value) (hp : ∀ g, A = some ⟨g, 0, none⟩ → g ≠ p.block) : OwnB E s f (w.setCell p v) B A n c l := ⟨h.len, h.own.other p v hp⟩
theorem OwnB.weak (h : OwnB E s f w B A n c l) (hB : B' ≤ B) : OwnB E s f w B' A n c l := ⟨h.len, h.own.weak hB⟩
theorem OwnB.block (h : OwnB E s f w B A n c l) (hn : 0 < n) : ∃ g, A = some ⟨g, 0, none⟩ ∧ B ≤ g ∧ g < w.heap.size := h.own.block hn
theorem mk_add (g i : Nat) : (⟨g, 0, none⟩ : Addr).add i = ⟨g, i, none⟩ := by
  unfold Addr.add
  split <;> simp_all
/-- A store into a struct's field k, as a walk spells its place. -/
theorem OwnB.set {g : Nat} (h : OwnB E s f w B (some ⟨g, 0, none⟩) n c l) (hf : ∀ x, (f x).length = s) {i k : Nat} {x y : α} {v : Value} (hx : l[i]? = some x) (hk : k < s) (hy : f y = (f x).set k v) :
    OwnB E s f (w.setCell ⟨((⟨g, 0, none⟩ : Addr).add (i * s)).block, ((⟨g, 0, none⟩ : Addr).add (i * s)).off + k, none⟩ v) B (some ⟨g, 0, none⟩) n c (l.set i y) := by
  have hi : i < l.length := (List.getElem?_eq_some_iff.1 hx).1
  refine ⟨by rw [List.length_set]; exact h.len, ?_⟩
  rw [mk_add, flat_set hf l i k x y v hx hk hy]
  refine h.own.set (i * s + k) v ?_
  rw [flat_len hf]
  have h1 : (i + 1) * s ≤ l.length * s := Nat.mul_le_mul_right _ hi
  rw [Nat.succ_mul] at h1
  omega
end
/-- A store into a channel's bound, into a partition's budget, its period. -/
theorem cc_late (x : ChV) (z : Int) : cc { x with late := z } = (cc x).set 5 (.int .i64 z) := rfl
theorem pcl_bud (x : PtV) (z : Int) : pcl { x with bud := z } = (pcl x).set 1 (.int .i64 z) := rfl
theorem pcl_per (x : PtV) (z : Int) : pcl { x with per := z } = (pcl x).set 2 (.int .i64 z) := rfl
end Go.Proofs.Ytcmdhaieggjgcaa

/- The ways between partitions; those that sway all; do two depend. -/
namespace Go.Proofs.Ytcmdhaieggjgcaa
open Go.RowKit Tab
set_option linter.unusedSimpArgs false
set_option linter.unusedVariables false

def ptOf (x : PtV) : Pt := ⟨x.sched, x.stop⟩
def chOf (x : ChV) : Ch := ⟨x.from_, x.to_, x.queue⟩
theorem RdB.below {α : Type} {f : α → List Value} {w w' : World} {B n : Nat} {A : Option Addr} {l : List α} (h : RdB f w B A n l) (hb : Below B w w') : RdB f w' B A n l := ⟨h.len, h.rd.below hb⟩
theorem RdB.more {α : Type} {f : α → List Value} {w : World} {B B' n : Nat} {A : Option Addr} {l : List α} (h : RdB f w B A n l) (hB : B ≤ B') : RdB f w B' A n l := ⟨h.len, h.rd.more hB⟩
/-- A configuration's partitions and channels in memory. -/
structure CfW (w : World) (B : Nat) (A1 A2 : Option Addr) (n1 n2 : Nat) (P : List PtV) (C : List ChV) : Prop where
  p : RdB pcl w B A1 n1 P
  c : RdB cc w B A2 n2 C
section
variable {w w' : World} {B B' n1 n2 : Nat} {A1 A2 : Option Addr} {P : List PtV} {C : List ChV}
theorem CfW.below (h : CfW w B A1 A2 n1 n2 P C) (hb : Below B w w') : CfW w' B A1 A2 n1 n2 P C := ⟨h.p.below hb, h.c.below hb⟩
theorem CfW.more (h : CfW w B A1 A2 n1 n2 P C) (hB : B ≤ B') : CfW w B' A1 A2 n1 n2 P C := ⟨h.p.more hB, h.c.more hB⟩
theorem CfW.on (h : CfW w w.heap.size A1 A2 n1 n2 P C) (hb : Below w.heap.size w w') : CfW w' w'.heap.size A1 A2 n1 n2 P C := (h.below hb).more hb.size
end
theorem schedOf_at {P : List PtV} {a : Nat} {x : PtV} (h : P[a]? = some x) : schedOf (P.map ptOf) a = x.sched := by
  unfold schedOf; rw [List.getElem?_map, h]; rfl
theorem stopOf_at {P : List PtV} {a : Nat} {x : PtV} (h : P[a]? = some x) : stopOf (P.map ptOf) a = x.stop := by
  unfold stopOf; rw [List.getElem?_map, h]; rfl
theorem wayL_more {n : Nat} {C : List ChV} {i : Nat} {x : ChV} (h : C[i]? = some x) : wayL n ((C.take (i + 1)).map chOf) = wayL n ((C.take i).map chOf) ++ wayOf n (chOf x) := by
  obtain ⟨hi, e⟩ := List.getElem?_eq_some_iff.1 h
  rw [List.take_succ_eq_append_getElem hi, e, List.map_append]
  unfold wayL
  rw [List.flatMap_append]
  simp
def wcl (x : Nat × Nat) : List Value := [.int .i64 (x.1 : Int), .int .i64 (x.2 : Int)]
theorem wcl_len (x : Nat × Nat) : (wcl x).length = 2 := rfl
theorem wcl_one (l : List (Nat × Nat)) : ∀ u ∈ l.flatMap wcl, u.oneCell' = true := by
  intro u hu
  obtain ⟨x, _, hx⟩ := List.mem_flatMap.1 hu
  simp [wcl] at hx
  rcases hx with rfl | rfl <;> rfl
theorem wayOf_len (n : Nat) (x : Ch) : (wayOf n x).length ≤ 2 := by
  unfold wayOf
  split
  · split <;> simp
  · simp
theorem wayL_len (n : Nat) (C : List Ch) : (wayL n C).length ≤ 2 * C.length := by
  induction C with
  | nil => simp [wayL]
  | cons x C ih =>
    have := wayOf_len n x
    unfold wayL at ih ⊢
    rw [List.flatMap_cons, List.length_append, List.length_cons]
    omega
/-- It answers a row of ways, new. -/
def MadW (L : List (Nat × Nat)) (w : World) (e : Ending) (w' : World) : Prop := ∃ A c, e = .returned (.slice A L.length c) ∧ RdB wcl w' w'.heap.size A L.length L ∧ L.length ≤ c ∧ Below w.heap.size w w' ∧ ∀ b, obk A = some b → w.heap.size ≤ b
end Go.Proofs.Ytcmdhaieggjgcaa

/- Law 9's same, over what package bound is to answer. -/
namespace Go.Proofs.Ytcmdhaieggjgcaa
open Go.RowKit Tab
set_option linter.unusedSimpArgs false
set_option linter.unusedVariables false

/-- What package bound is to answer. -/
structure BoundW : Prop where
  late : ∀ (A : Option Addr) (n c : Nat) (L : List Rn) (p q : Int) (w : World), RdR w w.heap.size A n L → n ≤ c → n ≤ 1048576 → ticks L ≤ 8192 → Calls Try.prog 20 #[.slice A n c, .int .i64 p, .int .i64 q] w (Ans (.int .i64 (lateL (wordsL L) p q)) w)
  budget : ∀ (A : Option Addr) (n c : Nat) (L : List Rn) (p z : Int) (w : World), RdR w w.heap.size A n L → n ≤ c → n ≤ 1048576 → ticks L ≤ 8192 → In64 z → Calls Try.prog 12 #[.slice A n c, .int .i64 p, .int .i64 z] w (Ans (.int .i64 (budL (wordsL L) p z)) w)
  gaps : ∀ (A : Option Addr) (n c : Nat) (L : List Rn) (p : Int) (w : World), RdR w w.heap.size A n L → n ≤ c → n ≤ 1048576 → ticks L ≤ 8192 → Calls Try.prog 22 #[.slice A n c, .int .i64 p] w (Ans (.int .i64 (gapL (wordsL L) p)) w)
  holds : ∀ (A1 A2 A3 A4 : Option Addr) (n1 n2 n3 n4 c1 c2 c3 c4 : Nat) (P : List PtV) (C : List ChV) (L : List Rn) (w : World), RdB pcl w w.heap.size A1 n1 P → RdB cc w w.heap.size A2 n2 C → RdR w w.heap.size A4 n4 L →
    n1 ≤ 1048576 → n2 ≤ 1048576 → n4 ≤ c4 → n4 ≤ 1048576 → ticks L ≤ 8192 → (∀ x ∈ P, In64 x.per) → Calls Try.prog 16 #[.agg #[.slice A1 n1 c1, .slice A2 n2 c2, .slice A3 n3 c3], .slice A4 n4 c4] w (Ans (.int .i64 (holdsF (wordsL L) P C)) w)
set_option maxRecDepth 100000 in
set_option maxHeartbeats 4000000 in
theorem same9_any (H : BoundW) (A : Option Addr) (n c : Nat) (L : List Rn) (a b z : Int) (w : World) (hL : RdR w w.heap.size A n L) (hc : n ≤ c) (hn : n ≤ 1048576) (ht : ticks L ≤ 8192) (hz : In64 z) :
    Calls Try.prog 11 #[.slice A n c, .int .i64 a, .int .i64 b, .int .i64 z] w (Ans (.bool true) w) := by
  have C1 := Lib.hid fun W (hb : Below w.heap.size w W) => H.late A n c L a b W (hL.on hb) hc hn ht
  have C2 := Lib.hid fun W (hb : Below w.heap.size w W) => late_any A n c L a b W (hL.on hb) hc hn ht
  have C3 := Lib.hid fun W (hb : Below w.heap.size w W) => H.budget A n c L a z W (hL.on hb) hc hn ht hz
  have C4 := Lib.hid fun W (hb : Below w.heap.size w W) => budget_any A n c L a z W (hL.on hb) hc hn ht hz
  have C5 := Lib.hid fun W (hb : Below w.heap.size w W) => H.gaps A n c L a W (hL.on hb) hc hn ht
  have C6 := Lib.hid fun W (hb : Below w.heap.size w W) => rgaps_any A n c L a W (hL.on hb) hc hn ht
  generalize lateL (wordsL L) a b = v1 at C1 C2
  generalize budL (wordsL L) a z = v2 at C3 C4
  generalize gapL (wordsL L) a = v3 at C5 C6
  have h1 : (v1 == v1) = true := beq_self_eq_true _
  have h2 : (v2 == v2) = true := beq_self_eq_true _
  have h3 : (v3 == v3) = true := beq_self_eq_true _
  clear hL H hz
  go_enter Try.func11, Try.ntmps11
  go_wp2_with fail
  refine (C1.out w (Below.refl _ _)).mono ?_
  rintro e w1 ⟨rfl, k1⟩
  go_wp2_with fail
  refine (C2.out w1 k1).mono ?_
  rintro e w2 ⟨rfl, hb2⟩
  have k2 := k1.trans (hb2.mono k1.size)
  clear hb2 k1
  go_wp2_with fail
  refine (C3.out w2 k2).mono ?_
  rintro e w3 ⟨rfl, hb3⟩
  have k3 := k2.trans (hb3.mono k2.size)
  clear hb3 k2
  go_wp2_with fail
  refine (C4.out w3 k3).mono ?_
  rintro e w4 ⟨rfl, hb4⟩
  have k4 := k3.trans (hb4.mono k3.size)
  clear hb4 k3
  go_wp2_with fail
  refine (C5.out w4 k4).mono ?_
  rintro e w5 ⟨rfl, hb5⟩
  have k5 := k4.trans (hb5.mono k4.size)
  clear hb5 k4
  go_wp2_with fail
  refine (C6.out w5 k5).mono ?_
  rintro e w6 ⟨rfl, hb6⟩
  have k6 := k5.trans (hb6.mono k5.size)
  clear hb6 k5
  go_wp2_with fail
  go_ret
  exact Ans.mk rfl k6
end Go.Proofs.Ytcmdhaieggjgcaa

/- What package bound answers. -/
namespace Go.Proofs.Ytcmdhaieggjgcaa
open Go.RowKit Tab
set_option linter.unusedSimpArgs false
set_option linter.unusedVariables false

theorem lateL_ge (W : List Int) (p q : Int) : -1 ≤ lateL W p q := by
  unfold lateL
  split
  · omega
  · split <;> omega
set_option maxRecDepth 100000 in
set_option maxHeartbeats 1600000 in
theorem blt_any (A : Option Addr) (n c : Nat) (L : List Rn) (xf xt : Int) (xq : Bool) (xc xm xl : Int) (w : World) (h : RdR w w.heap.size A n L) (hc : n ≤ c) (hn : n ≤ 1048576) (ht : ticks L ≤ 1099511627776) :
    Calls Try.prog 35 #[.slice A n c, .agg #[.int .i64 xf, .int .i64 xt, .bool xq, .int .i64 xc, .int .u32 xm, .int .i64 xl]] w (Ans (.bool (decide (lateL (wordsL L) xf xt < 0) || decide (xl < lateL (wordsL L) xf xt))) w) := by
  have hbx := bl1 w (.cells #[.int .i64 xf, .int .i64 xt, .bool xq, .int .i64 xc, .int .u32 xm, .int .i64 xl] 48)
  have HLT := Lib.hid (blate_any A n c L xf xt _ (h.on hbx) hc hn ht)
  have hge := lateL_ge (wordsL L) xf xt
  have HB1 := Lib.hid hbx
  generalize lateL (wordsL L) xf xt = z at HLT hge ⊢
  clear hbx h
  go_enter Try.func35, Try.ntmps35
  go_wp2_with fail
  refine HLT.out.mono ?_
  rintro e w5 ⟨rfl, hb5⟩
  have e5 : w5.cell? ⟨w.heap.size, 5, none⟩ = some (.int .i64 xl) := (hb5.cell (p := ⟨w.heap.size, 5, none⟩) (by simp)).trans (World.cell?_alloc_mark _ _ _ _ _)
  have HB5 := Lib.hid (HB1.out.trans (hb5.mono HB1.out.size))
  generalize w.heap.size = gx at e5 ⊢
  clear hb5 HLT HB1
  by_cases t2 : z = -1
  · subst t2
    go_wp2_with fail
    go_ret
    exact Ans.mk rfl HB5.out
  · have u2 : (z == -1) = false := beq_eq_false_iff_ne.2 t2
    have u4 : decide (z < 0) = false := decide_eq_false (by omega)
    have HU4 := Lib.hid u4
    obtain ⟨bb, hbb⟩ : ∃ bb, bb = decide (xl < z) := ⟨_, rfl⟩
    have HBB := Lib.hid hbb
    clear hbb
    cases bb with
    | true =>
      have u3 : decide (xl < z) = true := HBB.out.symm
      go_wp2_with fail
      go_ret
      exact Ans.mk (by rw [HU4.out, Bool.false_or, ← HBB.out]; rfl) HB5.out
    | false =>
      have u3 : decide (xl < z) = false := HBB.out.symm
      go_wp2_with fail
      go_ret
      exact Ans.mk (by rw [HU4.out, Bool.false_or, ← HBB.out]; rfl) HB5.out
set_option maxRecDepth 100000 in
set_option maxHeartbeats 4000000 in
theorem bholds_any (A1 A2 A3 A4 : Option Addr) (n1 n2 n3 n4 c1 c2 c3 c4 : Nat) (P : List PtV) (C : List ChV) (L : List Rn) (w : World) (hP : RdB pcl w w.heap.size A1 n1 P) (hC : RdB cc w w.heap.size A2 n2 C) (hL : RdR w w.heap.size A4 n4 L)
    (q1 : n1 ≤ 1048576) (q2 : n2 ≤ 1048576) (q4 : n4 ≤ c4) (q5 : n4 ≤ 1048576) (ht : ticks L ≤ 1099511627776) (hz : ∀ x ∈ P, In64 x.per) :
    Calls Try.prog 16 #[.agg #[.slice A1 n1 c1, .slice A2 n2 c2, .slice A3 n3 c3], .slice A4 n4 c4] w (Ans (.int .i64 (holdsF (wordsL L) P C)) w) := by
  have hb0 := bl1 w (.cells #[.slice A1 n1 c1, .slice A2 n2 c2, .slice A3 n3 c3] 36)
  have hP0 := hP.on hb0
  have hC0 := hC.on hb0
  have hL0 := hL.on hb0
  have m0 : (w.alloc (.cells #[.slice A1 n1 c1, .slice A2 n2 c2, .slice A3 n3 c3] 36)).cell? ⟨w.heap.size, 0, none⟩ = some (.slice A1 n1 c1) := World.cell?_alloc_mark _ _ _ _ _
  have hgs : w.heap.size < (w.alloc (.cells #[.slice A1 n1 c1, .slice A2 n2 c2, .slice A3 n3 c3] 36)).heap.size := by simp
  have HZ := Lib.hid hz
  obtain ⟨R, hR⟩ : ∃ R, R = holdsF (wordsL L) P C := ⟨_, rfl⟩
  rw [← hR]
  obtain ⟨X, hX⟩ : ∃ X, X = wordsL L := ⟨_, rfl⟩
  rw [← hX] at hR
  have HR := Lib.hid hR
  have HX := Lib.hid hX
  have hPl := hP.len
  have hCl := hC.len
  have HPL := Lib.hid hPl
  have HCL := Lib.hid hCl
  clear hP hC hL hz hR hX hPl hCl
  go_enter Try.func16, Try.ntmps16
  go_wp2_with fail
  generalize w.alloc (.cells #[.slice A1 n1 c1, .slice A2 n2 c2, .slice A3 n3 c3] 36) = W at hb0 hP0 hC0 hL0 m0 hgs ⊢
  obtain ⟨g, hg⟩ : ∃ g, g = w.heap.size := ⟨_, rfl⟩
  rw [← hg] at m0 hgs ⊢
  have HG := Lib.hid hg
  have HM0 := Lib.hid m0
  clear hg m0
  go_loopw [6, 12] (fun _ s wr => ∃ i : Nat, i ≤ n2 ∧ s = .int .i64 i ∧ (C.take i).any (chLate X) = false ∧ Below W.heap.size W wr) (fun _ s _ => n2 - (intOf s).toNat)
  case atStart => exact ⟨0, by omega, rfl, rfl, Below.refl _ _⟩
  case round =>
    obtain ⟨i, hi, rfl, hany, hb⟩ := hrel
    have HANY := Lib.hid hany
    clear hany
    by_cases hlt : i < n2
    · obtain ⟨ad, x, rfl, had, hx, c0, ck⟩ := (hC0.on hb).at_ cc_len (by omega) hlt
      have d0 := c0 _ rfl
      have d1 := ck 1 _ (by omega) rfl
      have d2 := ck 2 _ (by omega) rfl
      have d3 := ck 3 _ (by omega) rfl
      have d4 := ck 4 _ (by omega) rfl
      have d5 := ck 5 _ (by omega) rfl
      have HMORE := Lib.hid (any_more (chLate X) hx)
      have HMEM := Lib.hid (any_mem (chLate X) hx)
      obtain ⟨xf, xt, xq, xc, xm, xl⟩ := x
      dsimp only at d0 d1 d2 d3 d4 d5
      have hbx := bl1 wr (.cells #[.int .i64 xf, .int .i64 xt, .bool xq, .int .i64 xc, .int .u32 xm, .int .i64 xl] 48)
      have hb1 := hb.trans (hbx.mono hb.size)
      have HLT := Lib.hid (blt_any A4 n4 c4 L xf xt xq xc xm xl _ (hL0.on hb1) q4 q5 ht)
      have HB1 := Lib.hid hb1
      clear c0 ck hx hbx hb1
      rw [← HX.out] at HLT
      have hcl : chLate X ⟨xf, xt, xq, xc, xm, xl⟩ = (decide (0 < xl) && (decide (lateL X xf xt < 0) || decide (xl < lateL X xf xt))) := rfl
      generalize (decide (lateL X xf xt < 0) || decide (xl < lateL X xf xt)) = z at hcl HLT
      have HCL2 := Lib.hid hcl
      clear hcl
      by_cases t1 : 0 < xl
      · have u1 : decide (0 < xl) = true := decide_eq_true t1
        go_wp2_with fail
        refine HLT.out.mono ?_
        rintro e w5 ⟨rfl, hb5⟩
        have HB5 := Lib.hid (HB1.out.trans (hb5.mono HB1.out.size))
        clear hb5 HLT HB1 d0 d1 d2 d3 d4 d5
        cases z with
        | true =>
          have hres : R = 19 := by
            rw [HR.out]
            exact holdsF_late (HMEM.out (by rw [HCL2.out, u1]; rfl))
          subst hres
          go_wp2_with fail
          go_ret
          exact Ans.mk rfl (hb0.trans (HB5.out.mono hb0.size))
        | false =>
          have HN : Hid ((C.take (i + 1)).any (chLate X) = false) := Lib.hid (by rw [HMORE.out, HANY.out, HCL2.out, u1]; rfl)
          go_wp2_with fail
          go_roundw
          case rel => exact ⟨i + 1, by omega, by go_num, HN.out, HB5.out⟩
          case measure => simp [intOf]; omega
      · have u1 : decide (0 < xl) = false := decide_eq_false t1
        have HN : Hid ((C.take (i + 1)).any (chLate X) = false) := Lib.hid (by rw [HMORE.out, HANY.out, HCL2.out, u1]; rfl)
        clear HLT
        go_wp2_with fail
        go_roundw
        case rel => exact ⟨i + 1, by omega, by go_num, HN.out, HB1.out⟩
        case measure => simp [intOf]; omega
    · have hge : n2 ≤ i := by omega
      have HALL : Hid (C.any (chLate X) = false) := Lib.hid (by
        have h := HANY.out
        rw [List.take_of_length_le (by rw [HCL.out]; exact hge)] at h
        exact h)
      clear HANY
      have m0 := (hb.cell (p := ⟨g, 0, none⟩) hgs).trans HM0.out
      go_wp2_with fail
      go_loopw [7, 8, 28] (fun _ _ s wx => ∃ j : Nat, j ≤ n1 ∧ s = .int .i64 j ∧ shortF X 0 (P.take j) = false ∧ Below W.heap.size W wx) (fun _ _ s _ => n1 - (intOf s).toNat)
      case atStart => exact ⟨0, by omega, rfl, rfl, hb⟩
      case round =>
        obtain ⟨j, hj, rfl, hsh, hb⟩ := hrel
        have HSH := Lib.hid hsh
        clear hsh
        by_cases hlt : j < n1
        · obtain ⟨ad, x, rfl, had, hx, c0, ck⟩ := (hP0.on hb).at_ pcl_len (by omega) hlt
          have d0 := c0 _ rfl
          have d1 := ck 1 _ (by omega) rfl
          have d2 := ck 2 _ (by omega) rfl
          have d3 := ck 3 _ (by omega) rfl
          have d4 := ck 4 _ (by omega) rfl
          have d5 := ck 5 _ (by omega) rfl
          have d6 := ck 6 _ (by omega) rfl
          have d7 := ck 7 _ (by omega) rfl
          have d8 := ck 8 _ (by omega) rfl
          have d9 := ck 9 _ (by omega) rfl
          have d10 := ck 10 _ (by omega) rfl
          have hzx := HZ.out x (List.mem_of_getElem? hx)
          have HSM := Lib.hid (short_more (W := X) hx)
          have HSE := Lib.hid (short_mem (W := X) hx)
          obtain ⟨nm, bu, pe, sc, st, pa, pn, pc, h0, h1, h2, h3, h4⟩ := x
          dsimp only at d0 d1 d2 d3 d4 d5 d6 d7 d8 d9 d10 hzx
          have hbx := bl1 wr (.cells #[.string nm, .int .i64 bu, .int .i64 pe, .bool sc, .bool st, .slice pa pn pc, .int .i64 h0, .int .i64 h1, .int .i64 h2, .int .i64 h3, .int .i64 h4] 52)
          have hb1 := hb.trans (hbx.mono hb.size)
          have f1 : (wr.alloc (.cells #[.string nm, .int .i64 bu, .int .i64 pe, .bool sc, .bool st, .slice pa pn pc, .int .i64 h0, .int .i64 h1, .int .i64 h2, .int .i64 h3, .int .i64 h4] 52)).cell? ⟨wr.heap.size, 1, none⟩ = some (.int .i64 bu) := World.cell?_alloc_mark _ _ _ _ _
          have f2 : (wr.alloc (.cells #[.string nm, .int .i64 bu, .int .i64 pe, .bool sc, .bool st, .slice pa pn pc, .int .i64 h0, .int .i64 h1, .int .i64 h2, .int .i64 h3, .int .i64 h4] 52)).cell? ⟨wr.heap.size, 2, none⟩ = some (.int .i64 pe) := World.cell?_alloc_mark _ _ _ _ _
          have hgx : wr.heap.size < (wr.alloc (.cells #[.string nm, .int .i64 bu, .int .i64 pe, .bool sc, .bool st, .slice pa pn pc, .int .i64 h0, .int .i64 h1, .int .i64 h2, .int .i64 h3, .int .i64 h4] 52)).heap.size := by simp
          clear c0 ck hx hbx
          go_wp2_with fail
          generalize wr.alloc (.cells #[.string nm, .int .i64 bu, .int .i64 pe, .bool sc, .bool st, .slice pa pn pc, .int .i64 h0, .int .i64 h1, .int .i64 h2, .int .i64 h3, .int .i64 h4] 52) = W2 at hb1 f1 f2 hgx ⊢
          generalize wr.heap.size = gx at f1 f2 hgx ⊢
          have HB1 := Lib.hid hb1
          clear d0 d1 d2 d3 d4 d5 d6 d7 d8 d9 d10 hb1 had
          by_cases hbu : 0 < bu
          · have hbd : decide (0 < bu) = true := decide_eq_true hbu
            have HBG : Hid (Calls Try.prog 12 #[.slice A4 n4 c4, .int .i64 (j : Int), .int .i64 pe] W2.drew fun e w5 => e = .returned (.int .i64 (budL (wordsL L) (j : Int) pe)) ∧ Below W2.heap.size W2 w5 ∧ w5.cell? ⟨gx, 1, none⟩ = some (.int .i64 bu) ∧ w5.cell? ⟨gx, 2, none⟩ = some (.int .i64 pe)) := Lib.hid (by
              refine (bbudget_any A4 n4 c4 L (j : Int) pe W2.drew ((hL0.on HB1.out).below (Below.refl _ _).drew) q4 q5 ht hzx).mono ?_
              rintro e w5 ⟨rfl, hb5⟩
              have hb6 : Below W2.heap.size W2 w5 := ⟨hb5.os, hb5.tape, hb5.output, hb5.size, hb5.block⟩
              exact ⟨rfl, hb6, (hb6.cell (p := ⟨gx, 1, none⟩) hgx).trans f1, (hb6.cell (p := ⟨gx, 2, none⟩) hgx).trans f2⟩)
            rw [← HX.out] at HBG
            have hps : ptShort X j ⟨nm, bu, pe, sc, st, pa, pn, pc, h0, h1, h2, h3, h4⟩ = (decide (0 < bu) && decide (budL X (j : Int) pe < bu)) := rfl
            generalize budL X (j : Int) pe = z at HBG hps
            rw [hbd, Bool.true_and] at hps
            have HPS := Lib.hid hps
            clear hps
            go_region_with (go_at_call 12; refine HBG.out.mono ?_; rintro e w5 ⟨rfl, hb5, g1, g2⟩)
            all_goals
              by_cases t2 : z < bu
              · have u2 : decide (z < bu) = true := decide_eq_true t2
                have hres : R = 20 := by
                  rw [HR.out]
                  exact holdsF_short HALL.out (HSE.out (by rw [HPS.out]; exact u2))
                subst hres
                go_wp2_with fail
                go_ret
                exact Ans.mk rfl (hb0.trans ((HB1.out.trans (hb5.mono HB1.out.size)).mono hb0.size))
              · have u2 : decide (z < bu) = false := decide_eq_false t2
                have HN : Hid (shortF X 0 (P.take (j + 1)) = false) := Lib.hid (by rw [HSM.out, HSH.out, HPS.out, u2]; rfl)
                go_wp2_with fail
                go_roundw
                case rel => exact ⟨j + 1, by omega, by go_num, HN.out, HB1.out.trans (hb5.mono HB1.out.size)⟩
                case measure => simp [intOf]; omega
          · have hbd : decide (0 < bu) = false := decide_eq_false hbu
            have hps : ptShort X j ⟨nm, bu, pe, sc, st, pa, pn, pc, h0, h1, h2, h3, h4⟩ = (decide (0 < bu) && decide (budL X (j : Int) pe < bu)) := rfl
            rw [hbd, Bool.false_and] at hps
            have HN : Hid (shortF X 0 (P.take (j + 1)) = false) := Lib.hid (by rw [HSM.out, HSH.out, hps]; rfl)
            clear hps
            go_quiet (fail)
            go_wp2_with fail
            go_roundw
            case rel => exact ⟨j + 1, by omega, by go_num, HN.out, Below.drewN HB1.out nq⟩
            case measure => simp [intOf]; omega
        · have hge : n1 ≤ j := by omega
          have hres : R = 0 := by
            rw [HR.out]
            refine holdsF_ok HALL.out ?_
            have h := HSH.out
            rw [List.take_of_length_le (by rw [HPL.out]; exact hge)] at h
            exact h
          subst hres
          go_wp2_with fail
          go_ret
          exact Ans.mk rfl (hb0.trans (hb.mono hb0.size))
theorem boundW : BoundW := ⟨fun A n c L p q w h hc hn ht => blate_any A n c L p q w h hc hn (by omega), fun A n c L p z w h hc hn ht hz => bbudget_any A n c L p z w h hc hn (by omega) hz, fun A n c L p w h hc hn ht => bgaps_any A n c L p w h hc hn (by omega),
  fun A1 A2 A3 A4 n1 n2 n3 n4 c1 c2 c3 c4 P C L w hP hC hL q1 q2 q4 q5 ht hz => bholds_any A1 A2 A3 A4 n1 n2 n3 n4 c1 c2 c3 c4 P C L w hP hC hL q1 q2 q4 q5 (by omega) hz⟩
theorem i64_in {a : Int} (h : (Lit.int .i64 a).wf = true) : -9223372036854775808 ≤ a ∧ a ≤ 9223372036854775807 := by simpa using Go.bounds_i64 h
end Go.Proofs.Ytcmdhaieggjgcaa
