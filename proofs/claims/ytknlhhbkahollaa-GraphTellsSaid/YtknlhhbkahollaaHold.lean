/- Rows of partitions, of channels in memory; whether a row of runs holds what is asked, by the document's own answer (that it answers). -/
import Derived.Test.YtknlhhbkahollaaBudg
import Derived.Test.YtknlhhbkahollaaLow2
namespace Go.Proofs.Ytknlhhbkahollaa
open Go.RowKit Tab
set_option linter.unusedSimpArgs false
set_option linter.unusedVariables false

section
variable {α : Type} {f : α → List Value} {s : Nat}
theorem flat_get (hf : ∀ x, (f x).length = s) (l : List α) (i k : Nat) (x : α) (hx : l[i]? = some x) (hk : k < s) : (l.flatMap f)[i * s + k]? = (f x)[k]? := by
  induction l generalizing i with
  | nil => simp at hx
  | cons y l ih =>
    rw [List.flatMap_cons]
    cases i with
    | zero =>
      simp at hx
      subst hx
      rw [Nat.zero_mul, Nat.zero_add, List.getElem?_append_left (by rw [hf]; exact hk)]
    | succ i =>
      rw [List.getElem?_append_right (by rw [hf, Nat.succ_mul]; omega), hf]
      have := ih i (by simpa using hx)
      rw [← this]
      congr 1
      rw [Nat.succ_mul]
      omega
end
/-- A slice at A, n long, of structs, each in s cells, holds l. -/
structure RdB {α : Type} (f : α → List Value) (w : World) (B : Nat) (A : Option Addr) (n : Nat) (l : List α) : Prop where
  len : l.length = n
  rd : RdV w B A (l.flatMap f)
section
variable {α : Type} {f : α → List Value} {s : Nat} {w w' : World} {B n : Nat} {A : Option Addr} {l : List α}
theorem RdB.on (h : RdB f w w.heap.size A n l) (hb : Below w.heap.size w w') : RdB f w' w'.heap.size A n l := ⟨h.len, (h.rd.below hb).more hb.size⟩
theorem RdB.at_ (h : RdB f w B A n l) (hf : ∀ x, (f x).length = s) (hs : 0 < s) {i : Nat} (hi : i < n) : ∃ (ad : Addr) (x : α), A = some ad ∧ ad.block < B ∧ l[i]? = some x ∧ (∀ v, (f x)[0]? = some v → w.cell? (ad.add (i * s)) = some v) ∧
    ∀ k v, 0 < k → (f x)[k]? = some v → w.cell? ⟨(ad.add (i * s)).block, (ad.add (i * s)).off + k, none⟩ = some v := by
  have hl : i < l.length := by rw [h.len]; exact hi
  have hx : l[i]? = some l[i] := List.getElem?_eq_getElem hl
  have hpos : 0 < (l.flatMap f).length := by
    cases l with
    | nil => simp at hl
    | cons y l => rw [List.flatMap_cons, List.length_append, hf]; omega
  obtain ⟨ad, e, hb, hc⟩ := h.rd hpos
  refine ⟨ad, l[i], e, hb, hx, fun v hv => ?_, fun k v hk hv => ?_⟩
  · have := flat_get hf l i 0 _ hx hs
    rw [Nat.add_zero] at this
    exact hc _ v (this.trans hv)
  · have hks : k < s := by rw [← hf l[i]]; exact (List.getElem?_eq_some_iff.1 hv).1
    have := flat_get hf l i k _ hx hks
    have e1 : (⟨(ad.add (i * s)).block, (ad.add (i * s)).off + k, none⟩ : Addr) = ad.add (i * s + k) := by
      rw [← add_add]
      generalize ad.add (i * s) = p
      unfold Addr.add
      rw [if_neg (by omega)]
    rw [e1]
    exact hc _ v (this.trans hv)
end
def cc (x : ChV) : List Value := [.int .i64 x.from_, .int .i64 x.to_, .bool x.queue, .int .i64 x.cap, .int .u32 x.max, .int .i64 x.late]
def pcl (x : PtV) : List Value := [.string x.name, .int .i64 x.bud, .int .i64 x.per, .bool x.sched, .bool x.stop, .slice x.pa x.pn x.pc, .int .i64 x.h0, .int .i64 x.h1, .int .i64 x.h2, .int .i64 x.h3, .int .i64 x.h4]
theorem cc_len (x : ChV) : (cc x).length = 6 := rfl
theorem pcl_len (x : PtV) : (pcl x).length = 11 := rfl
/-- It answers a number, and leaves what was there. -/
def SomI (w : World) (e : Ending) (w' : World) : Prop := ∃ z, e = .returned (.int .i64 z) ∧ Below w.heap.size w w'
set_option maxRecDepth 100000 in
set_option maxHeartbeats 4000000 in
theorem holds_any (A1 A2 A3 A4 : Option Addr) (n1 n2 n3 n4 c1 c2 c3 c4 : Nat) (P : List PtV) (C : List ChV) (L : List Rn) (w : World) (hP : RdB pcl w w.heap.size A1 n1 P) (hC : RdB cc w w.heap.size A2 n2 C) (hL : RdR w w.heap.size A4 n4 L)
    (q1 : n1 ≤ 1048576) (q2 : n2 ≤ 1048576) (q4 : n4 ≤ c4) (q5 : n4 ≤ 1048576) (ht : ticks L ≤ 8192) (hz : ∀ x ∈ P, In64 x.per) :
    Calls Try.prog 58 #[.agg #[.slice A1 n1 c1, .slice A2 n2 c2, .slice A3 n3 c3], .slice A4 n4 c4] w (SomI w) := by
  have hb0 := bl1 w (.cells #[.slice A1 n1 c1, .slice A2 n2 c2, .slice A3 n3 c3] 26)
  have hP0 := hP.on hb0
  have hC0 := hC.on hb0
  have hL0 := hL.on hb0
  have m0 : (w.alloc (.cells #[.slice A1 n1 c1, .slice A2 n2 c2, .slice A3 n3 c3] 26)).cell? ⟨w.heap.size, 0, none⟩ = some (.slice A1 n1 c1) := World.cell?_alloc_mark _ _ _ _ _
  have hgs : w.heap.size < (w.alloc (.cells #[.slice A1 n1 c1, .slice A2 n2 c2, .slice A3 n3 c3] 26)).heap.size := by simp
  have HZ := Lib.hid hz
  clear hP hC hL hz
  go_enter Try.func58, Try.ntmps58
  go_wp2_with fail
  generalize w.alloc (.cells #[.slice A1 n1 c1, .slice A2 n2 c2, .slice A3 n3 c3] 26) = W at hb0 hP0 hC0 hL0 m0 hgs ⊢
  obtain ⟨g, hg⟩ : ∃ g, g = w.heap.size := ⟨_, rfl⟩
  rw [← hg] at m0 hgs ⊢
  have HG := Lib.hid hg
  have HM0 := Lib.hid m0
  clear hg m0
  go_loopw [6, 7, 13] (fun _ _ s wr => ∃ i : Nat, i ≤ n2 ∧ s = .int .i64 i ∧ Below W.heap.size W wr) (fun _ _ s _ => n2 - (intOf s).toNat)
  case atStart => exact ⟨0, by omega, rfl, Below.refl _ _⟩
  case round =>
    obtain ⟨i, hi, rfl, hb⟩ := hrel
    by_cases hlt : i < n2
    · obtain ⟨ad, x, rfl, had, hx, c0, ck⟩ := (hC0.on hb).at_ cc_len (by omega) hlt
      have d0 := c0 _ rfl
      have d1 := ck 1 _ (by omega) rfl
      have d2 := ck 2 _ (by omega) rfl
      have d3 := ck 3 _ (by omega) rfl
      have d4 := ck 4 _ (by omega) rfl
      have d5 := ck 5 _ (by omega) rfl
      obtain ⟨xf, xt, xq, xc, xm, xl⟩ := x
      dsimp only at d0 d1 d2 d3 d4 d5
      have hbx := bl1 wr (.cells #[.int .i64 xf, .int .i64 xt, .bool xq, .int .i64 xc, .int .u32 xm, .int .i64 xl] 36)
      have hb1 := hb.trans (hbx.mono hb.size)
      have HLT := Lib.hid (late_any A4 n4 c4 L xf xt _ (hL0.on hb1) q4 q5 ht)
      have HB1 := Lib.hid hb1
      clear c0 ck hx hbx hb1
      go_wp2_with fail
      refine HLT.out.mono ?_
      rintro e w5 ⟨rfl, hb5⟩
      have e5 : w5.cell? ⟨wr.heap.size, 5, none⟩ = some (.int .i64 xl) := (hb5.cell (p := ⟨wr.heap.size, 5, none⟩) (by simp)).trans (World.cell?_alloc_mark _ _ _ _ _)
      have HB5 := Lib.hid (HB1.out.trans (hb5.mono HB1.out.size))
      clear hb5 HLT HB1 d0 d1 d2 d3 d4 d5
      generalize lateL (wordsL L) xf xt = z
      generalize wr.heap.size = gx at e5 ⊢
      go_wp2_with fail
      all_goals
        first
        | (go_ret; exact ⟨_, rfl, hb0.trans (HB5.out.mono hb0.size)⟩)
        | (go_roundw
           case rel => exact ⟨i + 1, by omega, by go_num, HB5.out⟩
           case measure => simp [intOf]; omega)
    · have hge : n2 ≤ i := by omega
      have m0 := (hb.cell (p := ⟨g, 0, none⟩) hgs).trans HM0.out
      go_wp2_with fail
      go_loopw [8, 9, 40] (fun _ _ s wx => ∃ j : Nat, j ≤ n1 ∧ s = .int .i64 j ∧ Below W.heap.size W wx) (fun _ _ s _ => n1 - (intOf s).toNat)
      case atStart => exact ⟨0, by omega, rfl, hb⟩
      case round =>
        obtain ⟨j, hj, rfl, hb⟩ := hrel
        by_cases hlt : j < n1
        · obtain ⟨ad, x, rfl, had, hx, c0, ck⟩ := (hP0.on hb).at_ pcl_len (by omega) hlt
          have d0 := c0 _ rfl
          have d1 := ck 1 _ (by omega) rfl
          have d2 := ck 2 _ (by omega) rfl
          have d3 := ck 3 _ (by omega) rfl
          have d4 := ck 4 _ (by omega) rfl
          have d5 := ck 5 _ (by omega) rfl
          have d6 := ck 6 _ (by omega) rfl
          have d7 := ck 7 _ (by omega) rfl
          have d8 := ck 8 _ (by omega) rfl
          have d9 := ck 9 _ (by omega) rfl
          have d10 := ck 10 _ (by omega) rfl
          have hzx := HZ.out x (List.mem_of_getElem? hx)
          obtain ⟨nm, bu, pe, sc, st, pa, pn, pc, h0, h1, h2, h3, h4⟩ := x
          dsimp only at d0 d1 d2 d3 d4 d5 d6 d7 d8 d9 d10 hzx
          have hbx := bl1 wr (.cells #[.string nm, .int .i64 bu, .int .i64 pe, .bool sc, .bool st, .slice pa pn pc, .int .i64 h0, .int .i64 h1, .int .i64 h2, .int .i64 h3, .int .i64 h4] 54)
          have hb1 := hb.trans (hbx.mono hb.size)
          have f1 : (wr.alloc (.cells #[.string nm, .int .i64 bu, .int .i64 pe, .bool sc, .bool st, .slice pa pn pc, .int .i64 h0, .int .i64 h1, .int .i64 h2, .int .i64 h3, .int .i64 h4] 54)).cell? ⟨wr.heap.size, 1, none⟩ = some (.int .i64 bu) := World.cell?_alloc_mark _ _ _ _ _
          have f2 : (wr.alloc (.cells #[.string nm, .int .i64 bu, .int .i64 pe, .bool sc, .bool st, .slice pa pn pc, .int .i64 h0, .int .i64 h1, .int .i64 h2, .int .i64 h3, .int .i64 h4] 54)).cell? ⟨wr.heap.size, 2, none⟩ = some (.int .i64 pe) := World.cell?_alloc_mark _ _ _ _ _
          have hgx : wr.heap.size < (wr.alloc (.cells #[.string nm, .int .i64 bu, .int .i64 pe, .bool sc, .bool st, .slice pa pn pc, .int .i64 h0, .int .i64 h1, .int .i64 h2, .int .i64 h3, .int .i64 h4] 54)).heap.size := by simp
          clear c0 ck hx hbx
          go_wp2_with fail
          generalize wr.alloc (.cells #[.string nm, .int .i64 bu, .int .i64 pe, .bool sc, .bool st, .slice pa pn pc, .int .i64 h0, .int .i64 h1, .int .i64 h2, .int .i64 h3, .int .i64 h4] 54) = W2 at hb1 f1 f2 hgx ⊢
          generalize wr.heap.size = gx at f1 f2 hgx ⊢
          have HB1 := Lib.hid hb1
          clear d0 d1 d2 d3 d4 d5 d6 d7 d8 d9 d10 hb1 had
          by_cases hbu : 0 < bu
          · have hbd : decide (0 < bu) = true := decide_eq_true hbu
            have HBG : Hid (Calls Try.prog 42 #[.slice A4 n4 c4, .int .i64 (j : Int), .int .i64 pe] W2.drew fun e w5 => e = .returned (.int .i64 (budL (wordsL L) (j : Int) pe)) ∧ Below W2.heap.size W2 w5 ∧ w5.cell? ⟨gx, 1, none⟩ = some (.int .i64 bu) ∧ w5.cell? ⟨gx, 2, none⟩ = some (.int .i64 pe)) := Lib.hid (by
              refine (budget_any A4 n4 c4 L (j : Int) pe W2.drew ((hL0.on HB1.out).below (Below.refl _ _).drew) q4 q5 ht hzx).mono ?_
              rintro e w5 ⟨rfl, hb5⟩
              have hb6 : Below W2.heap.size W2 w5 := ⟨hb5.os, hb5.tape, hb5.output, hb5.size, hb5.block⟩
              exact ⟨rfl, hb6, (hb6.cell (p := ⟨gx, 1, none⟩) hgx).trans f1, (hb6.cell (p := ⟨gx, 2, none⟩) hgx).trans f2⟩)
            generalize budL (wordsL L) (j : Int) pe = z at HBG
            go_region_with (go_at_call 42; refine HBG.out.mono ?_; rintro e w5 ⟨rfl, hb5, g1, g2⟩)
            go_wp2_with fail
            all_goals
              first
              | (go_ret; exact ⟨_, rfl, hb0.trans ((HB1.out.trans (hb5.mono HB1.out.size)).mono hb0.size)⟩)
              | (go_roundw
                 case rel => exact ⟨j + 1, by omega, by go_num, HB1.out.trans (hb5.mono HB1.out.size)⟩
                 case measure => simp [intOf]; omega)
          · have hbd : decide (0 < bu) = false := decide_eq_false hbu
            go_quiet (fail)
            go_wp2_with fail
            go_roundw
            case rel => exact ⟨j + 1, by omega, by go_num, Below.drewN HB1.out nq⟩
            case measure => simp [intOf]; omega
        · have hge : n1 ≤ j := by omega
          go_wp2_with fail
          go_ret
          exact ⟨_, rfl, hb0.trans (hb.mono hb0.size)⟩
end Go.Proofs.Ytknlhhbkahollaa
