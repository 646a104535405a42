/- CodeTexts: for any texts and any bytes behind them, up to ten texts in a row are cut one by one, each as it was written; one that is longer than may be is none. -/
import Derived.Test.YtibhppjcochkgaaFrameS
import Derived.Test.YtibhppjcochkgaaReads
import Derived.Test.YtibhppjcochkgaaMemS
namespace Go.Proofs.Ytibhppjcochkgaa.codeTexts
open Go.ChangeShapes Go.WideShapes Go.ChangeAt Go.RowKit
set_option linter.unusedSimpArgs false
set_option linter.unusedVariables false

def cutS (s : ByteArray) : ByteArray := if 60 < s.size then s.extract 0 60 else s
theorem cutS_size (s : ByteArray) : (cutS s).size ≤ 60 := by
  unfold cutS; split
  · simp; omega
  · omega
def tex (s : ByteArray) : List UInt8 := Num.enc s.size ++ s.data.toList
def texs (f : Nat → ByteArray) : Nat → List UInt8
  | 0 => []
  | k + 1 => texs f k ++ tex (cutS (f k))
theorem texs_split (f : Nat → ByteArray) (i m : Nat) (h : i < m) : ∃ R, texs f m = texs f i ++ (tex (cutS (f i)) ++ R) := by
  induction m with
  | zero => omega
  | succ m ih =>
    by_cases e : i = m
    · subst e; exact ⟨[], by simp [texs]⟩
    · obtain ⟨R, hR⟩ := ih (by omega)
      exact ⟨R ++ tex (cutS (f m)), by simp [texs, hR]⟩
theorem tex_length (s : ByteArray) : (tex s).length = Num.wid s.size + 1 + s.size := by
  unfold tex
  rw [List.length_append, Num.enc_length, Array.length_toList]
  rfl
theorem tex_dec (s : ByteArray) (R : List UInt8) (h : s.size ≤ 140737488355328) : Num.dec (tex s ++ R) = ((s.size : Int), Num.wid s.size + 1) := by
  unfold tex
  rw [List.append_assoc, Num.enc_dec _ (by omega) (by omega)]
  rfl
theorem cut_tex (s : ByteArray) (R : List UInt8) (most : Int) (h : s.size ≤ 140737488355328) (hm : (s.size : Int) ≤ most) : Num.cut most (tex s ++ R) = (s.data.toList, Num.wid s.size + 1 + s.size) := by
  have hd := tex_dec s R h
  have hl : (tex s ++ R).length = Num.wid s.size + 1 + s.size + R.length := by rw [List.length_append, tex_length]
  rw [Num.cut_yes (by unfold Num.cutok; rw [hd, hl]; exact ⟨by simp, by simp, hm, by simp; omega⟩), hd]
  show ((((tex s ++ R).drop (Num.wid s.size + 1)).take ((s.size : Int)).toNat), _) = _
  unfold tex
  rw [List.append_assoc, List.drop_left' (by rw [Num.enc_length]; rfl), Int.toNat_natCast, List.take_left' (by rw [Array.length_toList]; rfl)]
theorem cut_over (s : ByteArray) (R : List UInt8) (most : Int) (h : s.size ≤ 140737488355328) (hm : most < (s.size : Int)) : Num.cut most (tex s ++ R) = ([], 0) :=
  Num.cut_no (by unfold Num.cutok; rw [tex_dec s R h]; intro h; have := h.2.2.1; simp at this; omega)
theorem rdcB {w : World} {B Bb n c : Nat} {A : Option Addr} {l : List ByteArray} (h : OwnS w B A n c l) (hg : ∀ g, A = some ⟨g, 0, none⟩ → g < Bb) (f : Nat → ByteArray) (hf : ∀ j, j < n → l[j]? = some (f j)) : RdC w Bb A n (fun j => .string (f j)) := fun hn => by
  obtain ⟨ad, e, _, hc⟩ := h.rdc f hf hn
  obtain ⟨g, e2, _, _⟩ := h.block hn
  refine ⟨ad, e, ?_, hc⟩
  rw [e] at e2
  injection e2 with e2
  subst e2
  exact hg g e
theorem cut_of (A : Option Addr) (n cap : Nat) (l : List UInt8) (most : Int) (y : List UInt8) (S : ByteArray) (k : Nat) (w : World) (h : Rd w w.heap.size A n l) (hn : n ≤ 140737488355328) (hcap : n ≤ cap) (hd : Num.cut most l = (y, k)) (hS : str y = S) :
    Calls Try.prog 16 #[.slice A n cap, .int .i64 most] w fun e w' => e = .returned (.tuple #[.string S, .int .i64 (k : Int)]) ∧ Below w.heap.size w w' := by
  refine (cut_any A n cap l most w h hn hcap).mono ?_
  rintro e w' ⟨he, hb⟩
  rw [hd] at he
  subst hS
  exact ⟨he, hb⟩
theorem lit_cell (w : World) (v : Value) : (w.alloc (.cells #[v] 9)).cell? ⟨w.heap.size, 0, none⟩ = some v := by
  rw [World.cell?_alloc_mark]; rfl

set_option maxRecDepth 100000 in
set_option maxHeartbeats 2000000 in
theorem walk_few (A0 : Option Addr) (n0 k0 : Nat) (f0 : Nat → ByteArray) (A1 : Option Addr) (n1 k1 : Nat) (l1 : List UInt8) (w : World) (hle : n0 ≤ 10) (r0 : RdC w w.heap.size A0 n0 fun j => .string (f0 j)) (c0 : n0 ≤ k0) (b0 : k0 ≤ 140737488351232) (w0 : ∀ j, j < n0 → (f0 j).size ≤ maxLen) (r1 : Rd w w.heap.size A1 n1 l1) (c1 : n1 ≤ k1) (b1 : k1 ≤ 140737488351232) :
    Calls Try.prog 6 #[.slice A0 n0 k0, .slice A1 n1 k1] w (Yes w) := by
  have W0 := Lib.hid w0
  have R0 := Lib.hid r0
  clear w0 r0
  · go_enter Try.func6, Try.ntmps6
    go_wp2_with fail
    go_loopw [5, 7, 8] (fun b x s wr => ∃ (i N : Nat) (A : Option Addr) (c : Nat) (Aw : Option Addr) (cw Bb : Nat), i ≤ n0 ∧ s = .int .i64 i ∧ b = .slice A N c ∧ x = .slice Aw i cw ∧ w.heap.size ≤ Bb ∧ Bb ≤ wr.heap.size ∧ Own wr Bb A N c (texs f0 i) ∧ OwnS wr w.heap.size Aw i cw ((List.range i).map fun j => cutS (f0 j)) ∧ (∀ g, Aw = some ⟨g, 0, none⟩ → g < Bb) ∧ N ≤ 69 * i ∧ Below w.heap.size w wr) (fun _ _ s _ => n0 - (intOf s).toNat)
    case atStart => exact ⟨0, 0, none, 0, none, 0, w.heap.size, by omega, rfl, rfl, rfl, Nat.le_refl _, Nat.le_refl _, World.ownsRow_nil _ _ _ _, ownS_nil _ _, (fun g h => by cases h), by omega, Below.refl _ _⟩
    case round =>
      obtain ⟨i, N, A, c, Aw, cw, Bb, hi, rfl, rfl, rfl, hB1, hB2, hw, hs, hgw, hN, hb⟩ := hrel
      by_cases hlt : i < n0
      · obtain ⟨ad0, rfl, _, hc⟩ := (R0.out.below hb).at_ (k := i) (by omega)
        have hin : i < n0 := by omega
        have GW := Lib.hid hgw
        clear hgw
        by_cases h60 : 60 < (f0 i).size
        · have hsx : cutS (f0 i) = (f0 i).extract 0 60 := by unfold cutS; rw [if_pos h60]
          have hsz : ((f0 i).extract 0 60).size ≤ 60 := by simp; omega
          have HCX := Lib.hid hsx
          have HSZ := Lib.hid hsz
          clear hsx hsz
          go_wp2_with (at_builtin; go_loud (refine wpList_appS rfl (.tmp 34) (.tmp 36) rfl rfl w.heap.size Aw i cw _ rfl (hs.below rfl ((Below.refl _ _).alloc (Nat.le_refl _) _)) ⟨wr.heap.size, 0, none⟩ 1 ((f0 i).extract 0 60) rfl (lit_cell wr _) (by omega) (by have := hb.size; simp; omega) ?_; intro A1 cw1 w1 hs1 hb1 oth1))
          generalize (f0 i).extract 0 60 = sx at hs1 HCX HSZ ⊢
          have k1 : Below w.heap.size w w1 := (hb.alloc hb.size _).trans hb1
          have hB3 : wr.heap.size + 1 ≤ w1.heap.size := by have := hb1.size; simpa using this
          have hw1 : Own w1 Bb A N c (texs f0 i) := (hw.below rfl ((Below.refl _ _).alloc (Nat.le_refl _) _)).other (oth1 Bb GW.out)
          rw [← HCX.out] at hs1
          have hs2 : OwnS w1 w.heap.size A1 (i + 1) cw1 ((List.range (i + 1)).map fun j => cutS (f0 j)) := by rw [List.range_succ, List.map_append]; exact hs1
          obtain ⟨gw, hgA, _, hgl⟩ := hs2.block (by omega)
          have HGA := Lib.hid hgA
          clear hgA
          have hw8 := wid_size sx.size (by have := HSZ.out; omega)
          have HW8 := Lib.hid hw8
          clear hs1 hs hw hw8 oth1 hc
          refine (text_any A N c _ sx w1 hw1.rd (by have := HSZ.out; omega)).mono ?_
          rintro e w2 ⟨A2, c2, rfl, hw2, hb2⟩
          have hs3 := hs2.below rfl hb2
          clear hs2
          go_wp2_with fail
          go_roundw
          case rel => exact ⟨i + 1, N + 1 + Num.wid sx.size + sx.size, A2, c2, A1, cw1, w1.heap.size, by omega, by go_num, rfl, rfl, by have := k1.size; omega, hb2.size, (by rw [texs, HCX.out]; unfold tex; rw [← List.append_assoc]; exact hw2), hs3, (fun g h => by rw [HGA.out] at h; injection h with h; injection h with h; omega), by have := HSZ.out; have := HW8.out; omega, k1.trans (hb2.mono k1.size)⟩
          case measure => simp [intOf]; omega
        · have hsx : cutS (f0 i) = f0 i := by unfold cutS; rw [if_neg h60]
          have hsz : (f0 i).size ≤ 60 := by omega
          have HCX := Lib.hid hsx
          have HSZ := Lib.hid hsz
          clear hsx hsz
          go_wp2_with (at_builtin; go_loud (refine wpList_appS rfl (.tmp 34) (.tmp 36) rfl rfl w.heap.size Aw i cw _ rfl (hs.below rfl ((Below.refl _ _).alloc (Nat.le_refl _) _)) ⟨wr.heap.size, 0, none⟩ 1 (f0 i) rfl (lit_cell wr _) (by omega) (by have := hb.size; simp; omega) ?_; intro A1 cw1 w1 hs1 hb1 oth1))
          have k1 : Below w.heap.size w w1 := (hb.alloc hb.size _).trans hb1
          have hB3 : wr.heap.size + 1 ≤ w1.heap.size := by have := hb1.size; simpa using this
          have hw1 : Own w1 Bb A N c (texs f0 i) := (hw.below rfl ((Below.refl _ _).alloc (Nat.le_refl _) _)).other (oth1 Bb GW.out)
          rw [← HCX.out] at hs1
          have hs2 : OwnS w1 w.heap.size A1 (i + 1) cw1 ((List.range (i + 1)).map fun j => cutS (f0 j)) := by rw [List.range_succ, List.map_append]; exact hs1
          obtain ⟨gw, hgA, _, hgl⟩ := hs2.block (by omega)
          have HGA := Lib.hid hgA
          clear hgA
          have hw8 := wid_size (f0 i).size (by have := HSZ.out; omega)
          have HW8 := Lib.hid hw8
          clear hs1 hs hw hw8 oth1 hc
          refine (text_any A N c _ (f0 i) w1 hw1.rd (by have := HSZ.out; omega)).mono ?_
          rintro e w2 ⟨A2, c2, rfl, hw2, hb2⟩
          have hs3 := hs2.below rfl hb2
          clear hs2
          go_wp2_with fail
          go_roundw
          case rel => exact ⟨i + 1, N + 1 + Num.wid (f0 i).size + (f0 i).size, A2, c2, A1, cw1, w1.heap.size, by omega, by go_num, rfl, rfl, by have := k1.size; omega, hb2.size, (by rw [texs, HCX.out]; unfold tex; rw [← List.append_assoc]; exact hw2), hs3, (fun g h => by rw [HGA.out] at h; injection h with h; injection h with h; omega), by have := HSZ.out; have := HW8.out; omega, k1.trans (hb2.mono k1.size)⟩
          case measure => simp [intOf]; omega
      · have hge : n0 ≤ i := by omega
        have HE := Lib.hid (show i = n0 by omega)
        have HLN := Lib.hid hw.len
        have hNb : N ≤ 690 := by omega
        obtain ⟨M2, hM2⟩ : ∃ M2, N + n1 = M2 := ⟨_, rfl⟩
        have M2b : M2 ≤ 140737488355328 := by omega
        have M2c : N ≤ M2 := by omega
        have H2 := Lib.hid hM2
        have hRW : RdC wr Bb Aw i (fun j => .string (cutS (f0 j))) := rdcB hs hgw _ (fun j hj => by simp [hj])
        clear hM2 hs hgw
        have r1' := r1.below hb
        go_wp2_with (at_builtin; go_loud (refine wpList_app rfl (.tmp 41) (.tmp 42) rfl rfl Bb A N c _ rfl hw A1 n1 k1 l1 w.heap.size rfl r1' M2 H2.out (texs f0 i ++ l1) rfl M2b hB2 ?_; intro A2 c2 w2 hw2 hb2))
        have k2 := hb.trans (hb2.mono hB1)
        have hT : Rd w2 w2.heap.size A2 M2 (texs f0 i ++ l1) := hw2.rd
        have hRW2 := (hRW.below hb2).more (B' := w2.heap.size) (by have := hb2.size; omega)
        have HRW := Lib.hid hRW2
        have hc2 : M2 ≤ c2 := hw2.cap
        clear hw hb hb2 hw2 r1' r1 hN hRW hRW2 hB1 hB2
        rw [HE.out] at hT HLN
        go_loopw [10, 46] (fun t s wr => ∃ (j a : Nat), j ≤ n0 ∧ s = .int .i64 j ∧ t = .int .i64 a ∧ (texs f0 j).length = a ∧ Below w2.heap.size w2 wr) (fun _ s _ => n0 - (intOf s).toNat)
        case atStart => exact ⟨0, 0, by omega, rfl, rfl, rfl, Below.refl _ _⟩
        case round =>
          obtain ⟨j, a, hj, rfl, rfl, ha, hb⟩ := hrel
          have HA := Lib.hid ha
          clear ha
          have k3 := k2.trans (hb.mono k2.size)
          by_cases hlt : j < n0
          · obtain ⟨R, hR⟩ := texs_split f0 j n0 hlt
            have hT3 : Rd wr wr.heap.size A2 M2 (texs f0 n0 ++ l1) := (hT.below hb).more hb.size
            obtain ⟨ad0, rfl, _, hc⟩ := (HRW.out.below hb).at_ (k := j) (by omega)
            have hji : j < i := by omega
            obtain ⟨S, hS⟩ : ∃ S, S = cutS (f0 j) := ⟨_, rfl⟩
            have hS60 : S.size ≤ 60 := by rw [hS]; exact cutS_size _
            have HS := Lib.hid hS
            rw [← hS] at hR hc
            clear hS
            obtain ⟨J, hJ⟩ : ∃ J, Num.wid S.size + 1 + S.size = J := ⟨_, rfl⟩
            have htl : (tex S).length = J := by rw [tex_length, hJ]
            have hw8 := wid_size S.size (by omega)
            have hlen : a + J ≤ N := by
              have e1 := HLN.out
              rw [hR, List.length_append, List.length_append, HA.out, htl] at e1
              omega
            have hSJ : S.size < J := by omega
            have hJ1 : 1 ≤ J := by omega
            have hJ9 : J ≤ 70 := by omega
            obtain ⟨ad, _, rfl, _, _, _⟩ := hT3.at_ (k := a) (by omega)
            have hdrop : (texs f0 n0 ++ l1).drop a = tex S ++ (R ++ l1) := by
              rw [hR, List.append_assoc, List.drop_left' HA.out, List.append_assoc]
            have hrd : Rd wr wr.heap.size (some (ad.add a)) (M2 - a) (tex S ++ (R ++ l1)) := by
              have := hT3.back a (M2 - a) (by omega)
              rwa [hdrop] at this
            have CUT := Lib.hid (show Num.cut 60 (tex S ++ (R ++ l1)) = (S.data.toList, J) by rw [cut_tex S _ 60 (by omega) (by omega), hJ])
            have CUT0 := Lib.hid (cut_over S (R ++ l1) ((S.size : Int) - 1) (by omega) (by omega))
            have HJ := Lib.hid hJ
            have HTL := Lib.hid htl
            have hca : ¬ c2 = a := by omega
            have ham : a ≤ M2 := by omega
            clear hR hdrop hJ htl hT3
            go_wp2_with fail
            refine (cut_of _ (M2 - a) (c2 - a) _ 60 S.data.toList S J _ hrd (by omega) (by omega) CUT.out rfl).mono ?_
            rintro e w3 ⟨rfl, hb3⟩
            have hrd3 := (hrd.below hb3).more hb3.size
            clear hc
            go_wp2_with fail
            refine (cut_of _ (M2 - a) (c2 - a) _ _ [] ⟨#[]⟩ 0 w3 hrd3 (by omega) (by omega) CUT0.out rfl).mono ?_
            rintro e w4 ⟨rfl, hb4⟩
            have k5 := hb.trans ((hb3.trans (hb4.mono hb3.size)).mono hb.size)
            go_wp2_with fail
            go_roundw
            case rel => exact ⟨j + 1, a + J, by omega, by go_num, by go_num, by rw [texs, List.length_append, ← HS.out, HA.out, HTL.out], k5⟩
            case measure => simp [intOf]; omega
          · have hge2 : n0 ≤ j := by omega
            have hji : ¬ j < i := by omega
            have haN : ((a : Int) == (M2 : Int) - (n1 : Int)) = true := by
              have e1 := HLN.out
              have e2 := HA.out
              rw [show j = n0 by omega] at e2
              have := H2.out
              simp; omega
            go_wp2_with fail
            refine (known_any wr).mono ?_
            rintro e w3 ⟨rfl, hb3⟩
            have k4 := k3.trans (hb3.mono k3.size)
            go_wp2_with fail
            go_ret
            exact ⟨rfl, k4⟩

set_option maxRecDepth 100000 in
set_option maxHeartbeats 2000000 in
theorem walk_many (A0 : Option Addr) (n0 k0 : Nat) (f0 : Nat → ByteArray) (A1 : Option Addr) (n1 k1 : Nat) (l1 : List UInt8) (w : World) (hle : ¬ n0 ≤ 10) (r0 : RdC w w.heap.size A0 n0 fun j => .string (f0 j)) (c0 : n0 ≤ k0) (b0 : k0 ≤ 140737488351232) (w0 : ∀ j, j < n0 → (f0 j).size ≤ maxLen) (r1 : Rd w w.heap.size A1 n1 l1) (c1 : n1 ≤ k1) (b1 : k1 ≤ 140737488351232) :
    Calls Try.prog 6 #[.slice A0 n0 k0, .slice A1 n1 k1] w (Yes w) := by
  have W0 := Lib.hid w0
  have R0 := Lib.hid r0
  clear w0 r0
  · go_enter Try.func6, Try.ntmps6
    go_wp2_with fail
    obtain ⟨m, hm⟩ : ∃ m : Nat, (10 : Int) = (m : Int) := ⟨10, rfl⟩
    have hm1 : m ≤ 10 := by omega
    have hm2 : m ≤ n0 := by omega
    rw [hm]
    clear hm
    go_loopw [5, 7, 8] (fun b x s wr => ∃ (i N : Nat) (A : Option Addr) (c : Nat) (Aw : Option Addr) (cw Bb : Nat), i ≤ m ∧ s = .int .i64 i ∧ b = .slice A N c ∧ x = .slice Aw i cw ∧ w.heap.size ≤ Bb ∧ Bb ≤ wr.heap.size ∧ Own wr Bb A N c (texs f0 i) ∧ OwnS wr w.heap.size Aw i cw ((List.range i).map fun j => cutS (f0 j)) ∧ (∀ g, Aw = some ⟨g, 0, none⟩ → g < Bb) ∧ N ≤ 69 * i ∧ Below w.heap.size w wr) (fun _ _ s _ => m - (intOf s).toNat)
    case atStart => exact ⟨0, 0, none, 0, none, 0, w.heap.size, by omega, rfl, rfl, rfl, Nat.le_refl _, Nat.le_refl _, World.ownsRow_nil _ _ _ _, ownS_nil _ _, (fun g h => by cases h), by omega, Below.refl _ _⟩
    case round =>
      obtain ⟨i, N, A, c, Aw, cw, Bb, hi, rfl, rfl, rfl, hB1, hB2, hw, hs, hgw, hN, hb⟩ := hrel
      by_cases hlt : i < m
      · obtain ⟨ad0, rfl, _, hc⟩ := (R0.out.below hb).at_ (k := i) (by omega)
        have hin : i < n0 := by omega
        have GW := Lib.hid hgw
        clear hgw
        by_cases h60 : 60 < (f0 i).size
        · have hsx : cutS (f0 i) = (f0 i).extract 0 60 := by unfold cutS; rw [if_pos h60]
          have hsz : ((f0 i).extract 0 60).size ≤ 60 := by simp; omega
          have HCX := Lib.hid hsx
          have HSZ := Lib.hid hsz
          clear hsx hsz
          go_wp2_with (at_builtin; go_loud (refine wpList_appS rfl (.tmp 34) (.tmp 36) rfl rfl w.heap.size Aw i cw _ rfl (hs.below rfl ((Below.refl _ _).alloc (Nat.le_refl _) _)) ⟨wr.heap.size, 0, none⟩ 1 ((f0 i).extract 0 60) rfl (lit_cell wr _) (by omega) (by have := hb.size; simp; omega) ?_; intro A1 cw1 w1 hs1 hb1 oth1))
          generalize (f0 i).extract 0 60 = sx at hs1 HCX HSZ ⊢
          have k1 : Below w.heap.size w w1 := (hb.alloc hb.size _).trans hb1
          have hB3 : wr.heap.size + 1 ≤ w1.heap.size := by have := hb1.size; simpa using this
          have hw1 : Own w1 Bb A N c (texs f0 i) := (hw.below rfl ((Below.refl _ _).alloc (Nat.le_refl _) _)).other (oth1 Bb GW.out)
          rw [← HCX.out] at hs1
          have hs2 : OwnS w1 w.heap.size A1 (i + 1) cw1 ((List.range (i + 1)).map fun j => cutS (f0 j)) := by rw [List.range_succ, List.map_append]; exact hs1
          obtain ⟨gw, hgA, _, hgl⟩ := hs2.block (by omega)
          have HGA := Lib.hid hgA
          clear hgA
          have hw8 := wid_size sx.size (by have := HSZ.out; omega)
          have HW8 := Lib.hid hw8
          clear hs1 hs hw hw8 oth1 hc
          refine (text_any A N c _ sx w1 hw1.rd (by have := HSZ.out; omega)).mono ?_
          rintro e w2 ⟨A2, c2, rfl, hw2, hb2⟩
          have hs3 := hs2.below rfl hb2
          clear hs2
          go_wp2_with fail
          go_roundw
          case rel => exact ⟨i + 1, N + 1 + Num.wid sx.size + sx.size, A2, c2, A1, cw1, w1.heap.size, by omega, by go_num, rfl, rfl, by have := k1.size; omega, hb2.size, (by rw [texs, HCX.out]; unfold tex; rw [← List.append_assoc]; exact hw2), hs3, (fun g h => by rw [HGA.out] at h; injection h with h; injection h with h; omega), by have := HSZ.out; have := HW8.out; omega, k1.trans (hb2.mono k1.size)⟩
          case measure => simp [intOf]; omega
        · have hsx : cutS (f0 i) = f0 i := by unfold cutS; rw [if_neg h60]
          have hsz : (f0 i).size ≤ 60 := by omega
          have HCX := Lib.hid hsx
          have HSZ := Lib.hid hsz
          clear hsx hsz
          go_wp2_with (at_builtin; go_loud (refine wpList_appS rfl (.tmp 34) (.tmp 36) rfl rfl w.heap.size Aw i cw _ rfl (hs.below rfl ((Below.refl _ _).alloc (Nat.le_refl _) _)) ⟨wr.heap.size, 0, none⟩ 1 (f0 i) rfl (lit_cell wr _) (by omega) (by have := hb.size; simp; omega) ?_; intro A1 cw1 w1 hs1 hb1 oth1))
          have k1 : Below w.heap.size w w1 := (hb.alloc hb.size _).trans hb1
          have hB3 : wr.heap.size + 1 ≤ w1.heap.size := by have := hb1.size; simpa using this
          have hw1 : Own w1 Bb A N c (texs f0 i) := (hw.below rfl ((Below.refl _ _).alloc (Nat.le_refl _) _)).other (oth1 Bb GW.out)
          rw [← HCX.out] at hs1
          have hs2 : OwnS w1 w.heap.size A1 (i + 1) cw1 ((List.range (i + 1)).map fun j => cutS (f0 j)) := by rw [List.range_succ, List.map_append]; exact hs1
          obtain ⟨gw, hgA, _, hgl⟩ := hs2.block (by omega)
          have HGA := Lib.hid hgA
          clear hgA
          have hw8 := wid_size (f0 i).size (by have := HSZ.out; omega)
          have HW8 := Lib.hid hw8
          clear hs1 hs hw hw8 oth1 hc
          refine (text_any A N c _ (f0 i) w1 hw1.rd (by have := HSZ.out; omega)).mono ?_
          rintro e w2 ⟨A2, c2, rfl, hw2, hb2⟩
          have hs3 := hs2.below rfl hb2
          clear hs2
          go_wp2_with fail
          go_roundw
          case rel => exact ⟨i + 1, N + 1 + Num.wid (f0 i).size + (f0 i).size, A2, c2, A1, cw1, w1.heap.size, by omega, by go_num, rfl, rfl, by have := k1.size; omega, hb2.size, (by rw [texs, HCX.out]; unfold tex; rw [← List.append_assoc]; exact hw2), hs3, (fun g h => by rw [HGA.out] at h; injection h with h; injection h with h; omega), by have := HSZ.out; have := HW8.out; omega, k1.trans (hb2.mono k1.size)⟩
          case measure => simp [intOf]; omega
      · have hge : m ≤ i := by omega
        have HE := Lib.hid (show i = m by omega)
        have HLN := Lib.hid hw.len
        have hNb : N ≤ 690 := by omega
        obtain ⟨M2, hM2⟩ : ∃ M2, N + n1 = M2 := ⟨_, rfl⟩
        have M2b : M2 ≤ 140737488355328 := by omega
        have M2c : N ≤ M2 := by omega
        have H2 := Lib.hid hM2
        have hRW : RdC wr Bb Aw i (fun j => .string (cutS (f0 j))) := rdcB hs hgw _ (fun j hj => by simp [hj])
        clear hM2 hs hgw
        have r1' := r1.below hb
        go_wp2_with (at_builtin; go_loud (refine wpList_app rfl (.tmp 41) (.tmp 42) rfl rfl Bb A N c _ rfl hw A1 n1 k1 l1 w.heap.size rfl r1' M2 H2.out (texs f0 i ++ l1) rfl M2b hB2 ?_; intro A2 c2 w2 hw2 hb2))
        have k2 := hb.trans (hb2.mono hB1)
        have hT : Rd w2 w2.heap.size A2 M2 (texs f0 i ++ l1) := hw2.rd
        have hRW2 := (hRW.below hb2).more (B' := w2.heap.size) (by have := hb2.size; omega)
        have HRW := Lib.hid hRW2
        have hc2 : M2 ≤ c2 := hw2.cap
        clear hw hb hb2 hw2 r1' r1 hN hRW hRW2 hB1 hB2
        rw [HE.out] at hT HLN
        go_loopw [10, 46] (fun t s wr => ∃ (j a : Nat), j ≤ m ∧ s = .int .i64 j ∧ t = .int .i64 a ∧ (texs f0 j).length = a ∧ Below w2.heap.size w2 wr) (fun _ s _ => m - (intOf s).toNat)
        case atStart => exact ⟨0, 0, by omega, rfl, rfl, rfl, Below.refl _ _⟩
        case round =>
          obtain ⟨j, a, hj, rfl, rfl, ha, hb⟩ := hrel
          have HA := Lib.hid ha
          clear ha
          have k3 := k2.trans (hb.mono k2.size)
          by_cases hlt : j < m
          · obtain ⟨R, hR⟩ := texs_split f0 j m hlt
            have hT3 : Rd wr wr.heap.size A2 M2 (texs f0 m ++ l1) := (hT.below hb).more hb.size
            obtain ⟨ad0, rfl, _, hc⟩ := (HRW.out.below hb).at_ (k := j) (by omega)
            have hji : j < i := by omega
            obtain ⟨S, hS⟩ : ∃ S, S = cutS (f0 j) := ⟨_, rfl⟩
            have hS60 : S.size ≤ 60 := by rw [hS]; exact cutS_size _
            have HS := Lib.hid hS
            rw [← hS] at hR hc
            clear hS
            obtain ⟨J, hJ⟩ : ∃ J, Num.wid S.size + 1 + S.size = J := ⟨_, rfl⟩
            have htl : (tex S).length = J := by rw [tex_length, hJ]
            have hw8 := wid_size S.size (by omega)
            have hlen : a + J ≤ N := by
              have e1 := HLN.out
              rw [hR, List.length_append, List.length_append, HA.out, htl] at e1
              omega
            have hSJ : S.size < J := by omega
            have hJ1 : 1 ≤ J := by omega
            have hJ9 : J ≤ 70 := by omega
            obtain ⟨ad, _, rfl, _, _, _⟩ := hT3.at_ (k := a) (by omega)
            have hdrop : (texs f0 m ++ l1).drop a = tex S ++ (R ++ l1) := by
              rw [hR, List.append_assoc, List.drop_left' HA.out, List.append_assoc]
            have hrd : Rd wr wr.heap.size (some (ad.add a)) (M2 - a) (tex S ++ (R ++ l1)) := by
              have := hT3.back a (M2 - a) (by omega)
              rwa [hdrop] at this
            have CUT := Lib.hid (show Num.cut 60 (tex S ++ (R ++ l1)) = (S.data.toList, J) by rw [cut_tex S _ 60 (by omega) (by omega), hJ])
            have CUT0 := Lib.hid (cut_over S (R ++ l1) ((S.size : Int) - 1) (by omega) (by omega))
            have HJ := Lib.hid hJ
            have HTL := Lib.hid htl
            have hca : ¬ c2 = a := by omega
            have ham : a ≤ M2 := by omega
            clear hR hdrop hJ htl hT3
            go_wp2_with fail
            refine (cut_of _ (M2 - a) (c2 - a) _ 60 S.data.toList S J _ hrd (by omega) (by omega) CUT.out rfl).mono ?_
            rintro e w3 ⟨rfl, hb3⟩
            have hrd3 := (hrd.below hb3).more hb3.size
            clear hc
            go_wp2_with fail
            refine (cut_of _ (M2 - a) (c2 - a) _ _ [] ⟨#[]⟩ 0 w3 hrd3 (by omega) (by omega) CUT0.out rfl).mono ?_
            rintro e w4 ⟨rfl, hb4⟩
            have k5 := hb.trans ((hb3.trans (hb4.mono hb3.size)).mono hb.size)
            go_wp2_with fail
            go_roundw
            case rel => exact ⟨j + 1, a + J, by omega, by go_num, by go_num, by rw [texs, List.length_append, ← HS.out, HA.out, HTL.out], k5⟩
            case measure => simp [intOf]; omega
          · have hge2 : m ≤ j := by omega
            have hji : ¬ j < i := by omega
            have haN : ((a : Int) == (M2 : Int) - (n1 : Int)) = true := by
              have e1 := HLN.out
              have e2 := HA.out
              rw [show j = m by omega] at e2
              have := H2.out
              simp; omega
            go_wp2_with fail
            refine (known_any wr).mono ?_
            rintro e w3 ⟨rfl, hb3⟩
            have k4 := k3.trans (hb3.mono k3.size)
            go_wp2_with fail
            go_ret
            exact ⟨rfl, k4⟩

theorem walk (A0 : Option Addr) (n0 k0 : Nat) (f0 : Nat → ByteArray) (A1 : Option Addr) (n1 k1 : Nat) (l1 : List UInt8) (w : World) (r0 : RdC w w.heap.size A0 n0 fun j => .string (f0 j)) (c0 : n0 ≤ k0) (b0 : k0 ≤ 140737488351232) (w0 : ∀ j, j < n0 → (f0 j).size ≤ maxLen) (r1 : Rd w w.heap.size A1 n1 l1) (c1 : n1 ≤ k1) (b1 : k1 ≤ 140737488351232) :
    Calls Try.prog 6 #[.slice A0 n0 k0, .slice A1 n1 k1] w (Yes w) := by
  by_cases hle : n0 ≤ 10
  · exact walk_few A0 n0 k0 f0 A1 n1 k1 l1 w hle r0 c0 b0 w0 r1 c1 b1
  · exact walk_many A0 n0 k0 f0 A1 n1 k1 l1 w hle r0 c0 b0 w0 r1 c1 b1

set_option maxRecDepth 100000 in
theorem lifted (os : Os) (started : os.Started) (H : Type) (enc : TypeId × Value → H) :
    ReturnsInHanded {} Try.checked os 6 .any (Rows.codeTextsSpec.pre6 enc Try.prog Try.f6 Rows.codeTextsRow.domain false) (Rows.codeTextsSpec.post enc Try.prog Try.f6 false true false false) := by
  refine returnsInHanded_of_change_sized (C := Try.checked) own started (by kernel_rfl) Try.func6
    (ChangeSpec.witness6 (enc := enc) (C := Try.checked) false ⟨#[], #[.slice none 0 0, .slice none 0 0], []⟩ 8 (by kernel_rfl) (by kernel_rfl) (by kernel_rfl) (by kernel_rfl)) ?_
  intro W base args ds gs before hval0 hW hcnd hsz0 _
  have hval : ∀ (j : Nat) t v, Try.f6.params[j]? = some t → args[j]? = some v → Value.okWide Try.prog W .any base t v := hval0
  have hW' := hW
  obtain ⟨p, q, hA0, hV, rfl, hfz, hnd⟩ := hW
  have hA : DataW.TrodAll enc Try.prog W 0 (fun _ => true) true Try.f6.params.toList args.toList ds p := hA0
  have hsz : (DataW.weightsEach Try.prog (Try.f6.params.toList ++ Rows.codeTextsSpec.plain.varTypes Try.prog) (ds ++ gs)).all (· ≤ reachBytes) = true := hsz0
  rw [Try.params6] at hA hval hsz
  obtain ⟨v0, vs0, d0, ds0, p0, q0, hargs, rfl, rfl, h0, r0⟩ := trodAll_cons hA
  obtain ⟨v1, vs1, d1, ds1, p1, q1, rfl, rfl, rfl, h1, r1⟩ := trodAll_cons r0
  obtain ⟨rfl, rfl, rfl⟩ := trodAll_nil r1
  obtain rfl : args = #[v0, v1] := by cases args; simp_all
  obtain ⟨rfl, rfl⟩ := trodVars_none hV
  obtain ⟨A0, n0, k0, rfl⟩ := okWide_slice Try.underlying36 (hval 0 36 v0 rfl rfl)
  have t0 := h0
  have lt0 : ∀ x ∈ p0, x.block < W.heap.size := by obtain ⟨m, hm⟩ := t0; exact DataW.trod_lt m _ _ _ hm
  obtain ⟨f0, u0, c0, b0, w0⟩ := strings_sized h0 (fun elems spare e => sized_slice hsz (j := 0) (t := 36) (e := 9) rfl (by rw [← e]; rfl) Try.underlying36)
  obtain ⟨A1, n1, k1, rfl⟩ := okWide_slice Try.underlying23 (hval 1 23 v1 rfl rfl)
  have t1 := h1
  have lt1 : ∀ x ∈ p1, x.block < W.heap.size := by obtain ⟨m, hm⟩ := t1; exact DataW.trod_lt m _ _ _ hm
  obtain ⟨l1, u1, c1, b1⟩ := row_sized h1 (fun elems spare e => sized_slice hsz (j := 1) (t := 23) (e := 5) rfl (by rw [← e]; rfl) Try.underlying23)
  clear hA0 hval0
  refine (walk A0 n0 k0 f0 A1 n1 k1 l1 W u0 c0 b0 w0 u1 c1 b1).mono fun e W' ⟨he, bel⟩ => ?_
  subst he
  exact ⟨_, rfl, _, _, _, [], _, [], hW', trodAll_mk1 (shut_bool Try.underlying4 _), (trodAll_cons_mk (Below.trod laidOut (by kernel_rfl) (of_decide_eq_true (by kernel_rfl)) t0 bel lt0) (trodAll_cons_mk (Below.trod laidOut (by kernel_rfl) (of_decide_eq_true (by kernel_rfl)) t1 bel lt1) trodAll_mk0)), rfl, bel.frame _, fun h => by cases h⟩

theorem proved : Rows.CodeTextsSaid :=
  OpenClaim.holds_of_wide 6 Try.f6 rfl rfl rfl rfl rfl rfl rfl ⟨rfl, rfl, rfl, rfl, rfl⟩ rfl rfl rfl rfl rfl (by kernel_rfl) Try.func6 (by kernel_rfl)
    (of_decide_eq_true (by kernel_rfl)) (by unfold Func.isWrapper; first | (rw [if_pos (by decide +kernel)]; kernel_rfl) | (rw [if_neg (by decide +kernel)]; exact ⟨rfl, rfl⟩))
    (fun os started H enc _ => lifted os started H enc)
end Go.Proofs.Ytibhppjcochkgaa.codeTexts
