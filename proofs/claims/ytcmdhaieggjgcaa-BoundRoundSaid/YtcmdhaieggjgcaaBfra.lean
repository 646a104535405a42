/- BoundFrames: a frame that is gone through twice is as late, and gives as much in each period; nobody waits longer than a frame (the walk; what package bound answers is a premise). -/
import Derived.Test.YtcmdhaieggjgcaaLow2
import Derived.Test.YtcmdhaieggjgcaaLow7
import Derived.Test.YtcmdhaieggjgcaaWdif
namespace Go.Proofs.Ytcmdhaieggjgcaa.boundFrames
open Go.ChangeShapes Go.WideShapes Go.ChangeAt Go.RowKit Tab
set_option linter.unusedSimpArgs false
set_option linter.unusedVariables false

theorem ticks_pos {L : List Rn} {x : Rn} (hx : x ∈ L) (h : 1 ≤ x.n) : 0 < ticks L := by
  induction L with
  | nil => cases hx
  | cons y L ih =>
    simp only [ticks]
    rcases List.mem_cons.1 hx with rfl | hx
    · omega
    · have := ih hx
      omega
theorem has_tk (p : Int) (L : List Rn) : hasL p (wordsL L) = true ↔ 0 < tkOf p L := by rw [← cnt_has, cnt_words]
set_option maxRecDepth 100000 in
set_option maxHeartbeats 4000000 in
theorem walk (H : BoundW) (A0 : Option Addr) (n0 k0 : Nat) (f0 : Nat → Int) (a1 a2 : Int) (w : World) (r0 : RdC w w.heap.size A0 n0 fun j => .int .i64 (f0 j)) (c0 : n0 ≤ k0) (b0 : k0 ≤ 140737488351232) :
    Calls Try.prog 5 #[.slice A0 n0 k0, .int .i64 a1, .int .i64 a2] w (Ans (.bool true) w) := by
  have R0 := Lib.hid r0
  clear r0
  go_enter Try.func5, Try.ntmps5
  go_wp2_with fail
  refine (row_box A0 n0 k0 f0 w 4 12 4 12 rfl rfl (by omega) (by omega) (by omega) (by omega) R0.out (by omega)).mono ?_
  rintro e w1 ⟨L, A1, m1, d1, rfl, hL, hr1, hd1, h1a, h1b, k1⟩
  have htk : ticks L ≤ 48 := by
    have := fair_ticks hL
    rw [hr1.len] at this
    omega
  obtain ⟨ad, x0, rfl, _, hx0, _, _⟩ := hr1.at_ (i := 0) (by omega)
  have hpos : 0 < ticks L := ticks_pos (List.mem_of_getElem? hx0) (by have := hL x0 (List.mem_of_getElem? hx0); unfold Fair at this; omega)
  have hlen : L.length = m1 := hr1.len
  have HLN := Lib.hid hlen
  have HK1 := Lib.hid k1
  have HRL := Lib.hid fun W (hb : Below w1.heap.size w1 W) => hr1.on hb
  clear k1 hL R0 hx0 hlen
  have hbe := bl1 w1 (.cells #[] 44)
  have hown0 : OwnV 44 2 (w1.alloc (.cells #[] 44)) w1.heap.size (some ⟨w1.heap.size, 0, none⟩) 0 0 [] := ownV_lit w1 _ 2 w1.heap.size #[] 0 rfl (Nat.le_refl _) (by unfold maxLen; omega)
  have hrL := hr1.on hbe
  have hle : w1.heap.size ≤ (w1.alloc (.cells #[] 44)).heap.size := hbe.size
  have hlL : (rs L).length = m1 * 2 := by rw [rs_length, HLN.out]
  clear hr1
  go_wp2_with (first
    | (at_builtin; go_loud (refine wpList_appV elR rfl (.tmp 17) (.tmp 18) rfl rfl w1.heap.size (some ⟨w1.heap.size, 0, none⟩) 0 0 [] rfl hown0 (some ad) m1 d1 (rs L) _ rfl hrL.rd hlL (rs_one _) (by omega) (by unfold maxLen; omega) hle m1 (Nat.zero_add _) (rs L) (List.nil_append _) ?_; intro A5 d5 w8 hw8 hb8 hg8; have hL8 := HRL.out w8 (hbe.trans hb8)))
    | (at_builtin; go_loud (refine wpList_appV elR rfl (.tmp 19) (.tmp 20) rfl rfl w1.heap.size A5 m1 d5 (rs L) rfl hw8 (some ad) m1 d1 (rs L) _ rfl hL8.rd hlL (rs_one _) (by omega) (by unfold maxLen; omega) (Nat.le_trans hle hb8.size) (m1 + m1) rfl (rs (L ++ L)) (rs_append _ _).symm ?_; intro A6 d6 w9 hw9 hb9 hg9)))
  have hc9 := hw9.cap
  have h9r : RdR w9 w9.heap.size A6 (m1 + m1) (L ++ L) := ⟨by rw [List.length_append, HLN.out], hw9.rd⟩
  have HR2 := Lib.hid fun W (hb : Below w9.heap.size w9 W) => h9r.on hb
  have hbb : Below w1.heap.size w1 w9 := (hbe.trans hb8).trans hb9
  have HR1 := Lib.hid fun W (hb : Below w9.heap.size w9 W) => HRL.out W (hbb.trans (hb.mono hbb.size))
  have HK9 := Lib.hid (HK1.out.trans (hbb.mono HK1.out.size))
  clear hw8 hb8 hg8 hL8 hw9 hb9 hg9 hbe hown0 hrL hle hlL hbb HRL HK1 h9r
  refine (within_at a1 _ 3 w9 rfl (by omega)).mono ?_
  rintro e _ ⟨p, hp, rfl, rfl⟩
  go_wp2_with fail
  refine (within_at a2 _ 3 w9 rfl (by omega)).mono ?_
  rintro e _ ⟨q, hq, rfl, rfl⟩
  obtain ⟨T, hT⟩ : ∃ T, T = ticks L := ⟨_, rfl⟩
  have hWl : (wordsL L).length = T := by rw [wordsL_len, hT]
  have hpW : 0 < (wordsL L).length := by rw [hWl, hT]; exact hpos
  have h2t : ticks (L ++ L) ≤ 96 := by rw [ticks_append]; omega
  have htT : T ≤ 48 := by omega
  have hz : In64 (T : Int) := by unfold In64; omega
  have CT := Lib.hid fun W (hb : Below w9.heap.size w9 W) => total_any (some ad) m1 d1 L W (HR1.out W hb) hd1 (by omega) (by omega)
  have CL := Lib.hid fun W (hb : Below w9.heap.size w9 W) => H.late (some ad) m1 d1 L p q W (HR1.out W hb) hd1 (by omega) (by omega)
  have CL2 := Lib.hid fun W (hb : Below w9.heap.size w9 W) => H.late A6 (m1 + m1) d6 (L ++ L) p q W (HR2.out W hb) hc9 (by omega) (by omega)
  have CB := Lib.hid fun W (hb : Below w9.heap.size w9 W) => H.budget (some ad) m1 d1 L p T W (HR1.out W hb) hd1 (by omega) (by omega) hz
  have CB2 := Lib.hid fun W (hb : Below w9.heap.size w9 W) => H.budget A6 (m1 + m1) d6 (L ++ L) p T W (HR2.out W hb) hc9 (by omega) (by omega) hz
  have CG := Lib.hid fun W (hb : Below w9.heap.size w9 W) => H.gaps (some ad) m1 d1 L p W (HR1.out W hb) hd1 (by omega) (by omega)
  have CP := Lib.hid fun W (hb : Below w9.heap.size w9 W) => xticks_any (some ad) m1 d1 L p W (HR1.out W hb) hd1 (by omega) (by omega)
  have CQ := Lib.hid fun W (hb : Below w9.heap.size w9 W) => xticks_any (some ad) m1 d1 L q W (HR1.out W hb) hd1 (by omega) (by omega)
  rw [wordsL_append, (circ_two (wordsL L) hpW).late] at CL2
  have e1 : budL (wordsL L) p (T : Int) = (tkOf p L : Nat) := by rw [← hWl, budL_all _ _ hpW, cnt_words]
  have e2 : budL (wordsL L ++ wordsL L) p (T : Int) = (tkOf p L : Nat) := by rw [← hWl, budL_two _ _ hpW, cnt_words]
  rw [e1] at CB
  rw [wordsL_append, e2] at CB2
  rw [← hT] at CT
  have hle1 := lateL_le (wordsL L) p q
  have hgp := gapL_lt (wordsL L) p hpW
  have hng := lateL_neg (wordsL L) p q
  have hq0 : hasL (q : Int) (wordsL L) = false ↔ tkOf q L = 0 := by
    have := has_tk q L
    cases hh : hasL (q : Int) (wordsL L) with
    | true => rw [hh] at this; simp at this; simp; omega
    | false => rw [hh] at this; simp at this; simp; omega
  rw [has_tk, hq0] at hng
  rw [hWl] at hle1 hgp
  generalize lateL (wordsL L) p q = v at CL CL2 hle1 hng
  generalize gapL (wordsL L) p = g at CG hgp
  generalize tkOf p L = t at CB CB2 CP hng
  generalize tkOf q L = u at CQ hng
  have hs1 : (v == v) = true := beq_self_eq_true _
  have hs2 : ((t : Int) == (t : Int)) = true := beq_self_eq_true _
  have hv1 : decide (v ≤ (T : Int)) = true := decide_eq_true hle1
  have hg1 : decide (g < (T : Int)) = true := decide_eq_true hgp
  have HH : Hid BoundW := Lib.hid H
  have HNG := Lib.hid hng
  clear H HR1 HR2 hWl hpW h2t hT hz e1 e2 hng hq0 hle1 hgp
  go_wp2_with fail
  refine (CT.out w9 (Below.refl _ _)).mono ?_
  rintro e w10 ⟨rfl, k10⟩
  go_wp2_with fail
  refine (CL.out w10 k10).mono ?_
  rintro e w11 ⟨rfl, hb11⟩
  have k11 := k10.trans (hb11.mono k10.size)
  clear hb11 k10
  go_wp2_with fail
  refine (CL2.out w11 k11).mono ?_
  rintro e w12 ⟨rfl, hb12⟩
  have k12 := k11.trans (hb12.mono k11.size)
  clear hb12 k11
  go_wp2_with fail
  refine (CB2.out w12 k12).mono ?_
  rintro e w13 ⟨rfl, hb13⟩
  have k13 := k12.trans (hb13.mono k12.size)
  clear hb13 k12
  go_wp2_with fail
  refine (CB.out w13 k13).mono ?_
  rintro e w14 ⟨rfl, hb14⟩
  have k14 := k13.trans (hb14.mono k13.size)
  clear hb14 k13
  go_wp2_with fail
  refine (CB.out w14 k14).mono ?_
  rintro e w15 ⟨rfl, hb15⟩
  have k15 := k14.trans (hb15.mono k14.size)
  clear hb15 k14
  go_wp2_with fail
  refine (CP.out w15 k15).mono ?_
  rintro e w16 ⟨rfl, hb16⟩
  have k16 := k15.trans (hb16.mono k15.size)
  clear hb16 k15
  go_wp2_with fail
  refine (CG.out w16 k16).mono ?_
  rintro e w17 ⟨rfl, hb17⟩
  have k17 := k16.trans (hb17.mono k16.size)
  clear hb17 k16
  by_cases ht0 : 0 < t
  · have ht0i : (0 : Int) < (t : Int) := by omega
    by_cases hu0 : u = 0
    · have hvn : decide (v < 0) = true := decide_eq_true (HNG.out.2 ⟨ht0, hu0⟩)
      have hue : ((u : Int) == 0) = true := beq_iff_eq.2 (by omega)
      go_wp2_with fail
      refine (CP.out w17 k17).mono ?_
      rintro e w18 ⟨rfl, hb18⟩
      have k18 := k17.trans (hb18.mono k17.size)
      clear hb18 k17
      go_wp2_with fail
      refine (CQ.out w18 k18).mono ?_
      rintro e w19 ⟨rfl, hb19⟩
      have k19 := k18.trans (hb19.mono k18.size)
      clear hb19 k18
      go_wp2_with fail
      refine (known9_any HH.out w19).mono ?_
      rintro e w20 ⟨rfl, hb20⟩
      have k20 := k19.trans (hb20.mono k19.size)
      go_wp2_with fail
      go_ret
      exact Ans.mk rfl (HK9.out.trans (k20.mono HK9.out.size))
    · have hvn : decide (v < 0) = false := decide_eq_false fun h => hu0 (HNG.out.1 h).2
      have hue : ((u : Int) == 0) = false := beq_eq_false_iff_ne.2 (by omega)
      go_wp2_with fail
      refine (CP.out w17 k17).mono ?_
      rintro e w18 ⟨rfl, hb18⟩
      have k18 := k17.trans (hb18.mono k17.size)
      clear hb18 k17
      go_wp2_with fail
      refine (CQ.out w18 k18).mono ?_
      rintro e w19 ⟨rfl, hb19⟩
      have k19 := k18.trans (hb19.mono k18.size)
      clear hb19 k18
      go_wp2_with fail
      refine (known9_any HH.out w19).mono ?_
      rintro e w20 ⟨rfl, hb20⟩
      have k20 := k19.trans (hb20.mono k19.size)
      go_wp2_with fail
      go_ret
      exact Ans.mk rfl (HK9.out.trans (k20.mono HK9.out.size))
  · have ht0i : decide ((0 : Int) < (t : Int)) = false := decide_eq_false (by omega)
    have hvn : decide (v < 0) = false := decide_eq_false fun h => ht0 (HNG.out.1 h).1
    go_wp2_with fail
    refine (CP.out w17 k17).mono ?_
    rintro e w18 ⟨rfl, hb18⟩
    have k18 := k17.trans (hb18.mono k17.size)
    clear hb18 k17
    go_wp2_with fail
    refine (known9_any HH.out w18).mono ?_
    rintro e w20 ⟨rfl, hb20⟩
    have k20 := k18.trans (hb20.mono k18.size)
    go_wp2_with fail
    go_ret
    exact Ans.mk rfl (HK9.out.trans (k20.mono HK9.out.size))
end Go.Proofs.Ytcmdhaieggjgcaa.boundFrames
