/- WordTells: for any rows, any dependence, the program's answers are the document's own (the walk; what package word answers is a premise). -/
import Derived.Test.YtcdgofdnafbacaaLow1
import Derived.Test.YtcdgofdnafbacaaWkno
import Derived.Test.YtcdgofdnafbacaaWtur
import Derived.Test.YtcdgofdnafbacaaWdep
import Derived.Test.YtcdgofdnafbacaaTrow
namespace Go.Proofs.Ytcdgofdnafbacaa.wordTells
open Go.ChangeShapes Go.WideShapes Go.ChangeAt Go.RowKit Tab
set_option linter.unusedSimpArgs false
set_option linter.unusedVariables false

theorem perm_ticks {X L : List Rn} (h : X.Perm L) : ticks X = ticks L := by
  induction h with
  | nil => rfl
  | cons x _ ih => simp [ticks] at ih ⊢; omega
  | swap x y l => simp [ticks]; omega
  | trans _ _ h1 h2 => rw [h1, h2]
section
variable {T E s b : Nat} {z : Value}
theorem wpList_appXw (L : Elt T E s b z) {ops : Array Oper} {rest : List Oper} {o : Oper} {a : Act} {Q : Exit → Act → World → Prop} {w : World} (hgd : Region.wanted o (yielded ops a.tmps) = true) (x y : Operand)
    (ho : o.op = .call { callee := .builtin .append, args := #[x, y], argTypes := #[T, T] }) (hty : o.type = T)
    (B : Nat) (A : Option Addr) (n c : Nat) (l0 : List Value) (hx : a.eval x = .slice A n c) (h : OwnV E s w B A n c l0) (ad : Addr) (m d : Nat) (l : List Value) (Bs : Nat) (hy : a.eval y = .slice (some ad) m d) (hr : RdV w Bs (some ad) l)
    (hl : l.length = m * s) (hm0 : 0 < m) (h1 : ∀ u ∈ l, u.oneCell' = true) (hb : (n + m) * b ≤ 140737488355328) (hm : n + m ≤ maxLen) (hB : B ≤ w.heap.size)
    (N : Nat) (hN : n + m = N) (M : List Value) (hM : l0 ++ l = M)
    (hK : ∀ A' c' w', OwnV E s w' B A' N c' M → Below B w w' → Grew A A' w w' → wpList Try.prog ops Q rest (a.put o.dst (.slice A' N c')) w') : wpList Try.prog ops Q (o :: rest) a w := by
  subst hN; subst hM
  refine wpList_step fun K hk => ?_
  rw [if_pos hgd]
  obtain ⟨A', c', w', hrun, h1, h2, h3⟩ := run_appX L w B A n c l0 h ad m d l Bs hr hl hm0 h1 hb hm hB
  unfold Oper.wp execOp
  simp only [ho, hty, resolve, invoke, builtin, Sem.run_bind, Sem.run_pure, Result.andThen_ok, List.map_toArray, List.map_cons, List.map_nil, hx, hy, hrun]
  exact hk _ _ (hK A' c' w' h1 h2 h3)
end
set_option maxRecDepth 100000 in
set_option maxHeartbeats 4000000 in
theorem walk (H : WordW) (A0 : Option Addr) (n0 k0 : Nat) (f0 : Nat → Int) (A1 : Option Addr) (n1 k1 : Nat) (f1 : Nat → Int) (A2 : Option Addr) (n2 k2 : Nat) (f2 : Nat → Int) (bs a b : Int) (w : World)
    (r0 : RdC w w.heap.size A0 n0 fun j => .int .i64 (f0 j)) (r1 : RdC w w.heap.size A1 n1 fun j => .int .i64 (f1 j)) (r2 : RdC w w.heap.size A2 n2 fun j => .int .i64 (f2 j)) (c0 : n0 ≤ k0) (c1 : n1 ≤ k1) (c2 : n2 ≤ k2) (b0 : k0 ≤ 140737488351232) (b1 : k1 ≤ 140737488351232) (b2 : k2 ≤ 140737488351232)
    (z1 : -9223372036854775808 ≤ bs) (z2 : bs ≤ 9223372036854775807) :
    Calls Try.prog 4 #[.slice A0 n0 k0, .slice A1 n1 k1, .slice A2 n2 k2, .int .i64 bs, .int .i64 a, .int .i64 b] w (Ans (.bool true) w) := by
  have R0 := Lib.hid r0
  have R1 := Lib.hid r1
  have R2 := Lib.hid r2
  have HZ := Lib.hid (And.intro z1 z2)
  clear r0 r1 r2 z1 z2
  go_enter Try.func4, Try.ntmps4
  go_wp2_with fail
  refine (row_box A0 n0 k0 f0 w 5 20 5 20 rfl rfl (by omega) (by omega) (by omega) (by omega) R0.out (by omega)).mono ?_
  rintro e w1 ⟨L, B1, m1, d1, rfl, hL, hr1, hd1, h1a, h1b, k1⟩
  have htk1 : ticks L ≤ 80 := by
    have := fair_ticks hL
    rw [hr1.len] at this
    omega
  have HR1 := Lib.hid hr1
  have HK1 := Lib.hid k1
  clear hr1 k1 hL R0
  go_wp2_with fail
  refine (row_box A1 n1 _ f1 w1 5 20 5 20 rfl rfl (by omega) (by omega) (by omega) (by omega) ((R1.out.below HK1.out).more HK1.out.size) (by omega)).mono ?_
  rintro e w2 ⟨M, B2, m2, d2, rfl, hM, hr2, hd2, h2a, h2b, k2'⟩
  have htk2 : ticks M ≤ 80 := by
    have := fair_ticks hM
    rw [hr2.len] at this
    omega
  have HR2 := Lib.hid hr2
  have HR1' := Lib.hid (HR1.out.on k2')
  have HK2 := Lib.hid (HK1.out.trans (k2'.mono HK1.out.size))
  clear hr2 k2' hM R1 HR1 HK1
  go_wp2_with fail
  refine (within_at a _ 6 w2 rfl (by omega)).mono ?_
  rintro e _ ⟨N, hN, rfl, rfl⟩
  go_wp2_with fail
  refine (dependence_any N bs w2 (by omega) HZ.out.1 HZ.out.2).mono ?_
  intro e w3 hdep
  obtain ⟨A3, c3, rfl, hc3, hm3, k3⟩ := hdep.m
  have HM3 := Lib.hid hm3
  have HR13 := Lib.hid (HR1'.out.on k3)
  have HR23 := Lib.hid (HR2.out.on k3)
  have HK3 := Lib.hid (HK2.out.trans (k3.mono HK2.out.size))
  clear hdep hm3 k3 HR1' HR2 HK2
  go_wp2_with fail
  refine (turned_any B1 A2 m1 d1 n2 _ L f2 w3 HR13.out hd1 (by omega) ((R2.out.below HK3.out).more HK3.out.size) (by omega)).mono ?_
  rintro e w4 ⟨A4, c4, X, rfl, hr4, hc4, hp4, k4⟩
  have hlen : L.length = m1 := HR13.out.len
  have htk4 : ticks X ≤ 80 := by rw [perm_ticks hp4]; exact htk1
  rw [hlen] at hr4 hc4 ⊢
  have HRL := Lib.hid fun w' (hb : Below w4.heap.size w4 w') => (HR13.out.on k4).on hb
  have HRM := Lib.hid fun w' (hb : Below w4.heap.size w4 w') => (HR23.out.on k4).on hb
  have HRX := Lib.hid fun w' (hb : Below w4.heap.size w4 w') => hr4.on hb
  have HRD := Lib.hid fun w' (hb : Below w4.heap.size w4 w') => (HM3.out.on k4).on hb
  have HK4 := Lib.hid (HK3.out.trans (k4.mono HK3.out.size))
  have HLN := Lib.hid hlen
  clear hr4 hp4 k4 HR13 HR23 HM3 HK3 R2 hlen
  generalize depF bs = mm at HRD
  go_wp2_with fail
  refine (sam8_any H B1 A4 A3 m1 m1 N d1 c4 c3 L X mm _ _ w4 (HRL.out w4 (Below.refl _ _)) (HRX.out w4 (Below.refl _ _)) (HRD.out w4 (Below.refl _ _)) hd1 hc4 (by omega) (by omega) (by omega) (by omega) (by omega)).mono ?_
  rintro e w5 ⟨rfl, k5⟩
  go_wp2_with fail
  refine (sam8_any H B1 A4 A3 m1 m1 N d1 c4 c3 L X mm _ _ w5 (HRL.out w5 k5) (HRX.out w5 k5) (HRD.out w5 k5) hd1 hc4 (by omega) (by omega) (by omega) (by omega) (by omega)).mono ?_
  rintro e w6 ⟨rfl, hb6⟩
  have k6 := k5.trans (hb6.mono k5.size)
  clear k5 hb6
  go_wp2_with fail
  refine (sam8_any H B1 B2 A3 m1 m2 N d1 d2 c3 L M mm _ _ w6 (HRL.out w6 k6) (HRM.out w6 k6) (HRD.out w6 k6) hd1 hd2 (by omega) (by omega) (by omega) (by omega) (by omega)).mono ?_
  rintro e w7 ⟨rfl, hb7⟩
  have k7 := k6.trans (hb7.mono k6.size)
  clear k6 hb7
  have hbe := bl1 w7 (.cells #[] 31)
  have hown0 : OwnV 31 2 (w7.alloc (.cells #[] 31)) w7.heap.size (some ⟨w7.heap.size, 0, none⟩) 0 0 [] := ownV_lit w7 _ 2 w7.heap.size #[] 0 rfl (Nat.le_refl _) (by unfold maxLen; omega)
  have hrL := (HRL.out w7 k7).on hbe
  have hrM := (HRM.out w7 k7).on hbe
  obtain ⟨adL, _, rfl, _⟩ := hrL.at_ (i := 0) (by omega)
  obtain ⟨adM, _, rfl, _⟩ := hrM.at_ (i := 0) (by omega)
  have hle : w7.heap.size ≤ (w7.alloc (.cells #[] 31)).heap.size := hbe.size
  have hlL : (rs L).length = m1 * 2 := by rw [rs_length, HLN.out]
  have hlM : (rs M).length = m2 * 2 := by rw [rs_length, (HRM.out w7 k7).len]
  go_wp2_with (first
    | (at_builtin; go_loud (refine wpList_appXw elR (by rfl) (.tmp 58) (.tmp 59) rfl rfl w7.heap.size (some ⟨w7.heap.size, 0, none⟩) 0 0 [] rfl hown0 adL m1 d1 (rs L) _ rfl hrL.rd hlL (by omega) (rs_one _) (by omega) (by unfold maxLen; omega) hle m1 (Nat.zero_add _) (rs L) (List.nil_append _) ?_; intro A5 d5 w8 hw8 hb8 hg8; have hM8 := (HRM.out w7 k7).on (hbe.trans hb8)))
    | (at_builtin; go_loud (refine wpList_appXw elR (by rfl) (.tmp 60) (.tmp 61) rfl rfl w7.heap.size A5 m1 d5 (rs L) rfl hw8 adM m2 d2 (rs M) _ rfl hM8.rd hlM (by omega) (rs_one _) (by omega) (by unfold maxLen; omega) (Nat.le_trans hle hb8.size) (m1 + m2) rfl (rs (L ++ M)) (rs_append _ _).symm ?_; intro A6 d6 w9 hw9 hb9 hg9)))
  have hLM : (L ++ M).length = m1 + m2 := by rw [List.length_append, HLN.out, (HRM.out w7 k7).len]
  have htLM : ticks (L ++ M) ≤ 160 := by rw [ticks_append]; omega
  have hr9 : RdR w9 w9.heap.size A6 (m1 + m2) (L ++ M) := ⟨hLM, hw9.rd⟩
  have hc9 := hw9.cap
  have hbb : Below w7.heap.size w7 w9 := (hbe.trans hb8).trans hb9
  have k9 := k7.trans (hbb.mono k7.size)
  clear hw8 hb8 hg8 hM8 hw9 hb9 hg9 hbe hown0 hrL hrM hle hlL hlM hbb k7
  refine (sam8_any H A4 A6 A3 m1 (m1 + m2) N c4 d6 c3 X (L ++ M) mm _ _ w9 (HRX.out w9 k9) hr9 (HRD.out w9 k9) hc4 hc9 (by omega) (by omega) (by omega) (by omega) (by omega)).mono ?_
  rintro e w10 ⟨rfl, hb10⟩
  have k10 := k9.trans (hb10.mono k9.size)
  clear k9 hb10 hr9
  go_wp2_with fail
  refine (rtidy_any A4 m1 c4 X w10 (HRX.out w10 k10) hc4 (by omega) (by omega)).mono ?_
  rintro e w11 ⟨A7, c7, rfl, hr7, hc7, hb11, _⟩
  have k11 := k10.trans (hb11.mono k10.size)
  have htl := tidy_le X
  have htt := ticks_tidy X
  rw [(HRX.out w11 k11).len] at htl
  generalize tidy X = Z at hr7 hc7 htl htt ⊢
  clear k10 hb11
  go_wp2_with fail
  refine (sam8_any H (some adL) A7 A3 m1 Z.length N d1 c7 c3 L Z mm _ _ w11 (HRL.out w11 k11) hr7 (HRD.out w11 k11) hd1 hc7 (by omega) (by omega) (by omega) (by omega) (by omega)).mono ?_
  rintro e w12 ⟨rfl, hb12⟩
  have k12 := k11.trans (hb12.mono k11.size)
  clear k11 hb12 hr7
  go_wp2_with fail
  refine (known8_any H w12).mono ?_
  rintro e w13 ⟨rfl, hb13⟩
  have k13 := k12.trans (hb13.mono k12.size)
  go_wp2_with fail
  go_ret
  exact Ans.mk rfl (HK4.out.trans (k13.mono HK4.out.size))
end Go.Proofs.Ytcdgofdnafbacaa.wordTells
