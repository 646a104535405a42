/- WordOrder: whether two rows are the same to all goes both ways, and on; a row that is tidied is the same; with more dependences fewer are (the walk; what package word answers is a premise). -/
import Derived.Test.YtcdgofdnafbacaaLow1
import Derived.Test.YtcdgofdnafbacaaWkno
import Derived.Test.YtcdgofdnafbacaaWlaw
import Derived.Test.YtcdgofdnafbacaaWtur
namespace Go.Proofs.Ytcdgofdnafbacaa.wordOrder
open Go.ChangeShapes Go.WideShapes Go.ChangeAt Go.RowKit Tab
set_option linter.unusedSimpArgs false
set_option linter.unusedVariables false

theorem perm_ticks {X L : List Rn} (h : X.Perm L) : ticks X = ticks L := by
  induction h with
  | nil => rfl
  | cons x _ ih => simp [ticks] at ih ⊢; omega
  | swap x y l => simp [ticks]; omega
  | trans _ _ h1 h2 => rw [h1, h2]
theorem or_range (b c : Int) : -9223372036854775808 ≤ bits BinOp.or IntKind.i64 b c ∧ bits BinOp.or IntKind.i64 b c ≤ 9223372036854775807 := by
  have h : bits BinOp.or IntKind.i64 b c = IntKind.i64.wrap ((BitVec.ofInt 64 b ||| BitVec.ofInt 64 c).toNat : Int) := rfl
  rw [h]
  generalize ((BitVec.ofInt 64 b ||| BitVec.ofInt 64 c).toNat : Int) = z
  have hb : IntKind.i64.bits = 64 := rfl
  have hs : IntKind.i64.signed = true := rfl
  unfold IntKind.wrap
  dsimp only
  rw [hb, hs]
  split <;> rename_i hc <;> simp at hc <;> omega
set_option maxRecDepth 100000 in
set_option maxHeartbeats 4000000 in
theorem walk (H : WordW) (A0 : Option Addr) (n0 k0 : Nat) (f0 : Nat → Int) (A1 : Option Addr) (n1 k1 : Nat) (f1 : Nat → Int) (A2 : Option Addr) (n2 k2 : Nat) (f2 : Nat → Int) (bs more : Int) (w : World)
    (r0 : RdC w w.heap.size A0 n0 fun j => .int .i64 (f0 j)) (r1 : RdC w w.heap.size A1 n1 fun j => .int .i64 (f1 j)) (r2 : RdC w w.heap.size A2 n2 fun j => .int .i64 (f2 j)) (c0 : n0 ≤ k0) (c1 : n1 ≤ k1) (c2 : n2 ≤ k2) (b0 : k0 ≤ 140737488351232) (b1 : k1 ≤ 140737488351232) (b2 : k2 ≤ 140737488351232)
    (z1 : -9223372036854775808 ≤ bs) (z2 : bs ≤ 9223372036854775807) :
    Calls Try.prog 6 #[.slice A0 n0 k0, .slice A1 n1 k1, .slice A2 n2 k2, .int .i64 bs, .int .i64 more] w (Ans (.bool true) w) := by
  have R0 := Lib.hid r0
  have R1 := Lib.hid r1
  have R2 := Lib.hid r2
  have HZ := Lib.hid (And.intro z1 z2)
  have HOR := Lib.hid (or_range bs more)
  clear r0 r1 r2 z1 z2
  go_enter Try.func6, Try.ntmps6
  go_wp2_with fail
  refine (row_box A0 n0 k0 f0 w 4 14 4 14 rfl rfl (by omega) (by omega) (by omega) (by omega) R0.out (by omega)).mono ?_
  rintro e w1 ⟨L, B1, m1, d1, rfl, hL, hr1, hd1, h1a, h1b, k1'⟩
  have htk : ticks L ≤ 56 := by
    have := fair_ticks hL
    rw [hr1.len] at this
    omega
  have hlen : L.length = m1 := hr1.len
  have HR1 := Lib.hid hr1
  have HK1 := Lib.hid k1'
  clear hr1 k1' hL R0
  go_wp2_with fail
  refine (turned_any B1 A1 m1 d1 n1 _ L f1 w1 HR1.out hd1 (by omega) ((R1.out.below HK1.out).more HK1.out.size) (by omega)).mono ?_
  rintro e w2 ⟨A4, c4, X, rfl, hr4, hc4, hp4, k4⟩
  have htx : ticks X ≤ 56 := by rw [perm_ticks hp4]; exact htk
  have hlx : X.length = m1 := by rw [hp4.length_eq, hlen]
  rw [hlen] at hr4 hc4 ⊢
  have HR4 := Lib.hid hr4
  have HR1' := Lib.hid (HR1.out.on k4)
  have HK2 := Lib.hid (HK1.out.trans (k4.mono HK1.out.size))
  clear hr4 k4 hp4 R1 HR1 HK1
  go_wp2_with fail
  refine (turned_any A4 A2 m1 c4 n2 _ X f2 w2 HR4.out hc4 (by omega) ((R2.out.below HK2.out).more HK2.out.size) (by omega)).mono ?_
  rintro e w3 ⟨A5, c5, Y, rfl, hr5, hc5, hp5, k5⟩
  have hty : ticks Y ≤ 56 := by rw [perm_ticks hp5]; exact htx
  rw [hlx] at hr5 hc5 ⊢
  have HR5 := Lib.hid hr5
  have HR4' := Lib.hid (HR4.out.on k5)
  have HR1'' := Lib.hid (HR1'.out.on k5)
  have HK3 := Lib.hid (HK2.out.trans (k5.mono HK2.out.size))
  clear hr5 k5 hp5 R2 HR1' HR4 HK2
  go_wp2_with fail
  refine (dependence_any 4 bs w3 (by omega) HZ.out.1 HZ.out.2).mono ?_
  intro e w4 hdep
  obtain ⟨A6, c6, rfl, hc6, hm6, k6⟩ := hdep.m
  have HM6 := Lib.hid hm6
  have HK4 := Lib.hid k6
  clear hdep hm6 k6
  go_wp2_with fail
  refine (dependence_any 4 (bits BinOp.or IntKind.i64 bs more) w4 (by omega) HOR.out.1 HOR.out.2).mono ?_
  intro e w5 hdep
  obtain ⟨A7, c7, rfl, hc7, hm7, k7⟩ := hdep.m
  have k35 := HK4.out.trans (k7.mono HK4.out.size)
  have HRL := Lib.hid fun w' (hb : Below w5.heap.size w5 w') => (HR1''.out.on k35).on hb
  have HRX := Lib.hid fun w' (hb : Below w5.heap.size w5 w') => (HR4'.out.on k35).on hb
  have HRY := Lib.hid fun w' (hb : Below w5.heap.size w5 w') => (HR5.out.on k35).on hb
  have HRD := Lib.hid fun w' (hb : Below w5.heap.size w5 w') => (HM6.out.on k7).on hb
  have HRE := Lib.hid fun w' (hb : Below w5.heap.size w5 w') => hm7.on hb
  have HK5 := Lib.hid (HK3.out.trans (k35.mono HK3.out.size))
  clear hdep hm7 k7 k35 HM6 HK4 HR1'' HR4' HR5 HK3
  have SXY : Hid (∀ w', Below w5.heap.size w5 w' → Calls Try.prog 19 #[.slice A4 m1 c4, .slice A5 m1 c5, .slice A6 4 c6] w' (Ans (.bool (sameD 4 (depF bs) X Y)) w')) := Lib.hid fun w' hb => H.same A4 A5 A6 m1 m1 4 c4 c5 c6 X Y (depF bs) w' (HRX.out w' hb) (HRY.out w' hb) (HRD.out w' hb) hc4 hc5 (by omega) (by omega) (by omega) (by omega) (by omega)
  have SLX : Hid (∀ w', Below w5.heap.size w5 w' → Calls Try.prog 19 #[.slice B1 m1 d1, .slice A4 m1 c4, .slice A6 4 c6] w' (Ans (.bool (sameD 4 (depF bs) L X)) w')) := Lib.hid fun w' hb => H.same B1 A4 A6 m1 m1 4 d1 c4 c6 L X (depF bs) w' (HRL.out w' hb) (HRX.out w' hb) (HRD.out w' hb) hd1 hc4 (by omega) (by omega) (by omega) (by omega) (by omega)
  have SLY : Hid (∀ w', Below w5.heap.size w5 w' → Calls Try.prog 19 #[.slice B1 m1 d1, .slice A5 m1 c5, .slice A6 4 c6] w' (Ans (.bool (sameD 4 (depF bs) L Y)) w')) := Lib.hid fun w' hb => H.same B1 A5 A6 m1 m1 4 d1 c5 c6 L Y (depF bs) w' (HRL.out w' hb) (HRY.out w' hb) (HRD.out w' hb) hd1 hc5 (by omega) (by omega) (by omega) (by omega) (by omega)
  have SXL : Hid (∀ w', Below w5.heap.size w5 w' → Calls Try.prog 19 #[.slice A4 m1 c4, .slice B1 m1 d1, .slice A6 4 c6] w' (Ans (.bool (sameD 4 (depF bs) L X)) w')) := Lib.hid fun w' hb => by
    rw [sameD_sym]
    exact H.same A4 B1 A6 m1 m1 4 c4 d1 c6 X L (depF bs) w' (HRX.out w' hb) (HRL.out w' hb) (HRD.out w' hb) hc4 hd1 (by omega) (by omega) (by omega) (by omega) (by omega)
  have SAL : Hid (∀ w', Below w5.heap.size w5 w' → Calls Try.prog 19 #[.slice B1 m1 d1, .slice A4 m1 c4, .slice A7 4 c7] w' (Ans (.bool (sameD 4 (depF (bits BinOp.or IntKind.i64 bs more)) L X)) w')) := Lib.hid fun w' hb => H.same B1 A4 A7 m1 m1 4 d1 c4 c7 L X _ w' (HRL.out w' hb) (HRX.out w' hb) (HRE.out w' hb) hd1 hc4 (by omega) (by omega) (by omega) (by omega) (by omega)
  have hon : sameD 4 (depF bs) L X = true → sameD 4 (depF bs) X Y = true → sameD 4 (depF bs) L Y = true := fun h1 h2 => sameD_on h1 h2
  have hmo : sameD 4 (depF (bits BinOp.or IntKind.i64 bs more)) L X = true → sameD 4 (depF bs) L X = true := sameD_more
  have htl := tidy_le L
  have htt := ticks_tidy L
  have hst := sameD_tidy 4 (depF bs) L
  have HT := Lib.hid fun w' (hb : Below w5.heap.size w5 w') => rtidy_any B1 m1 d1 L w' (HRL.out w' hb) hd1 (by omega) (by omega)
  generalize tidy L = Z at htl htt hst HT
  have SLT : Hid (∀ w' A8 c8, Below w5.heap.size w5 w' → RdR w' w'.heap.size A8 Z.length Z → Z.length ≤ c8 → Calls Try.prog 19 #[.slice B1 m1 d1, .slice A8 Z.length c8, .slice A6 4 c6] w' (Ans (.bool true) w')) := Lib.hid fun w' A8 c8 hb hr hc => by
    rw [← hst]
    exact H.same B1 A8 A6 m1 Z.length 4 d1 c8 c6 L Z (depF bs) w' (HRL.out w' hb) hr (HRD.out w' hb) hd1 hc (by omega) (by omega) (by omega) (by omega) (by omega)
  clear hst
  generalize sameD 4 (depF bs) L X = lx at SLX SXL hon hmo
  generalize sameD 4 (depF bs) X Y = xy at SXY hon
  generalize sameD 4 (depF bs) L Y = ly at SLY hon
  generalize sameD 4 (depF (bits BinOp.or IntKind.i64 bs more)) L X = la at SAL hmo
  have HH : Hid (WordW) := Lib.hid H
  clear H HRL HRX HRY HRD HRE htk htx hty hlen hlx htl htt HZ HOR
  go_wp2_with fail
  refine (SXY.out w5 (Below.refl _ _)).mono ?_
  rintro e w6 ⟨rfl, k6⟩
  go_wp2_with fail
  refine (SLX.out w6 k6).mono ?_
  rintro e w7 ⟨rfl, hb7⟩
  have k7 := k6.trans (hb7.mono k6.size)
  clear k6 hb7
  go_wp2_with fail
  refine (SLY.out w7 k7).mono ?_
  rintro e w8 ⟨rfl, hb8⟩
  have k8 := k7.trans (hb8.mono k7.size)
  clear k7 hb8
  go_wp2_with fail
  refine (HT.out w8 k8).mono ?_
  rintro e w9 ⟨A8, c8, rfl, hr8, hc8, hb9, _⟩
  have k9 := k8.trans (hb9.mono k8.size)
  have HX9 := Lib.hid (SLT.out w9 A8 c8 k9 hr8 hc8)
  clear k8 hb9 hr8
  go_wp2_with fail
  refine HX9.out.mono ?_
  rintro e w10 ⟨rfl, hb10⟩
  have k10 := k9.trans (hb10.mono k9.size)
  clear k9 hb10 HX9
  go_wp2_with fail
  refine (SXL.out w10 k10).mono ?_
  rintro e w11 ⟨rfl, hb11⟩
  have k11 := k10.trans (hb11.mono k10.size)
  clear k10 hb11
  have hcase : (lx = false ∧ la = false) ∨ (lx = true ∧ xy = false ∧ la = false) ∨ (lx = true ∧ xy = false ∧ la = true) ∨ (lx = true ∧ xy = true ∧ ly = true ∧ la = false) ∨ (lx = true ∧ xy = true ∧ ly = true ∧ la = true) := by
    cases lx <;> cases xy <;> cases ly <;> cases la <;> simp_all
  clear hon hmo
  rcases hcase with ⟨rfl, rfl⟩ | ⟨rfl, rfl, rfl⟩ | ⟨rfl, rfl, rfl⟩ | ⟨rfl, rfl, rfl, rfl⟩ | ⟨rfl, rfl, rfl, rfl⟩
  all_goals
    go_wp2_with fail
    refine (SAL.out w11 k11).mono ?_
    rintro e w12 ⟨rfl, hb12⟩
    have k12 := k11.trans (hb12.mono k11.size)
    clear k11 hb12
    go_wp2_with fail
    refine (known8_any HH.out w12).mono ?_
    rintro e w13 ⟨rfl, hb13⟩
    have k13 := k12.trans (hb13.mono k12.size)
    go_wp2_with fail
    go_ret
    exact Ans.mk rfl (HK5.out.trans (k13.mono HK5.out.size))
end Go.Proofs.Ytcdgofdnafbacaa.wordOrder
