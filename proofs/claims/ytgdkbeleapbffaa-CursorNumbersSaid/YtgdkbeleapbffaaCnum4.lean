/- CursorNumbers: chapter 4's runs, tables of forty tapes, tick by tick, leaf by leaf, and mixed: the program's cursors go through them as the document says. -/
import Derived.Test.YtgdkbeleapbffaaFrameN
import Derived.Test.YtgdkbeleapbffaaAny
import Derived.Test.YtgdkbeleapbffaaTape4
namespace Go.Proofs.Ytgdkbeleapbffaa.cursorNumbers
open Go.ChangeShapes Go.WideShapes Go.ChangeAt Go.RowKit Tab
set_option linter.unusedSimpArgs false
set_option linter.unusedVariables false

/-- A new row of numbers. -/
theorem rdC_lit (w : World) (C : Array Value) (L : List Int) (n : Nat) (hn : L.length = n) (hC : C.toList = is L) : RdC (w.alloc (.cells C 3)) (w.alloc (.cells C 3)).heap.size (some ⟨w.heap.size, 0, none⟩) n fun j => .int .i64 (L.getD j 0) := fun h0 => by
  obtain ⟨ad, e, hlt, hc⟩ := rdV_new w C 3 (is L) hC (by rw [is_length]; omega)
  refine ⟨ad, e, hlt, fun j hj => hc j _ ?_⟩
  have hj' : j < L.length := by omega
  simp [is, hj']
theorem make_300 (W : World) : (Instr.makeSlice 24 (.int .i64 300) (.int .i64 300)).run Try.prog W = .ok (.slice (some ⟨W.heap.size, 0, none⟩) 300 300) (W.alloc (.cells (madeCells #[.int .i64 0] 300) 3)) := run_makeI 300 (by omega) W
set_option maxRecDepth 100000 in
set_option maxHeartbeats 8000000 in
theorem walk (w : World)  :
    Calls Try.prog 3 #[] w (Ans (.bool true) w) := by
  obtain ⟨Z, hZ⟩ : ∃ Z, Z = madeCells #[Value.int .i64 0] 300 := ⟨_, rfl⟩
  have hmk := make_300
  rw [← hZ] at hmk
  have HZ : Hid (Z.toList = is (List.replicate 300 0)) := Lib.hid (by rw [hZ]; exact made_ints 300)
  clear hZ
  go_enter Try.func3, Try.ntmps3
  go_wp2_with fail
  obtain ⟨m, hm⟩ : ∃ m : Nat, (40 : Int) = (m : Int) := ⟨40, rfl⟩
  have hm1 : m ≤ 40 := by omega
  rw [hm]
  clear hm
  go_loopw [1] (fun s wr => ∃ k : Nat, k ≤ m ∧ s = .int .i64 k ∧ Below w.heap.size w wr) (fun s _ => m - (intOf s).toNat)
  case atStart => exact ⟨0, by omega, rfl, Below.refl _ _⟩
  case round =>
    obtain ⟨k, hk, rfl, hb⟩ := hrel
    by_cases hlt : k < m
    · go_wp2_with fail
      refine (tape_any k wr (by omega)).mono ?_
      rintro e w1 ⟨A1, n1, c1, f1, rfl, hr1, hn1, hb1⟩
      have k1 := hb.trans (hb1.mono hb.size)
      go_wp2_with fail
      refine (table_box A1 n1 c1 f1 w1 3 _ 3 (k % 5) rfl (by omega) (by omega) (by omega) (by omega) hr1 (by omega)).mono ?_
      rintro e w2 ⟨x, kk, A2, n2, c2, rfl, hok, hr2, hc2, hsz, hb2⟩
      have k2 := k1.trans (hb2.mono k1.size)
      have hlen : (x :: kk.flat).length = n2 := hr2.len
      have hX : 5 ^ (k % 5 + 1) ≤ 5 ^ 5 := Nat.pow_le_pow_right (by omega) (by omega)
      have hn2 : n2 ≤ 3125 := by simp only [List.length_cons, F.flat_length] at hlen; omega
      have hPL := fun (As : Option Addr) (ns cs : Nat) (f : Nat → Int) (w' : World) (h : RdN w' w'.heap.size A2 n2 (x :: kk.flat)) (h1 : RdC w' w'.heap.size As ns fun j => .int .i64 (f j)) (h2 : ns ≤ cs) (h3 : ns ≤ 140737488351232) => play_tree A2 n2 c2 x kk As ns cs f w' h hc2 hok (by omega) h1 h2 h3
      have HPL := Lib.hid hPL
      clear hPL hb hb1 hb2 k1 hr1 hX hsz hok hlen
      generalize x :: kk.flat = l at hr2 HPL
      go_wp2_with fail
      refine (HPL.out none 0 0 (fun _ => 0) w2 hr2 (fun h => absurd h (by omega)) (Nat.le_refl _) (by omega)).mono ?_
      rintro e w3 ⟨rfl, hb3⟩
      have k3 := k2.trans (hb3.mono k2.size)
      have r3 := hr2.on hb3
      clear hb3 k2 hr2
      have hb4 := bl1 w3 (.cells Z 3)
      go_wp2_with fail
      refine (HPL.out _ 300 300 _ _ (r3.on hb4) (rdC_lit w3 Z _ 300 (by simp) HZ.out) (Nat.le_refl _) (by omega)).mono ?_
      rintro e w5 ⟨rfl, hb5⟩
      have t5 := hb4.trans (hb5.mono hb4.size)
      have k5 := k3.trans (t5.mono k3.size)
      have r5 := r3.on t5
      clear hb4 hb5 t5 k3 r3
      have hb6 := bl1 w5 (.cells #[.int .i64 0, .int .i64 1, .int .i64 1, .int .i64 0, .int .i64 2, .int .i64 0, .int .i64 0, .int .i64 1] 3)
      go_wp2_with fail
      refine (HPL.out _ 8 8 _ _ (r5.on hb6) (rdC_lit w5 #[.int .i64 0, .int .i64 1, .int .i64 1, .int .i64 0, .int .i64 2, .int .i64 0, .int .i64 0, .int .i64 1] [0, 1, 1, 0, 2, 0, 0, 1] 8 rfl rfl) (Nat.le_refl _) (by omega)).mono ?_
      rintro e w7 ⟨rfl, hb7⟩
      have t7 := hb6.trans (hb7.mono hb6.size)
      have k7 := k5.trans (t7.mono k5.size)
      clear hb6 hb7 t7 k5 r5
      go_wp2_with fail
      go_roundw
      case rel => exact ⟨k + 1, by omega, by go_num, k7⟩
      case measure => simp [intOf]; omega
    · have hge : m ≤ k := by omega
      have hb1 := bl1 wr (.cells #[.int .i64 3, .int .i64 0, .int .i64 1] 31)
      have hr1 := RdN.lit wr #[.int .i64 3, .int .i64 0, .int .i64 1] [⟨3, 0, 1⟩] 1 rfl rfl (by intro x hx; simp at hx; subst hx; exact ndIn_mk (by omega) (by omega) (by omega))
      go_wp2_with fail
      refine (play_row _ 1 1 _ none 0 0 (fun _ => 0) _ hr1 (Nat.le_refl _) (by omega) (fun h => absurd h (by omega)) (Nat.le_refl _) (by omega)).mono ?_
      rintro e w2 ⟨rfl, hb2⟩
      have t2 := hb1.trans (hb2.mono hb1.size)
      have k2 := hb.trans (t2.mono hb.size)
      clear hb1 hb2 t2 hr1
      have hb3 := bl1 w2 (.cells #[.int .i64 1, .int .i64 3, .int .i64 2] 31)
      have hr3 := RdN.lit w2 #[.int .i64 1, .int .i64 3, .int .i64 2] (⟨1, 3, 2⟩ :: F.nil.flat) 1 rfl rfl (by intro x hx; simp [F.flat] at hx; subst hx; exact ndIn_mk (by omega) (by omega) (by omega))
      have hP := part_right _ 1 1 ⟨1, 3, 2⟩ .nil 2 _ hr3 (Nat.le_refl _) ⟨by decide, rfl, trivial, trivial⟩ (by omega) (by decide) (by decide)
      have e3 : whoAt (one ⟨1, 3, 2⟩ F.nil.lvs) 2 = -1 := by decide
      rw [e3] at hP
      have HP := Lib.hid hP
      clear hP hr3 e3
      go_wp2_with fail
      refine HP.out.mono ?_
      rintro e w4 ⟨rfl, hb4⟩
      have t4 := hb3.trans (hb4.mono hb3.size)
      have k4 := k2.trans (t4.mono k2.size)
      clear hb3 hb4 t4 HP
      have hb5 := bl1 w4 (.cells #[.int .i64 1, .int .i64 3, .int .i64 2] 31)
      have hr5 := RdN.lit w4 #[.int .i64 1, .int .i64 3, .int .i64 2] (⟨1, 3, 2⟩ :: F.nil.flat) 1 rfl rfl (by intro x hx; simp [F.flat] at hx; subst hx; exact ndIn_mk (by omega) (by omega) (by omega))
      have hP := part_right _ 1 1 ⟨1, 3, 2⟩ .nil (-1) _ hr5 (Nat.le_refl _) ⟨by decide, rfl, trivial, trivial⟩ (by omega) (by decide) (by decide)
      have e5 : whoAt (one ⟨1, 3, 2⟩ F.nil.lvs) (-1) = -1 := by decide
      rw [e5] at hP
      have HP := Lib.hid hP
      clear hP hr5 e5
      go_wp2_with fail
      refine HP.out.mono ?_
      rintro e w6 ⟨rfl, hb6⟩
      have t6 := hb5.trans (hb6.mono hb5.size)
      have k6 := k4.trans (t6.mono k4.size)
      clear hb5 hb6 t6 HP
      go_wp2_with fail
      refine (known_any w6).mono ?_
      rintro e w7 ⟨rfl, hb7⟩
      go_wp2_with fail
      go_ret
      exact Ans.mk rfl (k6.trans (hb7.mono k6.size))

set_option maxRecDepth 100000 in
theorem lifted (os : Os) (started : os.Started) (H : Type) (enc : TypeId × Value → H) :
    ReturnsInHanded {} Try.checked os 3 .any (Rows.cursorNumbersSpec.pre6 enc Try.prog Try.f3 Rows.cursorNumbersRow.domain false) (Rows.cursorNumbersSpec.post enc Try.prog Try.f3 false true false false) := by
  refine returnsInHanded_of_change_sized (C := Try.checked) own started (by kernel_rfl) Try.func3
    (ChangeSpec.witness6 (enc := enc) (C := Try.checked) false ⟨#[], #[], []⟩ 8 (by kernel_rfl) (by kernel_rfl) (by kernel_rfl) (by kernel_rfl)) ?_
  intro W base args ds gs before hval0 hW hcnd hsz0 _
  have hval : ∀ (j : Nat) t v, Try.f3.params[j]? = some t → args[j]? = some v → Value.okWide Try.prog W .any base t v := hval0
  have hW' := hW
  obtain ⟨p, q, hA0, hV, rfl, hfz, hnd⟩ := hW
  have hA : DataW.TrodAll enc Try.prog W 0 (fun _ => true) true Try.f3.params.toList args.toList ds p := hA0
  rw [Try.params3] at hA hval
  obtain ⟨rfl, rfl, rfl⟩ := trodAll_none hA
  obtain ⟨rfl, rfl⟩ := trodVars_none hV
  clear hA0 hval0
  refine (walk  W ).mono fun e W' ⟨he, bel⟩ => ?_
  subst he
  exact ⟨_, rfl, _, _, _, [], _, [], hW', trodAll_mk1 (shut_bool Try.underlying4 _), trodAll_mk0, rfl, bel.frame _, fun h => by cases h⟩

theorem proved : Rows.CursorNumbersSaid :=
  OpenClaim.holds_of_wide 3 Try.f3 rfl rfl rfl rfl rfl rfl rfl ⟨rfl, rfl, rfl, rfl, rfl⟩ rfl rfl rfl rfl rfl (by kernel_rfl) Try.func3 (by kernel_rfl)
    (of_decide_eq_true (by kernel_rfl)) (by unfold Func.isWrapper; first | (rw [if_pos (by decide +kernel)]; kernel_rfl) | (rw [if_neg (by decide +kernel)]; exact ⟨rfl, rfl⟩))
    (fun os started H enc _ => lifted os started H enc)

end Go.Proofs.Ytgdkbeleapbffaa.cursorNumbers
