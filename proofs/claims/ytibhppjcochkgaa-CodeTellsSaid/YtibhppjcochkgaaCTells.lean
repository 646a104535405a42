/- CodeTells: for any bytes, any number, any text, any cut and any bound, package code writes and reads what the document says. -/
import Derived.Test.YtibhppjcochkgaaFrame
import Derived.Test.YtibhppjcochkgaaReads
namespace Go.Proofs.Ytibhppjcochkgaa.codeTells
open Go.ChangeShapes Go.WideShapes Go.ChangeAt Go.RowKit
set_option linter.unusedSimpArgs false
set_option linter.unusedVariables false

theorem add_at (g k : Nat) : (⟨g, 0, none⟩ : Addr).add k = ⟨g, k, none⟩ := by unfold Addr.add; split <;> simp_all
theorem shr_bd (a : Int) (m : Nat) (h1 : -9223372036854775808 ≤ a) (h2 : a ≤ 9223372036854775807) : -9223372036854775808 ≤ a / 2 ^ m ∧ a / 2 ^ m ≤ 9223372036854775807 := by
  have hp : (1 : Int) ≤ 2 ^ m := by
    have := Nat.two_pow_pos m
    have e : ((2 ^ m : Nat) : Int) = (2 : Int) ^ m := by simp
    omega
  generalize (2 : Int) ^ m = d at hp ⊢
  rcases Int.lt_or_le a 0 with h | h
  · have e1 : a * d ≤ a := by
      have := Int.mul_le_mul_of_nonpos_left (a := a) (b := d) (c := 1) (by omega) (by omega)
      omega
    have e2 := Int.le_ediv_of_mul_le (by omega) e1
    have e3 := Int.ediv_neg_of_neg_of_pos h (show 0 < d by omega)
    omega
  · have := Int.ediv_le_self d h
    have := Int.ediv_nonneg h (show 0 ≤ d by omega)
    omega
set_option maxRecDepth 100000 in
set_option maxHeartbeats 1000000 in
theorem walk (A0 : Option Addr) (n0 k0 : Nat) (l0 : List UInt8) (a1 : Int) (s2 : ByteArray) (a3 : Int) (a4 : Int) (w : World) (r0 : Rd w w.heap.size A0 n0 l0) (c0 : n0 ≤ k0) (b0 : k0 ≤ 140737488351232) (w1 : (Lit.int .i64 a1).wf = true) (b2 : s2.size ≤ 140737488351232) (w3 : (Lit.int .i64 a3).wf = true) (w4 : (Lit.int .i64 a4).wf = true) :
    Calls Try.prog 4 #[.slice A0 n0 k0, .int .i64 a1, .string s2, .int .i64 a3, .int .i64 a4] w (Yes w) := by
  obtain ⟨hz1, hz2⟩ : -9223372036854775808 ≤ a1 ∧ a1 ≤ 9223372036854775807 := by simpa using bounds_i64 w1
  clear w1 w3 w4
  have hw8 := Num.wid_int a1 hz1 hz2
  by_cases h200 : 200 < s2.size
  · go_enter Try.func4, Try.ntmps4
    go_wp2_with fail
    have hsx : (s2.extract 0 200).size ≤ 200 := by simp; omega
    generalize s2.extract 0 200 = sx at hsx ⊢
    have hb0 : sx.size ≤ 200 := hsx
    have hw9 := wid_size sx.size (by omega)
    refine (rput_any none 0 0 [] a1 w (rd_nil _ _) (by omega) hz1 hz2).mono ?_
    rintro e w1 ⟨A1, c1, rfl, hw1, hb1⟩
    go_wp2_with fail
    refine (rtext_any A1 _ c1 _ sx w1 hw1.rd (by omega)).mono ?_
    rintro e w2 ⟨A2, c2, rfl, hw2, hb2⟩
    have k2 : Below w.heap.size w w2 := hb1.trans (hb2.mono hb1.size)
    have q2 := k2.size
    have q1 := hb1.size
    obtain ⟨N, hN⟩ : ∃ N, 0 + 1 + Num.wid a1.natAbs + 1 + Num.wid sx.size + sx.size + n0 = N := ⟨_, rfl⟩
    have hN1 : N ≤ 140737488355328 := by omega
    have hN2 : 1 ≤ N := by omega
    obtain ⟨L, hL⟩ : ∃ L, [] ++ Num.enc a1 ++ Num.enc sx.size ++ sx.data.toList ++ l0 = L := ⟨_, rfl⟩
    have HN := Lib.hid hN
    have HL := Lib.hid hL
    clear hN hL
    go_wp2_with (at_builtin; refine wpList_app rfl (.tmp 21) (.tmp 22) rfl rfl w1.heap.size A2 _ c2 _ rfl hw2 A0 n0 k0 l0 w.heap.size rfl (r0.below k2) N HN.out L HL.out hN1 (by have := hb2.size; omega) ?_; intro A3 c3 w3 hw3 hb3)
    have k3 : Below w.heap.size w w3 := k2.trans (hb3.mono q1)
    have q3 := k3.size
    have hx : Rd w3 w3.heap.size A3 N L := hw3.rd
    have hc3 : N ≤ c3 := hw3.cap
    obtain ⟨g, rfl, hg⟩ := hw3.at_ hN2
    clear hw3 hb3 hw2
    refine (within_at a3 _ N w3 rfl (by omega)).mono ?_
    rintro e w' ⟨k, hk, rfl, rfl⟩
    go_wp2_with fail
    refine (puts_any A0 n0 k0 l0 a1 sx w3 ((r0.below k3).more q3) (by omega) hz1 hz2).mono ?_
    rintro e w4 ⟨rfl, hb4⟩
    have k4 := k3.trans (hb4.mono q3)
    have q4 := k4.size
    go_wp2_with fail
    obtain ⟨hm1, hm2⟩ := shr_bd a1 (min (IntKind.u64.wrap (bits BinOp.and IntKind.i64 a1 63)).toNat 64) hz1 hz2
    refine (puts_any A0 n0 k0 l0 _ sx w4 ((r0.below k4).more q4) (by omega) hm1 hm2).mono ?_
    rintro e w5 ⟨rfl, hb5⟩
    have k5 := k4.trans (hb5.mono q4)
    have q5 := k5.size
    clear hm1 hm2
    go_wp2_with fail
    refine (reads_any A0 n0 k0 l0 a4 w5 ((r0.below k5).more q5) (by omega) c0).mono ?_
    rintro e w6 ⟨rfl, hb6⟩
    have k6 := k5.trans (hb6.mono q5)
    have q6 := k6.size
    have j6 : Below w3.heap.size w3 w6 := hb4.trans ((hb5.mono hb4.size).trans (hb6.mono (hb4.trans (hb5.mono hb4.size)).size))
    have x6 : Rd w6 w6.heap.size (some ⟨g, 0, none⟩) N L := (hx.below j6).more j6.size
    clear hx j6
    go_wp2_with fail
    refine (reads_any _ N c3 L _ w6 x6 hN1 hc3).mono ?_
    rintro e w7 ⟨rfl, hb7⟩
    have k7 := k6.trans (hb7.mono q6)
    have q7 := k7.size
    have x7 : Rd w7 w7.heap.size (some ⟨g, 0, none⟩) N L := (x6.below hb7).more hb7.size
    clear x6
    have hkc : k ≤ c3 := by omega
    by_cases hck : c3 = k
    · subst hck
      obtain rfl : c3 = N := by omega
      go_wp2_with fail
      refine (reads_any _ c3 c3 (L.take c3) _ w7 (x7.front c3 hk) (by omega) hkc).mono ?_
      rintro e w8 ⟨rfl, hb8⟩
      have k8 := k7.trans (hb8.mono q7)
      have q8 := k8.size
      have x8 : Rd w8 w8.heap.size (some ⟨g, 0, none⟩) c3 L := (x7.below hb8).more hb8.size
      clear x7
      go_wp2_with fail
      refine (reads_any _ 0 0 [] a4 w8 ⟨rfl, fun h => absurd h (by omega)⟩ (by omega) (by omega)).mono ?_
      rintro e w9 ⟨rfl, hb9⟩
      have k9 := k8.trans (hb9.mono q8)
      have q9 := k9.size
      go_wp2_with fail
      refine (known_any w9).mono ?_
      rintro e w10 ⟨rfl, hb10⟩
      have k10 := k9.trans (hb10.mono q9)
      go_wp2_with fail
      go_ret
      exact ⟨rfl, k10⟩
    · go_wp2_with fail
      refine (reads_any _ k c3 (L.take k) _ w7 (x7.front k hk) (by omega) hkc).mono ?_
      rintro e w8 ⟨rfl, hb8⟩
      have k8 := k7.trans (hb8.mono q7)
      have q8 := k8.size
      have x8 : Rd w8 w8.heap.size (some ⟨g, 0, none⟩) N L := (x7.below hb8).more hb8.size
      clear x7
      go_wp2_with fail
      refine (reads_any _ (N - k) (c3 - k) (L.drop k) a4 w8 (by have := x8.back k (N - k) (by omega); rwa [add_at g k] at this) (by omega) (by omega)).mono ?_
      rintro e w9 ⟨rfl, hb9⟩
      have k9 := k8.trans (hb9.mono q8)
      have q9 := k9.size
      go_wp2_with fail
      refine (known_any w9).mono ?_
      rintro e w10 ⟨rfl, hb10⟩
      have k10 := k9.trans (hb10.mono q9)
      go_wp2_with fail
      go_ret
      exact ⟨rfl, k10⟩

  · go_enter Try.func4, Try.ntmps4
    go_wp2_with fail
    have hb0 : s2.size ≤ 200 := by omega
    have hw9 := wid_size s2.size (by omega)
    refine (rput_any none 0 0 [] a1 w (rd_nil _ _) (by omega) hz1 hz2).mono ?_
    rintro e w1 ⟨A1, c1, rfl, hw1, hb1⟩
    go_wp2_with fail
    refine (rtext_any A1 _ c1 _ s2 w1 hw1.rd (by omega)).mono ?_
    rintro e w2 ⟨A2, c2, rfl, hw2, hb2⟩
    have k2 : Below w.heap.size w w2 := hb1.trans (hb2.mono hb1.size)
    have q2 := k2.size
    have q1 := hb1.size
    obtain ⟨N, hN⟩ : ∃ N, 0 + 1 + Num.wid a1.natAbs + 1 + Num.wid s2.size + s2.size + n0 = N := ⟨_, rfl⟩
    have hN1 : N ≤ 140737488355328 := by omega
    have hN2 : 1 ≤ N := by omega
    obtain ⟨L, hL⟩ : ∃ L, [] ++ Num.enc a1 ++ Num.enc s2.size ++ s2.data.toList ++ l0 = L := ⟨_, rfl⟩
    have HN := Lib.hid hN
    have HL := Lib.hid hL
    clear hN hL
    go_wp2_with (at_builtin; refine wpList_app rfl (.tmp 21) (.tmp 22) rfl rfl w1.heap.size A2 _ c2 _ rfl hw2 A0 n0 k0 l0 w.heap.size rfl (r0.below k2) N HN.out L HL.out hN1 (by have := hb2.size; omega) ?_; intro A3 c3 w3 hw3 hb3)
    have k3 : Below w.heap.size w w3 := k2.trans (hb3.mono q1)
    have q3 := k3.size
    have hx : Rd w3 w3.heap.size A3 N L := hw3.rd
    have hc3 : N ≤ c3 := hw3.cap
    obtain ⟨g, rfl, hg⟩ := hw3.at_ hN2
    clear hw3 hb3 hw2
    refine (within_at a3 _ N w3 rfl (by omega)).mono ?_
    rintro e w' ⟨k, hk, rfl, rfl⟩
    go_wp2_with fail
    refine (puts_any A0 n0 k0 l0 a1 s2 w3 ((r0.below k3).more q3) (by omega) hz1 hz2).mono ?_
    rintro e w4 ⟨rfl, hb4⟩
    have k4 := k3.trans (hb4.mono q3)
    have q4 := k4.size
    go_wp2_with fail
    obtain ⟨hm1, hm2⟩ := shr_bd a1 (min (IntKind.u64.wrap (bits BinOp.and IntKind.i64 a1 63)).toNat 64) hz1 hz2
    refine (puts_any A0 n0 k0 l0 _ s2 w4 ((r0.below k4).more q4) (by omega) hm1 hm2).mono ?_
    rintro e w5 ⟨rfl, hb5⟩
    have k5 := k4.trans (hb5.mono q4)
    have q5 := k5.size
    clear hm1 hm2
    go_wp2_with fail
    refine (reads_any A0 n0 k0 l0 a4 w5 ((r0.below k5).more q5) (by omega) c0).mono ?_
    rintro e w6 ⟨rfl, hb6⟩
    have k6 := k5.trans (hb6.mono q5)
    have q6 := k6.size
    have j6 : Below w3.heap.size w3 w6 := hb4.trans ((hb5.mono hb4.size).trans (hb6.mono (hb4.trans (hb5.mono hb4.size)).size))
    have x6 : Rd w6 w6.heap.size (some ⟨g, 0, none⟩) N L := (hx.below j6).more j6.size
    clear hx j6
    go_wp2_with fail
    refine (reads_any _ N c3 L _ w6 x6 hN1 hc3).mono ?_
    rintro e w7 ⟨rfl, hb7⟩
    have k7 := k6.trans (hb7.mono q6)
    have q7 := k7.size
    have x7 : Rd w7 w7.heap.size (some ⟨g, 0, none⟩) N L := (x6.below hb7).more hb7.size
    clear x6
    have hkc : k ≤ c3 := by omega
    by_cases hck : c3 = k
    · subst hck
      obtain rfl : c3 = N := by omega
      go_wp2_with fail
      refine (reads_any _ c3 c3 (L.take c3) _ w7 (x7.front c3 hk) (by omega) hkc).mono ?_
      rintro e w8 ⟨rfl, hb8⟩
      have k8 := k7.trans (hb8.mono q7)
      have q8 := k8.size
      have x8 : Rd w8 w8.heap.size (some ⟨g, 0, none⟩) c3 L := (x7.below hb8).more hb8.size
      clear x7
      go_wp2_with fail
      refine (reads_any _ 0 0 [] a4 w8 ⟨rfl, fun h => absurd h (by omega)⟩ (by omega) (by omega)).mono ?_
      rintro e w9 ⟨rfl, hb9⟩
      have k9 := k8.trans (hb9.mono q8)
      have q9 := k9.size
      go_wp2_with fail
      refine (known_any w9).mono ?_
      rintro e w10 ⟨rfl, hb10⟩
      have k10 := k9.trans (hb10.mono q9)
      go_wp2_with fail
      go_ret
      exact ⟨rfl, k10⟩
    · go_wp2_with fail
      refine (reads_any _ k c3 (L.take k) _ w7 (x7.front k hk) (by omega) hkc).mono ?_
      rintro e w8 ⟨rfl, hb8⟩
      have k8 := k7.trans (hb8.mono q7)
      have q8 := k8.size
      have x8 : Rd w8 w8.heap.size (some ⟨g, 0, none⟩) N L := (x7.below hb8).more hb8.size
      clear x7
      go_wp2_with fail
      refine (reads_any _ (N - k) (c3 - k) (L.drop k) a4 w8 (by have := x8.back k (N - k) (by omega); rwa [add_at g k] at this) (by omega) (by omega)).mono ?_
      rintro e w9 ⟨rfl, hb9⟩
      have k9 := k8.trans (hb9.mono q8)
      have q9 := k9.size
      go_wp2_with fail
      refine (known_any w9).mono ?_
      rintro e w10 ⟨rfl, hb10⟩
      have k10 := k9.trans (hb10.mono q9)
      go_wp2_with fail
      go_ret
      exact ⟨rfl, k10⟩


set_option maxRecDepth 100000 in
theorem lifted (os : Os) (started : os.Started) (H : Type) (enc : TypeId × Value → H) :
    ReturnsInHanded {} Try.checked os 4 .any (Rows.codeTellsSpec.pre6 enc Try.prog Try.f4 Rows.codeTellsRow.domain false) (Rows.codeTellsSpec.post enc Try.prog Try.f4 false true false false) := by
  refine returnsInHanded_of_change_sized (C := Try.checked) own started (by kernel_rfl) Try.func4
    (ChangeSpec.witness6 (enc := enc) (C := Try.checked) false ⟨#[], #[.slice none 0 0, .int .i64 0, .string ⟨#[]⟩, .int .i64 0, .int .i64 0], []⟩ 8 (by kernel_rfl) (by kernel_rfl) (by kernel_rfl) (by kernel_rfl)) ?_
  intro W base args ds gs before hval0 hW hcnd hsz0 _
  have hval : ∀ (j : Nat) t v, Try.f4.params[j]? = some t → args[j]? = some v → Value.okWide Try.prog W .any base t v := hval0
  have hW' := hW
  obtain ⟨p, q, hA0, hV, rfl, hfz, hnd⟩ := hW
  have hA : DataW.TrodAll enc Try.prog W 0 (fun _ => true) true Try.f4.params.toList args.toList ds p := hA0
  have hsz : (DataW.weightsEach Try.prog (Try.f4.params.toList ++ Rows.codeTellsSpec.plain.varTypes Try.prog) (ds ++ gs)).all (· ≤ reachBytes) = true := hsz0
  rw [Try.params4] at hA hval hsz
  obtain ⟨v0, vs0, d0, ds0, p0, q0, hargs, rfl, rfl, h0, r0⟩ := trodAll_cons hA
  obtain ⟨v1, vs1, d1, ds1, p1, q1, rfl, rfl, rfl, h1, r1⟩ := trodAll_cons r0
  obtain ⟨v2, vs2, d2, ds2, p2, q2, rfl, rfl, rfl, h2, r2⟩ := trodAll_cons r1
  obtain ⟨v3, vs3, d3, ds3, p3, q3, rfl, rfl, rfl, h3, r3⟩ := trodAll_cons r2
  obtain ⟨v4, vs4, d4, ds4, p4, q4, rfl, rfl, rfl, h4, r4⟩ := trodAll_cons r3
  obtain ⟨rfl, rfl, rfl⟩ := trodAll_nil r4
  obtain rfl : args = #[v0, v1, v2, v3, v4] := by cases args; simp_all
  obtain ⟨rfl, rfl⟩ := trodVars_none hV
  obtain ⟨A0, n0, k0, rfl⟩ := okWide_slice Try.underlying23 (hval 0 23 v0 rfl rfl)
  have t0 := h0
  have lt0 : ∀ x ∈ p0, x.block < W.heap.size := by obtain ⟨m, hm⟩ := t0; exact DataW.trod_lt m _ _ _ hm
  obtain ⟨l0, u0, c0, b0⟩ := row_sized h0 (fun elems spare e => sized_slice hsz (j := 0) (t := 23) (e := 5) rfl (by rw [← e]; rfl) Try.underlying23)
  obtain ⟨a1, rfl, rfl, rfl, w1⟩ := open_int Try.underlying2 (hval 1 2 v1 rfl rfl) h1
  obtain ⟨s2, rfl⟩ := okWide_string Try.underlying9 (hval 2 9 v2 rfl rfl)
  have t2 := h2
  have lt2 : ∀ x ∈ p2, x.block < W.heap.size := by obtain ⟨m, hm⟩ := t2; exact DataW.trod_lt m _ _ _ hm
  have b2 : s2.size ≤ 140737488351232 := str_sized h2 (fun bytes e => sized_string hsz (j := 2) (t := 9) rfl (by rw [← e]; rfl))
  obtain ⟨a3, rfl, rfl, rfl, w3⟩ := open_int Try.underlying3 (hval 3 3 v3 rfl rfl) h3
  obtain ⟨a4, rfl, rfl, rfl, w4⟩ := open_int Try.underlying3 (hval 4 3 v4 rfl rfl) h4
  clear hA0 hval0
  refine (walk A0 n0 k0 l0 a1 s2 a3 a4 W u0 c0 b0 w1 b2 w3 w4).mono fun e W' ⟨he, bel⟩ => ?_
  subst he
  exact ⟨_, rfl, _, _, _, [], _, [], hW', trodAll_mk1 (shut_bool Try.underlying4 _), (trodAll_cons_mk (Below.trod laidOut (by kernel_rfl) (of_decide_eq_true (by kernel_rfl)) t0 bel lt0) (trodAll_cons_mk (shut_int Try.underlying2 w1) (trodAll_cons_mk (Below.trod laidOut (by kernel_rfl) (of_decide_eq_true (by kernel_rfl)) t2 bel lt2) (trodAll_cons_mk (shut_int Try.underlying3 w3) (trodAll_cons_mk (shut_int Try.underlying3 w4) trodAll_mk0))))), rfl, bel.frame _, fun h => by cases h⟩

theorem proved : Rows.CodeTellsSaid :=
  OpenClaim.holds_of_wide 4 Try.f4 rfl rfl rfl rfl rfl rfl rfl ⟨rfl, rfl, rfl, rfl, rfl⟩ rfl rfl rfl rfl rfl (by kernel_rfl) Try.func4 (by kernel_rfl)
    (of_decide_eq_true (by kernel_rfl)) (by unfold Func.isWrapper; first | (rw [if_pos (by decide +kernel)]; kernel_rfl) | (rw [if_neg (by decide +kernel)]; exact ⟨rfl, rfl⟩))
    (fun os started H enc _ => lifted os started H enc)
end Go.Proofs.Ytibhppjcochkgaa.codeTells
