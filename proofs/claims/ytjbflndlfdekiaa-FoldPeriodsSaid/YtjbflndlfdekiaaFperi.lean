/- FoldPeriods: for any tape of numbers and any number: the period of a row of runs that is made of the tape divides it and is one of it, so many times the same row has no greater one, and its best fold lies within it. -/
import Derived.Test.YtjbflndlfdekiaaLow2
import Derived.Test.YtjbflndlfdekiaaKnown6
namespace Go.Proofs.Ytjbflndlfdekiaa.foldPeriods
open Go.ChangeShapes Go.WideShapes Go.ChangeAt Go.RowKit Tab
set_option linter.unusedSimpArgs false
set_option linter.unusedVariables false

theorem tmod0 {n p : Nat} (h : n % p = 0) : (n : Int).tmod (p : Int) = 0 := by
  rw [Int.tmod_eq_emod_of_nonneg (Int.natCast_nonneg _), ← Int.natCast_emod, h]
  rfl
set_option maxRecDepth 100000 in
set_option maxHeartbeats 4000000 in
theorem walk (A0 : Option Addr) (n0 k0 : Nat) (f0 : Nat → Int) (a1 : Int) (w : World) (r0 : RdC w w.heap.size A0 n0 fun j => .int .i64 (f0 j)) (c0 : n0 ≤ k0) (b0 : k0 ≤ 140737488351232) (w0 : ∀ j, j < n0 → (Lit.int .i64 (f0 j)).wf = true) (w1 : (Lit.int .i64 a1).wf = true) :
    Calls Try.prog 4 #[.slice A0 n0 k0, .int .i64 a1] w (Ans (.bool true) w) := by
  have R0 := Lib.hid r0
  obtain ⟨M, hM, hM2⟩ := and_mask a1 7 (by omega)
  have hM : bits .and .i64 a1 7 = (M : Int) := hM
  clear r0 w0 w1
  go_enter Try.func4, Try.ntmps4
  go_wp2_with fail
  refine (row_box A0 n0 k0 f0 w 2 8 2 8 rfl rfl (by omega) (by omega) (by omega) (by omega) R0.out (by omega)).mono ?_
  rintro e w1 ⟨L, A1, n1, c1, rfl, hL, hr1, hc1, h1, h2, hb1⟩
  have HAG := Lib.hid (again_any none A1 none 0 n1 0 0 c1 0 (1 + M) [] L [] w1 ⟨rfl, RdV.nil⟩ hr1 ⟨rfl, RdV.nil⟩ (by omega) h2 (by omega) (by omega))
  rw [show ((1 + M : Nat) : Int) = 1 + (M : Int) by omega] at HAG
  have hlen1 := hr1.len
  have hspL := perI_spec L (by omega)
  have HPL := Lib.hid fun w' (hb : Below w1.heap.size w1 w') => (period_any A1 n1 c1 L w' (hr1.on hb) hc1 (by omega)).mono fun _ _ h => Qui.ans h
  have HPR := Lib.hid fun (j : Nat) => per_reps j hspL.1
  have hd1 := hspL.1.2.1
  have hp1 := hspL.1.1
  have HF := Lib.hid hL
  rw [hlen1] at hd1
  have HSL := Lib.hid hspL
  clear hspL hr1 hL R0
  go_wp2_with fail
  refine HAG.out.mono ?_
  rintro e w2 ⟨j, A2, m2, c2, rfl, hr2, hc2, hj, hj1, hm2, hb2⟩
  have e0 : [] ++ reps j L ++ [] = reps j L := by simp
  rw [e0] at hr2
  have hj1 := hj1 (by omega)
  have k2 := hb1.trans (hb2.mono hb1.size)
  have hlen2 := hr2.len
  have hl2 : 1 ≤ (reps j L).length := by
    rw [reps_length, hlen1]
    exact Nat.mul_le_mul hj1 h1
  have hspR := perI_spec (reps j L) hl2
  have hqp := hspR.2 _ (HPR.out j)
  have HPP := Lib.hid hspR.1
  have hd2 := hspR.1.2.1
  have hq1 := hspR.1.1
  rw [hlen2] at hd2
  have HR2 := Lib.hid hr2
  have hmem : ∀ r ∈ reps j L, In64 r.p ∧ r.n ≤ 1048576 := fun r hr => by
    have := HF.out r (reps_mem hr)
    unfold Fair at this
    unfold In64
    omega
  have HQR := Lib.hid fun w' (hb : Below w2.heap.size w2 w') => (period_any A2 m2 c2 (reps j L) w' (hr2.on hb) hc2 (by omega)).mono fun _ _ h => Qui.ans h
  have HBR := Lib.hid fun w' (hb : Below w2.heap.size w2 w') => bestr_any A2 m2 c2 (reps j L) w' (hr2.on hb) hc2 (by omega) hmem
  have hbc := bestI_cases (itemsI (reps j L))
  have hil := itemsI_len (reps j L)
  rw [hlen2] at hil
  clear hmem HAG hspR HPR hr2 e0 HSL
  generalize reps j L = R at HPP HR2 hqp HQR HBR hbc hlen2 hl2 hil hd2 hq1
  generalize perI R = q at HPP hqp HQR hd2 hq1
  generalize perI L = p at HPL hqp hd1 hp1
  have hbs : (bestI (itemsI R)).n = 0 ∨ ((bestI (itemsI R)).at_ + (bestI (itemsI R)).p * (bestI (itemsI R)).n ≤ m2 ∧ 2 ≤ (bestI (itemsI R)).n ∧ 1 ≤ (bestI (itemsI R)).p) := by
    rcases hbc with ⟨h, _⟩ | h
    · exact .inl h
    · exact .inr ⟨by rw [← hil]; exact h.le, h.n, h.p⟩
  clear hbc hil
  generalize bestI (itemsI R) = s at HBR hbs
  obtain ⟨mo, ba, bp, bn⟩ := s
  dsimp only at HBR hbs
  have HBS := Lib.hid hbs
  clear hbs
  go_wp2_with fail
  refine (HPL.out w2 hb2).mono ?_
  rintro e w3 ⟨rfl, hb3⟩
  have HB3 := Lib.hid hb3
  go_wp2_with fail
  refine (HQR.out w3 hb3).mono ?_
  rintro e w4 ⟨rfl, hb4⟩
  have k4 := hb3.trans (hb4.mono hb3.size)
  have z1 : (n1 : Int).tmod (p : Int) = 0 := tmod0 hd1
  have z2 : (m2 : Int).tmod (q : Int) = 0 := tmod0 hd2
  have y1 : ((n1 : Int).tmod (p : Int) != 0) = false := by rw [z1]; rfl
  have y2 : ((m2 : Int).tmod (q : Int) != 0) = false := by rw [z2]; rfl
  have x1 : ¬ (p : Int) < 1 := by omega
  have x2 : ¬ (q : Int) < 1 := by omega
  have x3 : ¬ (p : Int) < (q : Int) := by omega
  have x4 : ¬ p = 0 := by omega
  have x5 : ¬ q = 0 := by omega
  have K4 := Lib.hid k4
  clear HPL HQR hb3 hb4 hd1 hd2 k4
  go_wp2_with fail
  go_loopw [10] (fun s wr => ∃ i : Nat, q ≤ i ∧ s = .int .i64 i ∧ i ≤ m2 + q ∧ Below w2.heap.size w2 wr) (fun s _ => m2 - (intOf s).toNat)
  case atStart => exact ⟨q, by omega, rfl, by omega, K4.out⟩
  case round =>
    obtain ⟨i, hqi, rfl, him, hb⟩ := hrel
    by_cases hlt : i < m2
    · obtain ⟨ad, r, rfl, _, hr, c0, c1'⟩ := (HR2.out.on hb).at_ hlt
      obtain ⟨ad2, r2, e2, _, hr', d0, d1'⟩ := (HR2.out.on hb).at_ (i := i - q) (by omega)
      injection e2 with e2
      subst e2
      have hrr := HPP.out.2.2 i hqi (by rw [hlen2]; exact hlt)
      rw [hr, hr'] at hrr
      injection hrr with hrr
      subst hrr
      obtain ⟨rp, rn⟩ := r
      dsimp only at c0 c1' d0 d1'
      obtain ⟨d, hd⟩ : ∃ d, d = i - q := ⟨_, rfl⟩
      rw [← hd] at d0 d1'
      have hsub : (i : Int) - (q : Int) = (d : Int) := by omega
      have hdm : d < m2 := by omega
      have hdw : IntKind.i64.wrap (d : Int) = (d : Int) := IntWalk.i64_in _ (by omega)
      have hne : ∀ W, (binOp .neq 41 (rv rp (rn : Int)) (rv rp (rn : Int))).run Try.prog W = .ok (.bool false) W := fun W => rv_neq _ _ W
      have HBW := Lib.hid hb
      clear hr hr' hd z1 z2 y1 y2 hb
      go_wp2_with fail
      go_quiet (fail)
      go_wp2_with fail
      go_roundw
      case rel => exact ⟨i + 1, by omega, by go_num, by omega, Below.drewN HBW.out nq⟩
      case measure => simp [intOf]; omega
    · have hge : m2 ≤ i := by omega
      clear z1 z2 y1 y2
      go_wp2_with fail
      refine (HBR.out wr hb).mono ?_
      rintro e w5 ⟨rfl, hb5⟩
      have k5 := hb.trans (hb5.mono hb.size)
      have k6 := k2.trans (k5.mono k2.size)
      by_cases h3 : (m2 : Int) < 3
      · go_wp2_with fail
        refine (known6_any w5).mono ?_
        rintro e w7 ⟨rfl, hb7⟩
        go_wp2_with fail
        go_ret
        exact Ans.mk rfl (k6.trans (hb7.mono k6.size))
      · by_cases h0 : bn = 0
        · subst h0
          go_wp2_with fail
          refine (known6_any w5).mono ?_
          rintro e w7 ⟨rfl, hb7⟩
          go_wp2_with fail
          go_ret
          exact Ans.mk rfl (k6.trans (hb7.mono k6.size))
        · obtain ⟨f1, f2, f3⟩ := HBS.out.resolve_left h0
          have hne : ((bn : Int) == 0) = false := beq_eq_false_iff_ne.2 (by omega)
          have hm1 := Nat.le_mul_of_pos_right bp (show 0 < bn by omega)
          have hmw : IntKind.i64.wrap ((bp : Int) * (bn : Int)) = ((bp * bn : Nat) : Int) := by
            rw [← Int.natCast_mul]
            exact IntWalk.i64_in _ (by omega)
          generalize bp * bn = P at f1 hm1 hmw
          have g1 : (ba : Int) + (P : Int) ≤ (m2 : Int) := by omega
          have g2 : (2 : Int) ≤ (bn : Int) := by omega
          go_wp2_with fail
          refine (known6_any w5).mono ?_
          rintro e w7 ⟨rfl, hb7⟩
          go_wp2_with fail
          go_ret
          exact Ans.mk rfl (k6.trans (hb7.mono k6.size))

set_option maxRecDepth 100000 in
theorem lifted (os : Os) (started : os.Started) (H : Type) (enc : TypeId × Value → H) :
    ReturnsInHanded {} Try.checked os 4 .any (Rows.foldPeriodsSpec.pre6 enc Try.prog Try.f4 Rows.foldPeriodsRow.domain false) (Rows.foldPeriodsSpec.post enc Try.prog Try.f4 false true false false) := by
  refine returnsInHanded_of_change_sized (C := Try.checked) own started (by kernel_rfl) Try.func4
    (ChangeSpec.witness6 (enc := enc) (C := Try.checked) false ⟨#[], #[.slice none 0 0, .int .i64 0], []⟩ 8 (by kernel_rfl) (by kernel_rfl) (by kernel_rfl) (by kernel_rfl)) ?_
  intro W base args ds gs before hval0 hW hcnd hsz0 _
  have hval : ∀ (j : Nat) t v, Try.f4.params[j]? = some t → args[j]? = some v → Value.okWide Try.prog W .any base t v := hval0
  have hW' := hW
  obtain ⟨p, q, hA0, hV, rfl, hfz, hnd⟩ := hW
  have hA : DataW.TrodAll enc Try.prog W 0 (fun _ => true) true Try.f4.params.toList args.toList ds p := hA0
  have hsz : (DataW.weightsEach Try.prog (Try.f4.params.toList ++ Rows.foldPeriodsSpec.plain.varTypes Try.prog) (ds ++ gs)).all (· ≤ reachBytes) = true := hsz0
  rw [Try.params4] at hA hval hsz
  obtain ⟨v0, vs0, d0, ds0, p0, q0, hargs, rfl, rfl, h0, r0⟩ := trodAll_cons hA
  obtain ⟨v1, vs1, d1, ds1, p1, q1, rfl, rfl, rfl, h1, r1⟩ := trodAll_cons r0
  obtain ⟨rfl, rfl, rfl⟩ := trodAll_nil r1
  obtain rfl : args = #[v0, v1] := by cases args; simp_all
  obtain ⟨rfl, rfl⟩ := trodVars_none hV
  obtain ⟨A0, n0, k0, rfl⟩ := okWide_slice Try.underlying22 (hval 0 22 v0 rfl rfl)
  have t0 := h0
  have lt0 : ∀ x ∈ p0, x.block < W.heap.size := by obtain ⟨m, hm⟩ := t0; exact DataW.trod_lt m _ _ _ hm
  obtain ⟨f0, u0, c0, b0, w0⟩ := ints_sized h0 (fun elems spare e => sized_slice hsz (j := 0) (t := 22) (e := 3) rfl (by rw [← e]; rfl) Try.underlying22)
  obtain ⟨a1, rfl, rfl, rfl, w1⟩ := open_int Try.underlying3 (hval 1 3 v1 rfl rfl) h1
  clear hA0 hval0
  refine (walk A0 n0 k0 f0 a1 W u0 c0 b0 w0 w1).mono fun e W' ⟨he, bel⟩ => ?_
  subst he
  exact ⟨_, rfl, _, _, _, [], _, [], hW', trodAll_mk1 (shut_bool Try.underlying4 _), (trodAll_cons_mk (Below.trod laidOut (by kernel_rfl) (of_decide_eq_true (by kernel_rfl)) t0 bel lt0) (trodAll_cons_mk (shut_int Try.underlying3 w1) trodAll_mk0)), rfl, bel.frame _, fun h => by cases h⟩

theorem proved : Rows.FoldPeriodsSaid :=
  OpenClaim.holds_of_wide 4 Try.f4 rfl rfl rfl rfl rfl rfl rfl ⟨rfl, rfl, rfl, rfl, rfl⟩ rfl rfl rfl rfl rfl (by kernel_rfl) Try.func4 (by kernel_rfl)
    (of_decide_eq_true (by kernel_rfl)) (by unfold Func.isWrapper; first | (rw [if_pos (by decide +kernel)]; kernel_rfl) | (rw [if_neg (by decide +kernel)]; exact ⟨rfl, rfl⟩))
    (fun os started H enc _ => lifted os started H enc)

end Go.Proofs.Ytjbflndlfdekiaa.foldPeriods
