/- SumTells: for any bytes, any sum, any byte, any place and any turn of it, the program's sums are the document's. -/
import Derived.Test.YtpbnbmnfkkkfkaaFrame
namespace Go.Proofs.Ytpbnbmnfkkkfkaa.sumTells
open Go.ChangeShapes Go.WideShapes Go.ChangeAt Go.RowKit
set_option linter.unusedSimpArgs false
set_option linter.unusedVariables false

theorem and255 (c : BitVec 32) : bits .and .u32 (c.toNat : Int) 255 = ((c &&& 255#32).toNat : Int) := by
  show bits .and .u32 (c.toNat : Int) (((255 : Nat)) : Int) = _
  rw [u32_and_nat _ _ c.isLt (by omega), BitVec.toNat_and]
  rfl
theorem u32_of (n : Int) (h : (Lit.int .u32 n).wf = true) : ∃ c : BitVec 32, n = (c.toNat : Int) := by
  have hb := bounds_u32 h
  exact ⟨BitVec.ofNat 32 n.toNat, by simp; omega⟩
theorem u8_from (n : Int) (h : (Lit.int .u8 n).wf = true) : ∃ x : UInt8, n = (x.toNat : Int) := ⟨_, (u8_of n h).symm⟩

set_option maxRecDepth 100000 in
set_option maxHeartbeats 2000000 in
theorem walk (A0 : Option Addr) (n0 k0 : Nat) (l0 : List UInt8) (a1 : Int) (a2 : Int) (a3 : Int) (a4 : Int) (w : World) (r0 : Rd w w.heap.size A0 n0 l0) (c0 : n0 ≤ k0) (b0 : k0 ≤ 140737488351232) (w1 : (Lit.int .u32 a1).wf = true) (w2 : (Lit.int .u8 a2).wf = true) (w3 : (Lit.int .i64 a3).wf = true) (w4 : (Lit.int .u8 a4).wf = true) :
    Calls Try.prog 4 #[.slice A0 n0 k0, .int .u32 a1, .int .u8 a2, .int .i64 a3, .int .u8 a4] w (Yes w) := by
  obtain ⟨c, rfl⟩ := u32_of a1 w1
  obtain ⟨x, rfl⟩ := u8_from a2 w2
  obtain ⟨t, rfl⟩ := u8_from a4 w4
  clear w1 w2 w3 w4
  have hl := Lib.hid r0.1
  go_enter Try.func4, Try.ntmps4
  go_wp2_with fail
  refine (rseal_any A0 n0 k0 l0 w r0 (by omega)).mono ?_
  rintro e w1 ⟨A1, c1, rfl, hw1, hb1⟩
  obtain ⟨g, rfl, hg⟩ := hw1.at_ (by omega)
  have hc1 := Lib.hid hw1.cap
  go_wp2_with fail
  refine (within_at a3 _ (n0 + 3) w1 (by omega) (by omega)).mono ?_
  rintro e w2 ⟨k, hk, rfl, rfl⟩
  obtain ⟨b, hb⟩ : ∃ b, (Crc.seal4 l0)[k]? = some b := ⟨_, List.getElem?_eq_getElem (by have := hw1.len; omega)⟩
  have hcell := hw1.cell hb
  have hfree := hw1.free k
  clear hb
  go_wp2_with fail
  rw [bx8]
  have hw2 := hw1.store k (b ^^^ t)
  have hb2 : Below w.heap.size w (w1.setCell ⟨g, k, none⟩ (.int .u8 ((b ^^^ t).toNat : Int))) := hb1.setCell (p := ⟨g, k, none⟩) hg _
  clear hcell hfree
  generalize w1.setCell ⟨g, k, none⟩ (.int .u8 ((b ^^^ t).toNat : Int)) = w2 at *
  refine (same_any A0 n0 k0 l0 c x w2 ((r0.below hb2).more hb2.size) (by omega) c0).mono ?_
  rintro e w3 ⟨rfl, hb3⟩
  have h3 := hb2.trans (hb3.mono hb2.size)
  go_wp2_with fail
  rw [and255]
  refine (same_any (some ⟨g, 0, none⟩) (n0 + 4) c1 _ (c &&& 255#32) x w3 ((hw2.rd.below hb3).more hb3.size) (by omega) hc1.out).mono ?_
  rintro e w4 ⟨rfl, hb4⟩
  have h4 := h3.trans (hb4.mono h3.size)
  go_wp2_with fail
  refine (rseal_any A0 n0 k0 l0 w4 ((r0.below h4).more h4.size) (by omega)).mono ?_
  rintro e w5 ⟨A5, c5, rfl, hw5, hb5⟩
  have h5 := h4.trans (hb5.mono h4.size)
  go_wp2_with fail
  refine (same_any A5 (n0 + 4) c5 _ c x w5 hw5.rd (by omega) hw5.cap).mono ?_
  rintro e w6 ⟨rfl, hb6⟩
  have h6 := h5.trans (hb6.mono h5.size)
  go_wp2_with fail
  refine (known_any w6).mono ?_
  rintro e w7 ⟨rfl, hb7⟩
  have h7 := h6.trans (hb7.mono h6.size)
  go_wp2_with fail
  go_ret
  exact ⟨rfl, h7⟩

set_option maxRecDepth 100000 in
theorem lifted (os : Os) (started : os.Started) (H : Type) (enc : TypeId × Value → H) :
    ReturnsInHanded {} Try.checked os 4 .any (Rows.sumTellsSpec.pre6 enc Try.prog Try.f4 Rows.sumTellsRow.domain false) (Rows.sumTellsSpec.post enc Try.prog Try.f4 false true false false) := by
  refine returnsInHanded_of_change_sized (C := Try.checked) own started (by kernel_rfl) Try.func4
    (ChangeSpec.witness6 (enc := enc) (C := Try.checked) false ⟨#[], #[.slice none 0 0, .int .u32 0, .int .u8 0, .int .i64 0, .int .u8 0], []⟩ 8 (by kernel_rfl) (by kernel_rfl) (by kernel_rfl) (by kernel_rfl)) ?_
  intro W base args ds gs before hval0 hW hcnd hsz0 _
  have hval : ∀ (j : Nat) t v, Try.f4.params[j]? = some t → args[j]? = some v → Value.okWide Try.prog W .any base t v := hval0
  have hW' := hW
  obtain ⟨p, q, hA0, hV, rfl, hfz, hnd⟩ := hW
  have hA : DataW.TrodAll enc Try.prog W 0 (fun _ => true) true Try.f4.params.toList args.toList ds p := hA0
  have hsz : (DataW.weightsEach Try.prog (Try.f4.params.toList ++ Rows.sumTellsSpec.plain.varTypes Try.prog) (ds ++ gs)).all (· ≤ reachBytes) = true := hsz0
  rw [Try.params4] at hA hval hsz
  obtain ⟨v0, vs0, d0, ds0, p0, q0, hargs, rfl, rfl, h0, r0⟩ := trodAll_cons hA
  obtain ⟨v1, vs1, d1, ds1, p1, q1, rfl, rfl, rfl, h1, r1⟩ := trodAll_cons r0
  obtain ⟨v2, vs2, d2, ds2, p2, q2, rfl, rfl, rfl, h2, r2⟩ := trodAll_cons r1
  obtain ⟨v3, vs3, d3, ds3, p3, q3, rfl, rfl, rfl, h3, r3⟩ := trodAll_cons r2
  obtain ⟨v4, vs4, d4, ds4, p4, q4, rfl, rfl, rfl, h4, r4⟩ := trodAll_cons r3
  obtain ⟨rfl, rfl, rfl⟩ := trodAll_nil r4
  obtain rfl : args = #[v0, v1, v2, v3, v4] := by cases args; simp_all
  obtain ⟨rfl, rfl⟩ := trodVars_none hV
  obtain ⟨A0, n0, k0, rfl⟩ := okWide_slice Try.underlying22 (hval 0 22 v0 rfl rfl)
  have t0 := h0
  have lt0 : ∀ x ∈ p0, x.block < W.heap.size := by obtain ⟨m, hm⟩ := t0; exact DataW.trod_lt m _ _ _ hm
  obtain ⟨l0, u0, c0, b0⟩ := row_sized h0 (fun elems spare e => sized_slice hsz (j := 0) (t := 22) (e := 5) rfl (by rw [← e]; rfl) Try.underlying22)
  obtain ⟨a1, rfl, rfl, rfl, w1⟩ := open_int Try.underlying26 (hval 1 26 v1 rfl rfl) h1
  obtain ⟨a2, rfl, rfl, rfl, w2⟩ := open_int Try.underlying5 (hval 2 5 v2 rfl rfl) h2
  obtain ⟨a3, rfl, rfl, rfl, w3⟩ := open_int Try.underlying3 (hval 3 3 v3 rfl rfl) h3
  obtain ⟨a4, rfl, rfl, rfl, w4⟩ := open_int Try.underlying5 (hval 4 5 v4 rfl rfl) h4
  clear hA0 hval0
  refine (walk A0 n0 k0 l0 a1 a2 a3 a4 W u0 c0 b0 w1 w2 w3 w4).mono fun e W' ⟨he, bel⟩ => ?_
  subst he
  exact ⟨_, rfl, _, _, _, [], _, [], hW', trodAll_mk1 (shut_bool Try.underlying4 _), (trodAll_cons_mk (Below.trod laidOut (by kernel_rfl) (of_decide_eq_true (by kernel_rfl)) t0 bel lt0) (trodAll_cons_mk (shut_int Try.underlying26 w1) (trodAll_cons_mk (shut_int Try.underlying5 w2) (trodAll_cons_mk (shut_int Try.underlying3 w3) (trodAll_cons_mk (shut_int Try.underlying5 w4) trodAll_mk0))))), rfl, bel.frame _, fun h => by cases h⟩

theorem proved : Rows.SumTellsSaid :=
  OpenClaim.holds_of_wide 4 Try.f4 rfl rfl rfl rfl rfl rfl rfl ⟨rfl, rfl, rfl, rfl, rfl⟩ rfl rfl rfl rfl rfl (by kernel_rfl) Try.func4 (by kernel_rfl)
    (of_decide_eq_true (by kernel_rfl)) (by unfold Func.isWrapper; first | (rw [if_pos (by decide +kernel)]; kernel_rfl) | (rw [if_neg (by decide +kernel)]; exact ⟨rfl, rfl⟩))
    (fun os started H enc _ => lifted os started H enc)
end Go.Proofs.Ytpbnbmnfkkkfkaa.sumTells
