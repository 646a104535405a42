/- SumTurns: whatever bytes are sealed, they open as they were; with any one bit turned, of the bytes or of the sum, nothing opens. -/
import Derived.Test.YtpbnbmnfkkkfkaaFrame
namespace Go.Proofs.Ytpbnbmnfkkkfkaa.sumTurns
open Go.ChangeShapes Go.WideShapes Go.ChangeAt Go.RowKit
set_option linter.unusedSimpArgs false
set_option linter.unusedVariables false

/-- One byte of what was sealed is another one: it does not open. -/
theorem ook_turn (l : List UInt8) (k : Nat) (b y : UInt8) (hb : (Crc.seal4 l)[k]? = some b) (hy : y ≠ b) : Crc.ook ((Crc.seal4 l).set k y) = false := by
  obtain ⟨hk, hbe⟩ := List.getElem?_eq_some_iff.1 hb
  rw [Crc.seal4_length] at hk
  cases hok : Crc.ook ((Crc.seal4 l).set k y) with
  | false => rfl
  | true =>
    exfalso
    have hlen : ((Crc.seal4 l).set k y).length = l.length + 4 := by rw [List.length_set, Crc.seal4_length]
    have h1 := (Crc.ook_long _ l.length hlen).1 hok
    have h2 := (Crc.rd_iff _ _ (by rw [List.length_drop, hlen]; omega)).1 h1
    by_cases hkl : k < l.length
    · have e1 : ((Crc.seal4 l).set k y).take l.length = l.set k y := by
        unfold Crc.seal4
        rw [List.set_append_left _ _ hkl]
        exact List.take_left' (by simp)
      have e2 : ((Crc.seal4 l).set k y).drop l.length = Crc.sb (Crc.of l) := by
        unfold Crc.seal4
        rw [List.set_append_left _ _ hkl]
        exact List.drop_left' (by simp)
      rw [e1, e2] at h2
      have h3 : Crc.of l = Crc.of (l.set k y) := by
        rw [← Crc.rd_sb (Crc.of l), ← Crc.rd_sb (Crc.of (l.set k y)), h2]
      have hlk : l[k] = b := by
        unfold Crc.seal4 at hb
        rw [List.getElem?_append_left hkl, List.getElem?_eq_getElem hkl] at hb
        injection hb
      have e3 : l = l.take k ++ b :: l.drop (k + 1) := by
        rw [← hlk, List.getElem_cons_drop, List.take_append_drop]
      have e4 : l.set k y = l.take k ++ y :: l.drop (k + 1) := by
        rw [List.set_eq_take_append_cons_drop, if_pos hkl]
      rw [e4] at h3
      have h4 : Crc.of (l.take k ++ b :: l.drop (k + 1)) = Crc.of (l.take k ++ y :: l.drop (k + 1)) := by rw [← e3]; exact h3
      exact hy (Crc.of_one _ _ _ _ h4).symm
    · have e1 : ((Crc.seal4 l).set k y).take l.length = l := by
        rw [List.take_set_of_le (by omega)]
        unfold Crc.seal4
        exact List.take_left' rfl
      rw [e1] at h2
      have h3 : (Crc.seal4 l).set k y = Crc.seal4 l := by
        have h5 := List.take_append_drop l.length ((Crc.seal4 l).set k y)
        rw [e1, h2] at h5
        exact h5.symm
      have h4 : ((Crc.seal4 l).set k y)[k]? = some y := by
        rw [List.getElem?_set_self (by rw [Crc.seal4_length]; exact hk)]
      rw [h3, hb] at h4
      injection h4 with h4
      exact hy h4.symm

theorem xor_ne (b d : UInt8) (hd : d ≠ 0) : b ^^^ d ≠ b := by
  intro h
  apply hd
  have : b ^^^ (b ^^^ d) = b ^^^ b := by rw [h]
  simpa [← UInt8.xor_assoc] using this
theorem low3 (n : Int) : ∃ q : Nat, q < 8 ∧ bits .and .i64 n 7 = (q : Int) := by
  have e : bits .and .i64 n 7 = ((BitVec.ofInt 64 n &&& 7#64).toNat : Int) := by
    show IntKind.i64.wrap ((BitVec.ofInt 64 n &&& BitVec.ofInt 64 7).toNat : Int) = _
    have h7 : BitVec.ofInt 64 7 = 7#64 := by decide
    rw [h7]
    have hlt : (BitVec.ofInt 64 n &&& 7#64).toNat ≤ 7 := by
      rw [BitVec.toNat_and]
      exact Nat.and_le_right
    exact IntWalk.i64_in _ (by omega)
  refine ⟨(BitVec.ofInt 64 n &&& 7#64).toNat, ?_, e⟩
  rw [BitVec.toNat_and]
  exact Nat.lt_succ_of_le Nat.and_le_right
theorem turned (b : UInt8) (q : Nat) (hq : q < 8) : ∃ y : UInt8, bits .xor .u8 (b.toNat : Int) ((2 : Int) ^ q % 256) = (y.toNat : Int) ∧ y ≠ b := by
  have h : ∃ d : UInt8, ((2 : Int) ^ q % 256) = (d.toNat : Int) ∧ d ≠ 0 := by
    match q, hq with
    | 0, _ => exact ⟨1, by decide, by decide⟩
    | 1, _ => exact ⟨2, by decide, by decide⟩
    | 2, _ => exact ⟨4, by decide, by decide⟩
    | 3, _ => exact ⟨8, by decide, by decide⟩
    | 4, _ => exact ⟨16, by decide, by decide⟩
    | 5, _ => exact ⟨32, by decide, by decide⟩
    | 6, _ => exact ⟨64, by decide, by decide⟩
    | 7, _ => exact ⟨128, by decide, by decide⟩
  obtain ⟨d, hd, hne⟩ := h
  exact ⟨b ^^^ d, by rw [hd, bx8], xor_ne b d hne⟩
theorem open_turned (A : Option Addr) (m cap : Nat) (l : List UInt8) (w : World) (h : Rd w w.heap.size A m l) (hno : Crc.ook l = false) (hm : m ≤ 140737488355328) (hcap : m ≤ cap) :
    Calls Try.prog 13 #[.slice A m cap] w fun e w' => ∃ A' c', e = .returned (.tuple #[.slice A' 0 c', .bool false]) ∧ Below w.heap.size w w' := by
  refine (open_any A m cap l w h hm hcap).mono ?_
  rintro e w' ⟨A', c', he, ho, hb⟩
  rw [hno, Crc.oval_not l hno] at he
  exact ⟨A', c', he, hb⟩

set_option maxRecDepth 100000 in
set_option maxHeartbeats 2000000 in
theorem walk (A0 : Option Addr) (n0 k0 : Nat) (l0 : List UInt8) (a1 : Int) (a2 : Int) (w : World) (r0 : Rd w w.heap.size A0 n0 l0) (c0 : n0 ≤ k0) (b0 : k0 ≤ 140737488351232) (w1 : (Lit.int .i64 a1).wf = true) (w2 : (Lit.int .i64 a2).wf = true) :
    Calls Try.prog 5 #[.slice A0 n0 k0, .int .i64 a1, .int .i64 a2] w (Yes w) := by
  obtain ⟨q, hq, hbit⟩ := low3 a2
  clear w1 w2
  have hl := Lib.hid r0.1
  go_enter Try.func5, Try.ntmps5
  go_wp2_with fail
  refine (seal_any A0 n0 k0 l0 w r0 (by omega)).mono ?_
  rintro e w1 ⟨A1, c1, rfl, hw1, hb1⟩
  obtain ⟨g, rfl, hg⟩ := hw1.at_ (by omega)
  have hc1 := Lib.hid hw1.cap
  go_wp2_with fail
  refine (open_sealed (some ⟨g, 0, none⟩) n0 (n0 + 4) c1 l0 w1 hw1.rd hl.out (by omega) hc1.out).mono ?_
  rintro e w2 ⟨A2, c2, rfl, hw2, hb2⟩
  have ho := hw1.below rfl hb2
  have h2 := hb1.trans (hb2.mono hb1.size)
  go_wp2_with fail
  refine (within_at a1 _ (n0 + 3) w2 (by omega) (by omega)).mono ?_
  rintro e w3 ⟨k, hk, rfl, rfl⟩
  obtain ⟨b, hb⟩ : ∃ b, (Crc.seal4 l0)[k]? = some b := ⟨_, List.getElem?_eq_getElem (by have := hw1.len; omega)⟩
  have hcell := ho.cell hb
  have hfree := ho.free k
  have HB := Lib.hid hb
  clear hb
  go_wp2_with fail
  obtain ⟨y, hy, hne⟩ := turned b q hq
  rw [hy]
  have hgl : g < w1.heap.size := (World.ownsRow.lt hw1 g rfl).2
  have hw3 := ho.store k y
  have h3 : Below w.heap.size w (w2.setCell ⟨g, k, none⟩ (.int .u8 (y.toNat : Int))) := h2.setCell (p := ⟨g, k, none⟩) hg _
  have hw4 : Own (w2.setCell ⟨g, k, none⟩ (.int .u8 (y.toNat : Int))) w1.heap.size A2 n0 c2 l0 := ownsRow_setCell_below hw2 (a := ⟨g, k, none⟩) hgl _
  clear hcell hfree hy
  have HN := Lib.hid (ook_turn l0 k b y HB.out hne)
  clear hne
  generalize w2.setCell ⟨g, k, none⟩ (.int .u8 (y.toNat : Int)) = w3 at *
  refine (open_turned (some ⟨g, 0, none⟩) (n0 + 4) c1 _ w3 hw3.rd HN.out (by omega) hc1.out).mono ?_
  rintro e w4 ⟨A5, c5, rfl, hb5⟩
  have h5 := h3.trans (hb5.mono h3.size)
  have q1 := run_conv w4 _ A2 n0 c2 l0 (hw4.rd.below hb5)
  have q2 := run_conv w4 _ A0 n0 k0 l0 (r0.below h5)
  go_wp2_with fail
  refine (known_any w4).mono ?_
  rintro e w6 ⟨rfl, hb6⟩
  go_wp2_with fail
  go_ret
  exact ⟨rfl, h5.trans (hb6.mono h5.size)⟩

set_option maxRecDepth 100000 in
theorem lifted (os : Os) (started : os.Started) (H : Type) (enc : TypeId × Value → H) :
    ReturnsInHanded {} Try.checked os 5 .any (Rows.sumTurnsSpec.pre6 enc Try.prog Try.f5 Rows.sumTurnsRow.domain false) (Rows.sumTurnsSpec.post enc Try.prog Try.f5 false true false false) := by
  refine returnsInHanded_of_change_sized (C := Try.checked) own started (by kernel_rfl) Try.func5
    (ChangeSpec.witness6 (enc := enc) (C := Try.checked) false ⟨#[], #[.slice none 0 0, .int .i64 0, .int .i64 0], []⟩ 8 (by kernel_rfl) (by kernel_rfl) (by kernel_rfl) (by kernel_rfl)) ?_
  intro W base args ds gs before hval0 hW hcnd hsz0 _
  have hval : ∀ (j : Nat) t v, Try.f5.params[j]? = some t → args[j]? = some v → Value.okWide Try.prog W .any base t v := hval0
  have hW' := hW
  obtain ⟨p, q, hA0, hV, rfl, hfz, hnd⟩ := hW
  have hA : DataW.TrodAll enc Try.prog W 0 (fun _ => true) true Try.f5.params.toList args.toList ds p := hA0
  have hsz : (DataW.weightsEach Try.prog (Try.f5.params.toList ++ Rows.sumTurnsSpec.plain.varTypes Try.prog) (ds ++ gs)).all (· ≤ reachBytes) = true := hsz0
  rw [Try.params5] at hA hval hsz
  obtain ⟨v0, vs0, d0, ds0, p0, q0, hargs, rfl, rfl, h0, r0⟩ := trodAll_cons hA
  obtain ⟨v1, vs1, d1, ds1, p1, q1, rfl, rfl, rfl, h1, r1⟩ := trodAll_cons r0
  obtain ⟨v2, vs2, d2, ds2, p2, q2, rfl, rfl, rfl, h2, r2⟩ := trodAll_cons r1
  obtain ⟨rfl, rfl, rfl⟩ := trodAll_nil r2
  obtain rfl : args = #[v0, v1, v2] := by cases args; simp_all
  obtain ⟨rfl, rfl⟩ := trodVars_none hV
  obtain ⟨A0, n0, k0, rfl⟩ := okWide_slice Try.underlying22 (hval 0 22 v0 rfl rfl)
  have t0 := h0
  have lt0 : ∀ x ∈ p0, x.block < W.heap.size := by obtain ⟨m, hm⟩ := t0; exact DataW.trod_lt m _ _ _ hm
  obtain ⟨l0, u0, c0, b0⟩ := row_sized h0 (fun elems spare e => sized_slice hsz (j := 0) (t := 22) (e := 5) rfl (by rw [← e]; rfl) Try.underlying22)
  obtain ⟨a1, rfl, rfl, rfl, w1⟩ := open_int Try.underlying3 (hval 1 3 v1 rfl rfl) h1
  obtain ⟨a2, rfl, rfl, rfl, w2⟩ := open_int Try.underlying3 (hval 2 3 v2 rfl rfl) h2
  clear hA0 hval0
  refine (walk A0 n0 k0 l0 a1 a2 W u0 c0 b0 w1 w2).mono fun e W' ⟨he, bel⟩ => ?_
  subst he
  exact ⟨_, rfl, _, _, _, [], _, [], hW', trodAll_mk1 (shut_bool Try.underlying4 _), (trodAll_cons_mk (Below.trod laidOut (by kernel_rfl) (of_decide_eq_true (by kernel_rfl)) t0 bel lt0) (trodAll_cons_mk (shut_int Try.underlying3 w1) (trodAll_cons_mk (shut_int Try.underlying3 w2) trodAll_mk0))), rfl, bel.frame _, fun h => by cases h⟩

theorem proved : Rows.SumTurnsSaid :=
  OpenClaim.holds_of_wide 5 Try.f5 rfl rfl rfl rfl rfl rfl rfl ⟨rfl, rfl, rfl, rfl, rfl⟩ rfl rfl rfl rfl rfl (by kernel_rfl) Try.func5 (by kernel_rfl)
    (of_decide_eq_true (by kernel_rfl)) (by unfold Func.isWrapper; first | (rw [if_pos (by decide +kernel)]; kernel_rfl) | (rw [if_neg (by decide +kernel)]; exact ⟨rfl, rfl⟩))
    (fun os started H enc _ => lifted os started H enc)
end Go.Proofs.Ytpbnbmnfkkkfkaa.sumTurns
