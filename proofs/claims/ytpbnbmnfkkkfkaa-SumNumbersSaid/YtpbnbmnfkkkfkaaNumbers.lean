/- SumNumbers: chapter 1's runs and two hundred rows, sealed, turned and cut off: the closed sentence is true. -/
import Derived.Test.YtpbnbmnfkkkfkaaFrame
namespace Go.Proofs.Ytpbnbmnfkkkfkaa.sumNumbers
open Go.ChangeShapes Go.WideShapes Go.ChangeAt Go.RowKit
set_option linter.unusedSimpArgs false
set_option linter.unusedVariables false

theorem same_int (A : Option Addr) (n cap : Nat) (l : List UInt8) (c x : Int) (w : World) (h0 : Rd w w.heap.size A n l) (hn : n ≤ 140737488355000) (hcap : n ≤ cap) (c0 : 0 ≤ c) (c1 : c ≤ 4294967295) (x0 : 0 ≤ x) (x1 : x ≤ 255) :
    Calls Try.prog 9 #[.slice A n cap, .int .u32 c, .int .u8 x] w (Yes w) := by
  obtain ⟨b, rfl⟩ : ∃ b : BitVec 32, c = (b.toNat : Int) := ⟨BitVec.ofNat 32 c.toNat, by simp; omega⟩
  obtain ⟨y, rfl⟩ : ∃ y : UInt8, x = (y.toNat : Int) := ⟨UInt8.ofNat x.toNat, by simp; omega⟩
  exact same_any A n cap l b y w h0 hn hcap
theorem cell_u8 (n : Int) (h0 : 0 ≤ n) (h1 : n ≤ 255) : Value.int .u8 n = .int .u8 ((UInt8.ofNat n.toNat).toNat : Int) := by
  congr 1
  simp; omega

theorem bits_u8 (op : BinOp) (a b : Int) : ∃ y : UInt8, bits op .u8 a b = (y.toNat : Int) := by
  have h0 := bits_lo_u8 op a b
  have h1 := bits_hi_u8 op a b
  exact ⟨UInt8.ofNat (bits op .u8 a b).toNat, by simp; omega⟩
theorem one_cell (n : Int) (h0 : 0 ≤ n) (h1 : n ≤ 255) : ∃ y : UInt8, (#[Value.int .u8 n] : Array Value).toList = bs [y] :=
  ⟨UInt8.ofNat n.toNat, by rw [cell_u8 n h0 h1]; rfl⟩

set_option maxRecDepth 100000 in
set_option maxHeartbeats 4000000 in
theorem walk (w : World) : Calls Try.prog 3 #[] w (Yes w) := by
  go_enter Try.func3, Try.ntmps3
  go_wp2_with fail
  go_loopw [1, 2] (fun b i wr => ∃ (k : Nat) (A : Option Addr) (c : Nat) (l : List UInt8), k ≤ 200 ∧ i = .int .i64 k ∧ b = .slice A k c ∧ Own wr w.heap.size A k c l ∧ Below w.heap.size w wr) (fun _ i _ => 200 - (intOf i).toNat)
  case atStart => exact ⟨0, none, 0, [], by omega, rfl, rfl, World.ownsRow_nil _ _ _ _, Below.refl _ _⟩
  case round =>
    obtain ⟨k, A, c, l, hk, rfl, rfl, hw, hb⟩ := hrel
    by_cases hlt : k < 200
    · go_wp2_with fail
      refine (rseal_any A k c l wr hw.rd (by omega)).mono ?_
      rintro e w1 ⟨A1, c1, rfl, hw1, hb1⟩
      have hc1 := Lib.hid hw1.cap
      have hk0 : (k : Int) % ((k : Int) + 4) = (k : Int) := Int.emod_eq_of_lt (by omega) (by omega)
      go_wp2_with (first
        | (at_builtin; refine wpList_app rfl (.tmp 11) (.tmp 12) rfl rfl w1.heap.size (some ⟨w1.heap.size, 0, none⟩) 0 0 [] rfl (own_lit w1 w1.heap.size [] #[] rfl (Nat.le_refl _) (by decide)) A1 (k + 4) c1 (Crc.seal4 l) w1.heap.size rfl (hw1.rd.alloc (Nat.le_refl _) _) (k + 4) (Nat.zero_add _) (Crc.seal4 l) (List.nil_append _) (by omega) (by simp) ?_; intro A2 c2 w2 hw2 hb2; obtain ⟨g, rfl, hg⟩ := hw2.at_ (by omega); have hc2 := Lib.hid hw2.cap; obtain ⟨b0, hb0⟩ : ∃ b0, (Crc.seal4 l)[k]? = some b0 := ⟨_, List.getElem?_eq_getElem (by have := hw2.len; omega)⟩; have hcell := hw2.cell hb0; have hfree := hw2.free k; clear hb0))
      obtain ⟨y, hy⟩ := bits_u8 .xor (b0.toNat : Int) ((2 : Int) ^ (k % 8) % 256)
      rw [hy]
      clear hy hcell hfree
      have hw3 := hw2.store k y
      have hb3 : Below w1.heap.size w1 (w2.setCell ⟨g, k, none⟩ (.int .u8 (y.toNat : Int))) := (((Below.refl _ _).alloc (Nat.le_refl _) _).trans hb2).setCell (p := ⟨g, k, none⟩) hg _
      generalize w2.setCell ⟨g, k, none⟩ (.int .u8 (y.toNat : Int)) = w3 at *
      have h3 : Below wr.heap.size wr w3 := hb1.trans (hb3.mono hb1.size)
      refine (same_int A k c l _ _ w3 ((hw.rd.below h3).more h3.size) (by omega) hw.cap (by omega) (by omega) (by omega) (by omega)).mono ?_
      rintro e w4 ⟨rfl, hb4⟩
      have h4 := h3.trans (hb4.mono h3.size)
      go_wp2_with fail
      refine (same_int A1 (k + 4) c1 _ _ _ w4 ((hw1.rd.below (hb3.trans (hb4.mono hb3.size))).more (hb3.trans (hb4.mono hb3.size)).size) (by omega) hc1.out (bits_lo_u32 _ _ _) (bits_hi_u32 _ _ _) (by omega) (by omega)).mono ?_
      rintro e w5 ⟨rfl, hb5⟩
      have h5 := h4.trans (hb5.mono h4.size)
      go_wp2_with fail
      refine (same_int (some ⟨g, 0, none⟩) (k + 4) c2 _ _ _ w5 (((hw3.rd.below hb4).more hb4.size).below hb5 |>.more hb5.size) (by omega) hc2.out (by omega) (by omega) (by omega) (by omega)).mono ?_
      rintro e w6 ⟨rfl, hb6⟩
      have h6 := h5.trans (hb6.mono h5.size)
      have h16 := (hb3.trans (hb4.mono hb3.size)).trans (hb5.mono (hb3.trans (hb4.mono hb3.size)).size)
      have h17 := h16.trans (hb6.mono h16.size)
      have hcc : k + 3 ≤ c1 := by have := hc1.out; omega
      go_wp2_with fail
      refine (same_int A1 (k + 3) c1 _ _ _ w6 (((hw1.rd.front (k + 3) (by omega)).below h17).more h17.size) (by omega) hcc (by omega) (by omega) (by omega) (by omega)).mono ?_
      rintro e w7 ⟨rfl, hb7⟩
      have h7 := h6.trans (hb7.mono h6.size)
      have hz := hb.size
      have hz7 := h7.size
      have hkk0 : 0 ≤ (k : Int) * (k : Int) := Int.mul_nonneg (by omega) (by omega)
      have hkk1 : (k : Int) * (k : Int) ≤ 40000 := Int.le_trans (Int.mul_le_mul (show (k : Int) ≤ 200 by omega) (show (k : Int) ≤ 200 by omega) (by omega) (by omega)) (by omega)
      obtain ⟨y2, hy2⟩ := one_cell (((k : Int) * (k : Int) + 3) % 256) (by omega) (by omega)
      have HY := Lib.hid hy2
      clear hy2
      go_wp2_with (first
        | (at_builtin; refine wpList_app rfl (.tmp 60) (.tmp 66) rfl rfl w.heap.size A k c l rfl (hw.below rfl (h7.alloc hz7 _)) (some ⟨w7.heap.size, 0, none⟩) 1 1 [y2] _ rfl (own_lit w7 w.heap.size [y2] _ HY.out (by omega) (show 1 ≤ 4096 from by omega)).rd (k + 1) rfl (l ++ [y2]) rfl (by omega) (by simp; omega) ?_; intro A8 c8 w8 hw8 hb8))
      go_roundw
      case rel => exact ⟨k + 1, A8, c8, l ++ [y2], by omega, by go_num, rfl, hw8, (hb.trans (h7.mono hz)).trans (((Below.refl _ _).alloc (by omega) _).trans hb8)⟩
      case measure => simp [intOf]; omega
    · go_wp2_with fail
      refine (known_any wr).mono ?_
      rintro e w1 ⟨rfl, hb1⟩
      go_wp2_with fail
      go_ret
      exact ⟨rfl, hb.trans (hb1.mono hb.size)⟩

set_option maxRecDepth 100000 in
theorem lifted (os : Os) (started : os.Started) (H : Type) (enc : TypeId × Value → H) :
    ReturnsInHanded {} Try.checked os 3 .any (Rows.sumNumbersSpec.pre6 enc Try.prog Try.f3 Rows.sumNumbersRow.domain false) (Rows.sumNumbersSpec.post enc Try.prog Try.f3 false true false false) := by
  refine returnsInHanded_of_change_sized (C := Try.checked) own started (by kernel_rfl) Try.func3
    (ChangeSpec.witness6 (enc := enc) (C := Try.checked) false ⟨#[], #[], []⟩ 8 (by kernel_rfl) (by kernel_rfl) (by kernel_rfl) (by kernel_rfl)) ?_
  intro W base args ds gs before hval0 hW hcnd hsz0 _
  have hval : ∀ (j : Nat) t v, Try.f3.params[j]? = some t → args[j]? = some v → Value.okWide Try.prog W .any base t v := hval0
  have hW' := hW
  obtain ⟨p, q, hA0, hV, rfl, hfz, hnd⟩ := hW
  have hA : DataW.TrodAll enc Try.prog W 0 (fun _ => true) true Try.f3.params.toList args.toList ds p := hA0
  rw [Try.params3] at hA hval
  obtain ⟨rfl, rfl, rfl⟩ := trodAll_none hA
  obtain ⟨rfl, rfl⟩ := trodVars_none hV
  clear hA0 hval0
  refine (walk  W ).mono fun e W' ⟨he, bel⟩ => ?_
  subst he
  exact ⟨_, rfl, _, _, _, [], _, [], hW', trodAll_mk1 (shut_bool Try.underlying4 _), trodAll_mk0, rfl, bel.frame _, fun h => by cases h⟩

theorem proved : Rows.SumNumbersSaid :=
  OpenClaim.holds_of_wide 3 Try.f3 rfl rfl rfl rfl rfl rfl rfl ⟨rfl, rfl, rfl, rfl, rfl⟩ rfl rfl rfl rfl rfl (by kernel_rfl) Try.func3 (by kernel_rfl)
    (of_decide_eq_true (by kernel_rfl)) (by unfold Func.isWrapper; first | (rw [if_pos (by decide +kernel)]; kernel_rfl) | (rw [if_neg (by decide +kernel)]; exact ⟨rfl, rfl⟩))
    (fun os started H enc _ => lifted os started H enc)
end Go.Proofs.Ytpbnbmnfkkkfkaa.sumNumbers
