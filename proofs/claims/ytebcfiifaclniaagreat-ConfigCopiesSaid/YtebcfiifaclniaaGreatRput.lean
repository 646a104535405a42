/- What the document's package writes: numbers, texts and flags. -/
import Derived.Test.YtebcfiifaclniaaGreatPut
import Derived.Test.YtebcfiifaclniaaGreatStr
namespace Go.Proofs.YtebcfiifaclniaaGreat
set_option maxRecDepth 100000
open Go.RowKit
set_option linter.unusedSimpArgs false
set_option linter.unusedVariables false

theorem first_byte (f k : Nat) (hf : f ≤ 128) (hk : k ≤ 8) : (((UInt8.ofNat (f + k)).toNat : Nat) : Int) = f + k := by simp; omega
theorem low_byte (v : Nat) : (v : Int) % 256 = ((UInt8.ofNat v).toNat : Int) := by simp
theorem be_move (v : Nat) (y r : List UInt8) (h : v ≠ 0) (hy : Num.be v ++ y = r) : Num.be (v / 256) ++ UInt8.ofNat v :: y = r := by
  rw [← hy, Num.be_pos v h]; simp

set_option maxHeartbeats 1000000 in
theorem rput_any (A : Option Addr) (n cap : Nat) (l : List UInt8) (z : Int) (w : World) (h : Rd w w.heap.size A n l) (hn : n + 9 ≤ 140737488355328) (h1 : -9223372036854775808 ≤ z) (h2 : z ≤ 9223372036854775807) :
    Calls Tryz.prog 23 #[.slice A n cap, .int .i64 z] w (Made w (n + 1 + Num.wid z.natAbs) (l ++ Num.enc z)) := by
  by_cases hz : z < 0
  · obtain ⟨u, rfl, hu0, hu⟩ : ∃ u : Nat, z = -(u : Int) ∧ 0 < u ∧ u ≤ 9223372036854775808 := ⟨z.natAbs, by omega, by omega, by omega⟩
    have eu : (-(u : Int)).natAbs = u := by omega
    have ew : IntKind.u64.wrap (-IntKind.u64.wrap (-(u : Int))) = (u : Int) := by simp only [IntKind.wrap_u64]; omega
    have es : Num.enc (-(u : Int)) = UInt8.ofNat (128 + Num.wid u) :: Num.be u := by unfold Num.enc Num.sgn; rw [eu, if_pos (by omega)]
    rw [eu, es]
    have EU := Lib.hid ew
    have hw8 : Num.wid u ≤ 8 := Num.wid_le u 8 (by have : (256 : Nat) ^ 8 = 18446744073709551616 := by decide
                                                   omega)
    have E1 := Lib.hid (first_byte 128 (Num.wid u) (by omega) hw8)
    clear es eu ew
    go_enter Tryz.func23, Tryz.ntmps23
    go_wp2
    go_loopw [5, 7] (fun t x wr => ∃ (v m : Nat) (A : Option Addr) (c : Nat) (y : List UInt8), t = .int .u64 v ∧ x = .slice A m c ∧ Own wr w.heap.size A m c y ∧ Num.be v ++ y = Num.be u ∧ v ≤ u ∧ Below w.heap.size w wr) (fun t _ _ => (intOf t).toNat)
    case atStart => exact ⟨u, 0, none, 0, [], u64_eq (by have := EU.out; omega), rfl, World.ownsRow_nil _ _ _ _, List.append_nil _, Nat.le_refl _, Below.refl _ _⟩
    case round =>
      obtain ⟨v, m, A2, c2, y, rfl, rfl, hw, hy, hv, hb⟩ := hrel
      have H2 := Lib.hid hy
      have hm : Num.wid v + m = Num.wid u := by have := congrArg List.length hy; rw [List.length_append, hw.len] at this; exact this
      have hsz := hb.size
      clear hy
      by_cases hv0 : 0 < v
      · have E2 := Lib.hid (low_byte v)
        go_wp2_with (at_builtin; go_loud (refine wpList_app rfl (.tmp 20) (.tmp 21) rfl rfl w.heap.size (some ⟨wr.heap.size, 0, none⟩) 1 1 [UInt8.ofNat v] rfl (own_lit1 wr w.heap.size _ _ E2.out hsz) A2 m c2 y wr.heap.size rfl (hw.rd.alloc (Nat.le_refl _) _) (1 + m) rfl (UInt8.ofNat v :: y) rfl (by omega) (by simp; omega) ?_; intro A3 c3 w3 hw3 hb3))
        go_roundw
        case rel => exact ⟨v / 256, 1 + m, A3, c3, UInt8.ofNat v :: y, by go_num, rfl, hw3, be_move v y _ (by omega) H2.out, by omega, (hb.alloc hsz _).trans hb3⟩
        case measure => simp [intOf]; omega
      · obtain rfl : v = 0 := by omega
        obtain rfl : m = Num.wid u := by rw [Num.wid_zero] at hm; omega
        obtain rfl : y = Num.be u := by have := H2.out; rwa [Num.be_zero, List.nil_append] at this
        clear hm H2
        go_wp2_with (first
          | (at_builtin; refine wpList_app rfl (.tmp 23) (.tmp 24) rfl rfl wr.heap.size (some ⟨wr.heap.size, 0, none⟩) 0 0 [] rfl (own_lit wr wr.heap.size [] #[] rfl (Nat.le_refl _) (by decide)) A n cap l w.heap.size rfl ((h.below hb).alloc hsz _) n (Nat.zero_add _) l (List.nil_append _) (by omega) (by simp) ?_; intro A3 c3 w3 hw3 hb3; have hc3 : Below wr.heap.size wr w3 := ((Below.refl _ _).alloc (Nat.le_refl _) _).trans hb3; have hz3 := hc3.size)
          | (at_builtin; refine wpList_app rfl (.tmp 25) (.tmp 31) rfl rfl wr.heap.size A3 n c3 l rfl (hw3.below rfl ((Below.refl _ _).alloc (Nat.le_refl _) _)) (some ⟨w3.heap.size, 0, none⟩) 1 1 [UInt8.ofNat (128 + Num.wid u)] (w3.heap.size + 1) rfl (rd_lit1 w3 _ _ (by have := E1.out; omega)) (n + 1) rfl (l ++ [UInt8.ofNat (128 + Num.wid u)]) rfl (by omega) (by simp; omega) ?_; intro A4 c4 w4 hw4 hb4; have hc4 : Below wr.heap.size wr w4 := (hc3.alloc hz3 _).trans hb4; have hz4 := hc4.size)
          | (at_builtin; refine wpList_app rfl (.tmp 32) (.tmp 33) rfl rfl wr.heap.size A4 (n + 1) c4 _ rfl hw4 A2 (Num.wid u) c2 (Num.be u) wr.heap.size rfl (hw.rd.below hc4) (n + 1 + Num.wid u) rfl (l ++ UInt8.ofNat (128 + Num.wid u) :: Num.be u) (by simp) (by omega) hz4 ?_; intro A5 c5 w5 hw5 hb5))
        go_ret
        exact ⟨A5, c5, rfl, hw5.weak hsz, hb.trans ((hc4.trans hb5).mono hsz)⟩
  · obtain ⟨u, rfl⟩ : ∃ u : Nat, z = (u : Int) := ⟨z.natAbs, by omega⟩
    have eu : ((u : Int)).natAbs = u := by omega
    have hu : u ≤ 9223372036854775808 := by omega
    have ew : (u : Int) = (u : Int) := rfl
    have es : Num.enc (u : Int) = UInt8.ofNat (0 + Num.wid u) :: Num.be u := by unfold Num.enc Num.sgn; rw [eu, if_neg (by omega)]
    rw [eu, es]
    have EU := Lib.hid ew
    have hw8 : Num.wid u ≤ 8 := Num.wid_le u 8 (by have : (256 : Nat) ^ 8 = 18446744073709551616 := by decide
                                                   omega)
    have E1 := Lib.hid (first_byte 0 (Num.wid u) (by omega) hw8)
    clear es eu ew
    go_enter Tryz.func23, Tryz.ntmps23
    go_wp2
    go_loopw [5, 7] (fun t x wr => ∃ (v m : Nat) (A : Option Addr) (c : Nat) (y : List UInt8), t = .int .u64 v ∧ x = .slice A m c ∧ Own wr w.heap.size A m c y ∧ Num.be v ++ y = Num.be u ∧ v ≤ u ∧ Below w.heap.size w wr) (fun t _ _ => (intOf t).toNat)
    case atStart => exact ⟨u, 0, none, 0, [], u64_eq (by have := EU.out; omega), rfl, World.ownsRow_nil _ _ _ _, List.append_nil _, Nat.le_refl _, Below.refl _ _⟩
    case round =>
      obtain ⟨v, m, A2, c2, y, rfl, rfl, hw, hy, hv, hb⟩ := hrel
      have H2 := Lib.hid hy
      have hm : Num.wid v + m = Num.wid u := by have := congrArg List.length hy; rw [List.length_append, hw.len] at this; exact this
      have hsz := hb.size
      clear hy
      by_cases hv0 : 0 < v
      · have E2 := Lib.hid (low_byte v)
        go_wp2_with (at_builtin; go_loud (refine wpList_app rfl (.tmp 20) (.tmp 21) rfl rfl w.heap.size (some ⟨wr.heap.size, 0, none⟩) 1 1 [UInt8.ofNat v] rfl (own_lit1 wr w.heap.size _ _ E2.out hsz) A2 m c2 y wr.heap.size rfl (hw.rd.alloc (Nat.le_refl _) _) (1 + m) rfl (UInt8.ofNat v :: y) rfl (by omega) (by simp; omega) ?_; intro A3 c3 w3 hw3 hb3))
        go_roundw
        case rel => exact ⟨v / 256, 1 + m, A3, c3, UInt8.ofNat v :: y, by go_num, rfl, hw3, be_move v y _ (by omega) H2.out, by omega, (hb.alloc hsz _).trans hb3⟩
        case measure => simp [intOf]; omega
      · obtain rfl : v = 0 := by omega
        obtain rfl : m = Num.wid u := by rw [Num.wid_zero] at hm; omega
        obtain rfl : y = Num.be u := by have := H2.out; rwa [Num.be_zero, List.nil_append] at this
        clear hm H2
        go_wp2_with (first
          | (at_builtin; refine wpList_app rfl (.tmp 23) (.tmp 24) rfl rfl wr.heap.size (some ⟨wr.heap.size, 0, none⟩) 0 0 [] rfl (own_lit wr wr.heap.size [] #[] rfl (Nat.le_refl _) (by decide)) A n cap l w.heap.size rfl ((h.below hb).alloc hsz _) n (Nat.zero_add _) l (List.nil_append _) (by omega) (by simp) ?_; intro A3 c3 w3 hw3 hb3; have hc3 : Below wr.heap.size wr w3 := ((Below.refl _ _).alloc (Nat.le_refl _) _).trans hb3; have hz3 := hc3.size)
          | (at_builtin; refine wpList_app rfl (.tmp 25) (.tmp 31) rfl rfl wr.heap.size A3 n c3 l rfl (hw3.below rfl ((Below.refl _ _).alloc (Nat.le_refl _) _)) (some ⟨w3.heap.size, 0, none⟩) 1 1 [UInt8.ofNat (0 + Num.wid u)] (w3.heap.size + 1) rfl (rd_lit1 w3 _ _ (by have := E1.out; omega)) (n + 1) rfl (l ++ [UInt8.ofNat (0 + Num.wid u)]) rfl (by omega) (by simp; omega) ?_; intro A4 c4 w4 hw4 hb4; have hc4 : Below wr.heap.size wr w4 := (hc3.alloc hz3 _).trans hb4; have hz4 := hc4.size)
          | (at_builtin; refine wpList_app rfl (.tmp 32) (.tmp 33) rfl rfl wr.heap.size A4 (n + 1) c4 _ rfl hw4 A2 (Num.wid u) c2 (Num.be u) wr.heap.size rfl (hw.rd.below hc4) (n + 1 + Num.wid u) rfl (l ++ UInt8.ofNat (0 + Num.wid u) :: Num.be u) (by simp) (by omega) hz4 ?_; intro A5 c5 w5 hw5 hb5))
        go_ret
        exact ⟨A5, c5, rfl, hw5.weak hsz, hb.trans ((hc4.trans hb5).mono hsz)⟩
end Go.Proofs.YtebcfiifaclniaaGreat
