/- What seals: the document's and the program's: the bytes, and their sum behind them, in new memory. -/
import Derived.Test.YtpbnbmnfkkkfkaaMem
namespace Go.Proofs.Ytpbnbmnfkkkfkaa
open Go.RowKit

theorem byte24 (c : BitVec 32) : (c.toNat : Int) / (16777216 : Int) = (((UInt8.ofBitVec (c.extractLsb' 24 8)).toNat : Nat) : Int) := by
  have h := c.isLt
  have : (UInt8.ofBitVec (c.extractLsb' 24 8)).toNat = (c.toNat >>> 24) % 256 := by simp
  rw [this, Nat.shiftRight_eq_div_pow]; omega
theorem byte16 (c : BitVec 32) : (c.toNat : Int) / (65536 : Int) % (256 : Int) = (((UInt8.ofBitVec (c.extractLsb' 16 8)).toNat : Nat) : Int) := by
  have : (UInt8.ofBitVec (c.extractLsb' 16 8)).toNat = (c.toNat >>> 16) % 256 := by simp
  rw [this, Nat.shiftRight_eq_div_pow]; omega
theorem byte8 (c : BitVec 32) : (c.toNat : Int) / (256 : Int) % (256 : Int) = (((UInt8.ofBitVec (c.extractLsb' 8 8)).toNat : Nat) : Int) := by
  have : (UInt8.ofBitVec (c.extractLsb' 8 8)).toNat = (c.toNat >>> 8) % 256 := by simp
  rw [this, Nat.shiftRight_eq_div_pow]; omega
theorem byte0 (c : BitVec 32) : (c.toNat : Int) % (256 : Int) = (((UInt8.ofBitVec (c.extractLsb' 0 8)).toNat : Nat) : Int) := by
  have : (UInt8.ofBitVec (c.extractLsb' 0 8)).toNat = c.toNat % 256 := by simp
  rw [this]; omega
theorem sum_cells (c : BitVec 32) : (#[Value.int .u8 ((c.toNat : Int) / 16777216), .int .u8 ((c.toNat : Int) / 65536 % 256), .int .u8 ((c.toNat : Int) / 256 % 256), .int .u8 ((c.toNat : Int) % 256)] : Array Value).toList = bs (Crc.sb c) := by
  rw [byte24, byte16, byte8, byte0]; rfl

theorem sb_small (c : BitVec 32) : (Crc.sb c).length ≤ 4096 := by rw [Crc.sb_length]; omega
/-- A slice in new memory that holds l, n bytes: the call's own. -/
def Made (w : World) (n : Nat) (l : List UInt8) (e : Ending) (w' : World) : Prop :=
  ∃ A c, e = .returned (.slice A n c) ∧ Own w' w.heap.size A n c l ∧ Below w.heap.size w w'

set_option maxHeartbeats 1000000 in
theorem rseal_any (A : Option Addr) (n cap : Nat) (l : List UInt8) (w : World) (h : Rd w w.heap.size A n l) (hn : n ≤ 140737488355000) :
    Calls Try.prog 8 #[.slice A n cap] w (Made w (n + 4) (Crc.seal4 l)) := by
  go_enter Try.func8, Try.ntmps8
  go_wp2_with (first
    | (go_at_call 16; refine (rsum_any _ _ _ _ _ _ h (by omega)).mono ?_; rintro e w' ⟨rfl, rfl⟩)
    | (at_builtin; refine wpList_app rfl (.tmp 6) (.tmp 7) rfl rfl w.heap.size (some ⟨w.heap.size, 0, none⟩) 0 0 [] rfl (own_lit w w.heap.size [] #[] rfl (Nat.le_refl _) (by decide)) A n cap l w.heap.size rfl (h.alloc (Nat.le_refl _) _) n (Nat.zero_add _) l (List.nil_append _) (by omega) (by simp) ?_; intro A1 c1 w1 hw1 hb1)
    | (at_builtin; refine wpList_app rfl (.tmp 8) (.tmp 20) rfl rfl w.heap.size A1 n c1 l rfl (hw1.below rfl ((Below.refl _ _).alloc (Nat.le_refl _) _)) (some ⟨w1.heap.size, 0, none⟩) 4 4 (Crc.sb (Crc.of l)) _ rfl (own_lit w1 w.heap.size (Crc.sb (Crc.of l)) _ (sum_cells _) (by have := hb1.size; simp at this; omega) (sb_small _)).rd (n + 4) rfl (Crc.seal4 l) rfl (by omega) (by have := hb1.size; simp at this ⊢; omega) ?_; intro A2 c2 w2 hw2 hb2))
  go_ret
  refine ⟨A2, c2, rfl, hw2, ?_⟩
  have s1 := hb1.size
  simp at s1
  exact ((Below.refl _ _).alloc (Nat.le_refl _) _).trans (hb1.trans (((Below.refl _ _).alloc (by omega) _).trans hb2))

set_option maxHeartbeats 1000000 in
theorem seal_any (A : Option Addr) (n cap : Nat) (l : List UInt8) (w : World) (h : Rd w w.heap.size A n l) (hn : n ≤ 140737488355000) :
    Calls Try.prog 12 #[.slice A n cap] w (Made w (n + 4) (Crc.seal4 l)) := by
  have H0 := Lib.hid h.1
  go_enter Try.func12, Try.ntmps12
  go_wp2_with (first
    | (at_make; refine wpList_mk rfl (.tmp 6) (.tmp 9) rfl w.heap.size n (n + 4) _ rfl rfl (by omega) (by omega) (by omega) (Nat.le_refl _) ?_; intro w1 hw1 hb1)
    | (with_reducible refine wpList_cp (o := ⟨some 13, _, _, _, _, _⟩) rfl (.tmp 11) (.tmp 12) rfl w.heap.size w.heap.size n (n + 4) n cap _ rfl hw1 A l w.heap.size rfl (h.below hb1) (Nat.le_refl _) ?_; intro w2 hw2 hb2)
    | (go_at_call 14; refine (of_any _ _ _ _ _ _ (h.below (hb1.trans hb2)) (by omega)).mono ?_; rintro e w' ⟨rfl, rfl⟩)
    | (at_builtin; refine wpList_app rfl (.tmp 16) (.tmp 28) rfl rfl w.heap.size (some ⟨w.heap.size, 0, none⟩) n (n + 4) _ rfl (hw2.below rfl ((Below.refl _ _).alloc (Nat.le_refl _) _)) (some ⟨w2.heap.size, 0, none⟩) 4 4 (Crc.sb (Crc.of l)) _ rfl (own_lit w2 w.heap.size (Crc.sb (Crc.of l)) _ (sum_cells _) (by have := (hb1.trans hb2).size; omega) (sb_small _)).rd (n + 4) rfl (Crc.seal4 l) (by rw [List.take_of_length_le (by have := H0.out; omega)]; rfl) (by omega) (by have := (hb1.trans hb2).size; simp; omega) ?_; intro A2 c2 w3 hw3 hb3))
  go_ret
  refine ⟨A2, c2, rfl, hw3, ?_⟩
  have s1 := (hb1.trans hb2).size
  exact (hb1.trans hb2).trans (((Below.refl _ _).alloc (by omega) _).trans hb3)
end Go.Proofs.Ytpbnbmnfkkkfkaa
