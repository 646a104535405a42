/- The calls that only compute: one byte's step (the program's and the document's), a number held between two, a row's sum, four bytes read. -/
import Derived.Test.YtpbnbmnfkkkfkaaRows
import Derived.Test.YtpbnbmnfkkkfkaaMath
import Derived.WalkKit
import Derived.WalkSpells
import Derived.WalkLawsBesides
import Derived.Lib.Hide
namespace Go.Proofs.Ytpbnbmnfkkkfkaa
open Go.RowKit

theorem bx (a b : BitVec 32) : bits .xor .u32 (a.toNat : Int) (b.toNat : Int) = ((a ^^^ b).toNat : Int) := by
  rw [u32_xor_nat _ _ a.isLt b.isLt, BitVec.toNat_xor]
theorem bor (a b : BitVec 32) : bits .or .u32 (a.toNat : Int) (b.toNat : Int) = ((a ||| b).toNat : Int) := by
  rw [u32_or_nat _ _ a.isLt b.isLt, BitVec.toNat_or]
theorem up_nat (x : UInt8) : (x.toNat : Int) % 4294967296 * 16777216 % 4294967296 = ((Crc.up x).toNat : Int) := by
  have h : x.toNat < 256 := x.toBitVec.isLt
  have e : (Crc.up x).toNat = x.toNat * 16777216 % 4294967296 := by
    simp [Crc.up, BitVec.toNat_shiftLeft, Nat.shiftLeft_eq]
  rw [e]; omega
theorem start_nat (c : BitVec 32) (x : UInt8) : bits .xor .u32 (c.toNat : Int) ((x.toNat : Int) % 4294967296 * 16777216 % 4294967296) = ((Crc.stpN 0 (c ^^^ Crc.up x)).toNat : Int) := by
  rw [up_nat, bx]; rfl
theorem msb_yes (c : BitVec 32) (h : c.msb = true) : ((c.toNat : Int) / 2147483648 == 1) = true := by
  have := c.isLt
  rw [BitVec.msb_eq_decide] at h
  simp at h ⊢; omega
theorem msb_no (c : BitVec 32) (h : ¬ c.msb = true) : ((c.toNat : Int) / 2147483648 == 1) = false := by
  rw [BitVec.msb_eq_decide] at h
  simp at h ⊢; omega
theorem shl_nat (c : BitVec 32) : (c.toNat : Int) * (2 : Int) % (4294967296 : Int) = ((c <<< 1).toNat : Int) := by
  rw [BitVec.toNat_shiftLeft]; simp [Nat.shiftLeft_eq]
theorem stp_yes (c : BitVec 32) (h : c.msb = true) : bits .xor .u32 ((c.toNat : Int) * (2 : Int) % (4294967296 : Int)) 79764919 = ((Crc.stp c).toNat : Int) := by
  rw [shl_nat]
  show bits .xor .u32 _ (((79764919#32).toNat : Nat) : Int) = _
  rw [bx]; unfold Crc.stp; rw [if_pos h]; rfl
theorem stp_no (c : BitVec 32) (h : ¬ c.msb = true) : (c.toNat : Int) * (2 : Int) % (4294967296 : Int) = ((Crc.stp c).toNat : Int) := by
  rw [shl_nat]; unfold Crc.stp; rw [if_neg h]
theorem u32_eq {a b : Int} (h : a = b) : Value.int .u32 a = .int .u32 b := by rw [h]
theorem ret_u32 {a b : Int} (h : a = b) : Ending.returned (.int .u32 a) = .returned (.int .u32 b) := by rw [h]

set_option maxHeartbeats 400000 in
theorem next_any (c : BitVec 32) (x : UInt8) (w : World) :
    Calls Try.prog 15 #[.int .u32 (c.toNat : Int), .int .u8 (x.toNat : Int)] w fun e w' => e = .returned (.int .u32 ((Crc.nxt c x).toNat : Int)) ∧ w = w' := by
  go_enter Try.func15, Try.ntmps15
  go_wp2
  go_loop [0, 11] (fun t i => ∃ k : Nat, k ≤ 8 ∧ i = .int .i64 k ∧ t = .int .u32 ((Crc.stpN k (c ^^^ Crc.up x)).toNat : Int)) (fun _ i => 8 - (intOf i).toNat)
  case atStart => exact ⟨0, by omega, rfl, u32_eq (start_nat c x)⟩
  case round =>
    obtain ⟨k, hk, rfl, rfl⟩ := hrel
    by_cases hlt : k < 8
    · by_cases hm : (Crc.stpN k (c ^^^ Crc.up x)).msb = true
      · have h1 := msb_yes _ hm
        have H := Lib.hid (stp_yes _ hm)
        clear hm
        go_wp2
        go_round
        case rel => exact ⟨k + 1, by omega, by go_num, u32_eq H.out⟩
        case measure => simp [intOf]; omega
      · have h1 := msb_no _ hm
        have H := Lib.hid (stp_no _ hm)
        clear hm
        go_wp2
        go_round
        case rel => exact ⟨k + 1, by omega, by go_num, u32_eq H.out⟩
        case measure => simp [intOf]; omega
    · obtain rfl : k = 8 := by omega
      go_wp2
      go_ret
      exact ⟨rfl, rfl⟩

set_option maxHeartbeats 400000 in
theorem rnext_any (c : BitVec 32) (x : UInt8) (w : World) :
    Calls Try.prog 18 #[.int .u32 (c.toNat : Int), .int .u8 (x.toNat : Int)] w fun e w' => e = .returned (.int .u32 ((Crc.nxt c x).toNat : Int)) ∧ w = w' := by
  go_enter Try.func18, Try.ntmps18
  go_wp2
  go_loop [0, 5] (fun t i => ∃ k : Nat, k ≤ 8 ∧ i = .int .i64 k ∧ t = .int .u32 ((Crc.stpN k (c ^^^ Crc.up x)).toNat : Int)) (fun _ i => 8 - (intOf i).toNat)
  case atStart => exact ⟨0, by omega, rfl, u32_eq (start_nat c x)⟩
  case round =>
    obtain ⟨k, hk, rfl, rfl⟩ := hrel
    by_cases hlt : k < 8
    · by_cases hm : (Crc.stpN k (c ^^^ Crc.up x)).msb = true
      · have h1 := msb_yes _ hm
        have H := Lib.hid (stp_yes _ hm)
        clear hm
        go_wp2
        go_round
        case rel => exact ⟨k + 1, by omega, by go_num, u32_eq H.out⟩
        case measure => simp [intOf]; omega
      · have h1 := msb_no _ hm
        have H := Lib.hid (stp_no _ hm)
        clear hm
        go_wp2
        go_round
        case rel => exact ⟨k + 1, by omega, by go_num, u32_eq H.out⟩
        case measure => simp [intOf]; omega
    · obtain rfl : k = 8 := by omega
      go_wp2
      go_ret
      exact ⟨rfl, rfl⟩

/-- A slice at A, of n bytes, holds the bytes l; where it holds any it lies below block B. -/
def Rd (w : World) (B : Nat) (A : Option Addr) (n : Nat) (l : List UInt8) : Prop :=
  l.length = n ∧ (0 < n → ∃ ad, A = some ad ∧ ad.block < B ∧ ∀ j (h : j < l.length), w.cell? (ad.add j) = some (.int .u8 (l[j].toNat : Int)))

section
variable {w w' : World} {B B' n : Nat} {A : Option Addr} {l : List UInt8}
theorem Rd.at_ {k : Nat} (h : Rd w B A n l) (hk : k < n) : ∃ ad x, A = some ad ∧ ad.block < B ∧ l[k]? = some x ∧ w.cell? (ad.add k) = some (.int .u8 (x.toNat : Int)) := by
  obtain ⟨ad, e, hb, hc⟩ := h.2 (by omega)
  have hl : k < l.length := by have := h.1; omega
  exact ⟨ad, l[k], e, hb, List.getElem?_eq_getElem hl, hc k hl⟩
theorem Rd.keep (h : Rd w B A n l) (hk : ∀ p : Addr, p.block < B → w'.cell? p = w.cell? p) : Rd w' B A n l :=
  ⟨h.1, fun hn => by
    obtain ⟨ad, e, hb, hc⟩ := h.2 hn
    refine ⟨ad, e, hb, fun j hj => ?_⟩
    have e1 : (ad.add j).block = ad.block := by unfold Addr.add; split <;> rfl
    exact (hk _ (by rw [e1]; exact hb)).trans (hc j hj)⟩
theorem Rd.more (h : Rd w B A n l) (hB : B ≤ B') : Rd w B' A n l :=
  ⟨h.1, fun hn => by
    obtain ⟨ad, e, hb, hc⟩ := h.2 hn
    exact ⟨ad, e, by omega, hc⟩⟩
theorem Rd.below (h : Rd w B A n l) (hb : Below B w w') : Rd w' B A n l := h.keep fun _ hp => hb.cell hp
theorem Rd.drew (h : Rd w B A n l) : Rd w.drew B A n l := h
theorem Rd.alloc (h : Rd w B A n l) (hB : B ≤ w.heap.size) (o : Obj) : Rd (w.alloc o) B A n l := h.keep fun p hp => World.cell?_alloc_lt w o p (by omega)
end

theorem fld_snoc (c : BitVec 32) (l : List UInt8) (k : Nat) (x : UInt8) (h : l[k]? = some x) : Crc.fld c (l.take (k + 1)) = Crc.nxt (Crc.fld c (l.take k)) x := by
  have : l.take (k + 1) = l.take k ++ [x] := by rw [List.take_add_one, h]; rfl
  rw [this, Crc.fld_append]; rfl
theorem flip_nat (c : BitVec 32) : bits .xor .u32 (-1) (c.toNat : Int) = ((~~~c).toNat : Int) := by
  show IntKind.u32.wrap ((BitVec.ofInt 32 (-1) ^^^ BitVec.ofInt 32 (c.toNat : Int)).toNat : Int) = _
  have : BitVec.ofInt 32 (c.toNat : Int) = c := by simp
  rw [this, IntKind.wrap_u32']
  have e : (BitVec.ofInt 32 (-1) ^^^ c) = ~~~c := by
    rw [show BitVec.ofInt 32 (-1) = BitVec.allOnes 32 from by decide]
    exact BitVec.allOnes_xor
  rw [e]
  have := (~~~c).isLt
  omega

theorem of_end (n : Nat) (l : List UInt8) (h : l.length = n) : bits .xor .u32 (-1) ((Crc.fld Crc.ones (l.take n)).toNat : Int) = ((Crc.of l).toNat : Int) := by
  rw [List.take_of_length_le (by omega), flip_nat]; rfl
theorem rd_snoc (l : List UInt8) (k : Nat) (x : UInt8) (h : l[k]? = some x) : Crc.rd (l.take (k + 1)) = Crc.rd1 (Crc.rd (l.take k)) x := by
  have : l.take (k + 1) = l.take k ++ [x] := by rw [List.take_add_one, h]; rfl
  rw [this]; simp [Crc.rd, List.foldl_append]
theorem rd1_nat (c : BitVec 32) (x : UInt8) : bits .or .u32 ((c.toNat : Int) * (256 : Int) % (4294967296 : Int)) ((x.toNat : Int) % (4294967296 : Int)) = ((Crc.rd1 c x).toNat : Int) := by
  have e1 : (c.toNat : Int) * (256 : Int) % (4294967296 : Int) = ((c <<< 8).toNat : Int) := by rw [BitVec.toNat_shiftLeft]; simp [Nat.shiftLeft_eq]
  have e2 : (x.toNat : Int) % (4294967296 : Int) = ((x.toBitVec.setWidth 32).toNat : Int) := by
    have h : x.toNat < 256 := x.toBitVec.isLt
    simp; omega
  rw [e1, e2, bor]; rfl
theorem rd_end (n : Nat) (l : List UInt8) (h : l.length = n) : ((Crc.rd (l.take n)).toNat : Int) = ((Crc.rd l).toNat : Int) := by
  rw [List.take_of_length_le (by omega)]

set_option maxHeartbeats 400000 in
theorem of_any (A : Option Addr) (n cap : Nat) (l : List UInt8) (B : Nat) (w : World) (h : Rd w B A n l) (hn : n ≤ 9223372036854775807) :
    Calls Try.prog 14 #[.slice A n cap] w fun e w' => e = .returned (.int .u32 ((Crc.of l).toNat : Int)) ∧ w = w' := by
  have H0 := Lib.hid h.1
  go_enter Try.func14, Try.ntmps14
  go_wp2
  go_loop [3, 8] (fun t i => ∃ k : Nat, k ≤ n ∧ i = .int .i64 k ∧ t = .int .u32 ((Crc.fld Crc.ones (l.take k)).toNat : Int)) (fun _ i => n - (intOf i).toNat)
  case atStart => exact ⟨0, by omega, rfl, rfl⟩
  case round =>
    obtain ⟨k, hk, rfl, rfl⟩ := hrel
    by_cases hlt : k < n
    · obtain ⟨ad, x, rfl, _, hx, hc⟩ := h.at_ hlt
      have H := Lib.hid (fld_snoc Crc.ones l k x hx)
      clear hx
      go_wp2_with (go_at_call 15; refine (next_any _ _ _).mono ?_; rintro e w' ⟨rfl, rfl⟩)
      go_round
      case rel => exact ⟨k + 1, by omega, by go_num, by rw [H.out]⟩
      case measure => simp [intOf]; omega
    · obtain rfl : k = n := by omega
      go_wp2
      go_ret
      exact ⟨ret_u32 (of_end k l H0.out), rfl⟩

set_option maxHeartbeats 400000 in
theorem rsum_any (A : Option Addr) (n cap : Nat) (l : List UInt8) (B : Nat) (w : World) (h : Rd w B A n l) (hn : n ≤ 9223372036854775807) :
    Calls Try.prog 16 #[.slice A n cap] w fun e w' => e = .returned (.int .u32 ((Crc.of l).toNat : Int)) ∧ w = w' := by
  have H0 := Lib.hid h.1
  go_enter Try.func16, Try.ntmps16
  go_wp2
  go_loop [3, 4] (fun t i => ∃ k : Nat, k ≤ n ∧ i = .int .i64 k ∧ t = .int .u32 ((Crc.fld Crc.ones (l.take k)).toNat : Int)) (fun _ i => n - (intOf i).toNat)
  case atStart => exact ⟨0, by omega, rfl, rfl⟩
  case round =>
    obtain ⟨k, hk, rfl, rfl⟩ := hrel
    by_cases hlt : k < n
    · obtain ⟨ad, x, rfl, _, hx, hc⟩ := h.at_ hlt
      have H := Lib.hid (fld_snoc Crc.ones l k x hx)
      clear hx
      go_wp2_with (go_at_call 18; refine (rnext_any _ _ _).mono ?_; rintro e w' ⟨rfl, rfl⟩)
      go_round
      case rel => exact ⟨k + 1, by omega, by go_num, by rw [H.out]⟩
      case measure => simp [intOf]; omega
    · obtain rfl : k = n := by omega
      go_wp2
      go_ret
      exact ⟨ret_u32 (of_end k l H0.out), rfl⟩

set_option maxHeartbeats 400000 in
theorem read_any (A : Option Addr) (n cap : Nat) (l : List UInt8) (B : Nat) (w : World) (h : Rd w B A n l) (hn : n ≤ 9223372036854775807) :
    Calls Try.prog 19 #[.slice A n cap] w fun e w' => e = .returned (.int .u32 ((Crc.rd l).toNat : Int)) ∧ w = w' := by
  have H0 := Lib.hid h.1
  go_enter Try.func19, Try.ntmps19
  go_wp2
  go_loop [3, 8] (fun t i => ∃ k : Nat, k ≤ n ∧ i = .int .i64 k ∧ t = .int .u32 ((Crc.rd (l.take k)).toNat : Int)) (fun _ i => n - (intOf i).toNat)
  case atStart => exact ⟨0, by omega, rfl, rfl⟩
  case round =>
    obtain ⟨k, hk, rfl, rfl⟩ := hrel
    by_cases hlt : k < n
    · obtain ⟨ad, x, rfl, _, hx, hc⟩ := h.at_ hlt
      have H := Lib.hid (rd_snoc l k x hx)
      clear hx
      go_wp2
      go_round
      case rel => exact ⟨k + 1, by omega, by go_num, by rw [H.out]; exact u32_eq (rd1_nat _ _)⟩
      case measure => simp [intOf]; omega
    · obtain rfl : k = n := by omega
      go_wp2
      go_ret
      exact ⟨ret_u32 (rd_end k l H0.out), rfl⟩

/-- Of a number whatever, held between 0 and m. -/
def Between (m : Nat) (w : World) (e : Ending) (w' : World) : Prop := ∃ k : Nat, k ≤ m ∧ e = .returned (.int .i64 k) ∧ w = w'
theorem between_mk (m : Nat) (w : World) (e : Ending) (z : Int) (h0 : 0 ≤ z) (h1 : z ≤ m) (he : e = .returned (.int .i64 z)) : Between m w e w :=
  ⟨z.toNat, by omega, by rw [he]; congr 2; omega, rfl⟩
theorem tmod_low (n : Int) (m : Nat) (h : n < 0) : -(m : Int) ≤ n.tmod (m + 1) ∧ n.tmod (m + 1) ≤ 0 := by
  have h1 : n.tmod (m + 1) = -((-n) % ((m : Int) + 1)) := by
    rw [Int.tmod_eq_emod_of_nonneg (a := -n) (by omega) |>.symm, Int.neg_tmod, Int.neg_neg]
  have h2 := Int.emod_nonneg (-n) (b := (m : Int) + 1) (by omega)
  have h3 := Int.emod_lt_of_pos (-n) (b := (m : Int) + 1) (by omega)
  omega
set_option maxRecDepth 100000 in
set_option maxHeartbeats 400000 in
theorem within_any (n : Int) (m : Nat) (w : World) (hm : m < 4611686018427387904) :
    Calls Try.prog 11 #[.int .i64 n, .int .i64 0, .int .i64 m] w (Between m w) := by
  have hm0 : (0 : Int) ≤ (m : Int) := Int.natCast_nonneg _
  by_cases h0 : 0 ≤ n
  · by_cases h1 : n ≤ (m : Int)
    · go_enter Try.func11, Try.ntmps11
      go_wp2
      go_ret
      exact between_mk _ _ _ n h0 h1 rfl
    · have h2 := Int.emod_nonneg n (b := (m : Int) + 1) (by omega)
      have h3 : n % ((m : Int) + 1) ≤ m := by have := Int.emod_lt_of_pos n (b := (m : Int) + 1) (by omega); omega
      go_enter Try.func11, Try.ntmps11
      go_wp2
      go_ret
      exact between_mk _ _ _ _ h2 h3 (by simp)
  · obtain ⟨h2, h3⟩ := tmod_low n m (by omega)
    by_cases h4 : n.tmod ((m : Int) + 1) < 0
    · go_enter Try.func11, Try.ntmps11
      go_wp2
      go_ret
      refine between_mk _ _ _ (n.tmod ((m : Int) + 1) + m + 1) (by omega) (by omega) (by simp)
    · go_enter Try.func11, Try.ntmps11
      go_wp2
      go_ret
      refine between_mk _ _ _ (n.tmod ((m : Int) + 1)) (by omega) (by omega) (by simp)
theorem within_at (n M : Int) (m : Nat) (w : World) (hM : M = (m : Int)) (hm : m < 4611686018427387904) :
    Calls Try.prog 11 #[.int .i64 n, .int .i64 0, .int .i64 M] w (Between m w) := by
  subst hM
  exact within_any n m w hm
end Go.Proofs.Ytpbnbmnfkkkfkaa
