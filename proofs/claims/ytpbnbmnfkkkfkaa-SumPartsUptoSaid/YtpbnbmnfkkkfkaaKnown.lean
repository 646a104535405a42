/- Chapter 1's runs, as the statements ask them again and again: true, whatever the memory. -/
import Derived.Test.YtpbnbmnfkkkfkaaRopen
import Derived.Lib.SmallJoins
namespace Go.Proofs.Ytpbnbmnfkkkfkaa
open Go.RowKit Go.Joins
set_option linter.unusedSimpArgs false

theorem open_sealed (A : Option Addr) (n m cap : Nat) (l : List UInt8) (w : World) (h : Rd w w.heap.size A m (Crc.seal4 l)) (hl : l.length = n) (hn : m ≤ 140737488355328) (hcap : m ≤ cap) :
    Calls Try.prog 13 #[.slice A m cap] w fun e w' => ∃ A' c', e = .returned (.tuple #[.slice A' n c', .bool true]) ∧ Own w' w.heap.size A' n c' l ∧ Below w.heap.size w w' := by
  refine (open_any A m cap _ w h hn hcap).mono ?_
  rintro e w' ⟨A', c', he, ho, hb⟩
  rw [Crc.ook_seal, Crc.oval_seal, hl] at he
  rw [Crc.oval_seal, hl] at ho
  exact ⟨A', c', he, ho, hb⟩
theorem open_few (A : Option Addr) (m cap : Nat) (l : List UInt8) (w : World) (h : Rd w w.heap.size A m l) (hm : m < 4) (hcap : m ≤ cap) :
    Calls Try.prog 13 #[.slice A m cap] w fun e w' => ∃ A' c', e = .returned (.tuple #[.slice A' 0 c', .bool false]) ∧ Below w.heap.size w w' := by
  refine (open_any A m cap _ w h (by omega) hcap).mono ?_
  rintro e w' ⟨A', c', he, ho, hb⟩
  have h1 := Crc.ook_short l (by rw [h.1]; exact hm)
  rw [h1, Crc.oval_not l h1] at he
  exact ⟨A', c', he, hb⟩
theorem of_run (A : Option Addr) (cap B : Nat) (w : World) (h : Rd w B A 9 [49, 50, 51, 52, 53, 54, 55, 56, 57]) :
    Calls Try.prog 14 #[.slice A 9 cap] w fun e w' => e = .returned (.int .u32 4236843288) ∧ w = w' := by
  refine (of_any A 9 cap _ B w h (by omega)).mono ?_
  rintro e w' ⟨he, hw⟩
  rw [Crc.of_123456789] at he
  exact ⟨he, hw⟩
theorem of_none (cap : Nat) (w : World) : Calls Try.prog 14 #[.slice none 0 cap] w fun e w' => e = .returned (.int .u32 0) ∧ w = w' := by
  refine (of_any none 0 cap [] 0 w (rd_nil w 0) (by omega)).mono ?_
  rintro e w' ⟨he, hw⟩
  rw [Crc.of_nil] at he
  exact ⟨he, hw⟩

/-- It answers true, and leaves what was there. -/
def Yes (w : World) (e : Ending) (w' : World) : Prop := e = .returned (.bool true) ∧ Below w.heap.size w w'

theorem rd_mark (w : World) (C : Array Value) (fr : Nat × Nat) (l : List UInt8) (n g : Nat) (hg : g = w.heap.size) (hn : l.length = n) (hC : C.toList = bs l) : Rd (w.alloc (.cells C 5 fr)) (w.heap.size + 1) (some ⟨g, 0, none⟩) n l := by
  subst hg
  refine ⟨hn, fun _ => ⟨_, rfl, Nat.lt_succ_self _, fun j hj => ?_⟩⟩
  have e : (⟨w.heap.size, 0, none⟩ : Addr).add j = ⟨w.heap.size, j, none⟩ := by unfold Addr.add; split <;> simp_all
  rw [e, World.cell?_alloc_mark]
  have : C[j]? = (bs l)[j]? := by rw [← hC, Array.getElem?_toList]
  rw [this]
  simp [bs, hj]

set_option maxHeartbeats 2000000 in
theorem known_any (w : World) : Calls Try.prog 10 #[] w (Yes w) := by
  have p1 := run_convert_bytes_const_at (P := Try.prog) w 22 5 #[.int .u8 97, .int .u8 98] 2 2 _ rfl Try.underlying22 Try.underlying5
  go_enter Try.func10, Try.ntmps10
  go_wp2_with fail
  refine (seal_any (some ⟨w.heap.size, 0, none⟩) 2 2 [97, 98] _ ((rd_mark w #[.int .u8 97, .int .u8 98] _ [97, 98] 2 _ rfl rfl rfl).more (by simp)) (by omega)).mono ?_
  rintro e w1 ⟨A1, c1, rfl, hw1, hb1⟩
  have hk1 := Lib.hid hw1.cap
  clear p1
  go_wp2_with fail
  refine (open_sealed A1 2 6 c1 [97, 98] w1 hw1.rd rfl (by omega) hk1.out).mono ?_
  rintro e w2 ⟨A2, c2, rfl, hw2, hb2⟩
  go_wp2_with fail
  refine (open_few (some ⟨w2.heap.size, 0, none⟩) 3 3 [1, 2, 3] _ (own_lit w2 w2.heap.size [1, 2, 3] #[.int .u8 1, .int .u8 2, .int .u8 3] rfl (Nat.le_refl _) (by decide)).rd (by omega) (by omega)).mono ?_
  rintro e w3 ⟨A3, c3, rfl, hb3⟩
  have hb4 : Below w2.heap.size w2 w3 := ((Below.refl _ _).alloc (Nat.le_refl _) _).trans (hb3.mono (by simp))
  have p9 := run_convert_bytes_const_at (P := Try.prog) w3 22 5 #[.int .u8 49, .int .u8 50, .int .u8 51, .int .u8 52, .int .u8 53, .int .u8 54, .int .u8 55, .int .u8 56, .int .u8 57] 9 9 _ rfl Try.underlying22 Try.underlying5
  go_wp2_with fail
  refine (of_run (some ⟨w3.heap.size, 0, none⟩) 9 _ _ (rd_mark w3 _ _ _ 9 _ rfl rfl rfl)).mono ?_
  rintro e w4 ⟨rfl, rfl⟩
  clear p9
  go_wp2_with fail
  refine (of_none _ _).mono ?_
  rintro e w4 ⟨rfl, rfl⟩
  have q := run_conv (w3.alloc (.cells #[.int .u8 49, .int .u8 50, .int .u8 51, .int .u8 52, .int .u8 53, .int .u8 54, .int .u8 55, .int .u8 56, .int .u8 57] 5 (9, 10))) w2.heap.size A2 2 c2 [97, 98] ((hw2.rd.below hb4).alloc hb4.size _)
  have q2 := str_toList [97, 98]
  go_wp2_with fail
  refine (seal_any none 0 0 [] _ (rd_nil _ _) (by omega)).mono ?_
  rintro e w5 ⟨A5, c5, rfl, hw5, hb5⟩
  go_wp2_with fail
  go_ret
  have k1 : Below w.heap.size w w1 := ((Below.refl _ _).alloc (Nat.le_refl _) _).trans (hb1.mono (by simp))
  have k2 := k1.trans (hb2.mono k1.size)
  have k3 := k2.trans (hb4.mono k2.size)
  exact ⟨rfl, (k3.alloc k3.size _).trans (hb5.mono (by have := k3.size; simp; omega))⟩
end Go.Proofs.Ytpbnbmnfkkkfkaa
