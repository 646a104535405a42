/- CodeNumbers: chapter 2's runs, numbers next to each power of two, rows cut off at each place, lengths of all kinds. -/
import Derived.Test.YtibhppjcochkgaaFrame
import Derived.Test.YtibhppjcochkgaaReads
namespace Go.Proofs.Ytibhppjcochkgaa.codeNumbers
open Go.ChangeShapes Go.WideShapes Go.ChangeAt Go.RowKit
set_option linter.unusedSimpArgs false
set_option linter.unusedVariables false

theorem wrap64_bd (x : Int) : -9223372036854775808 ≤ wrap64 x ∧ wrap64 x ≤ 9223372036854775807 := by rw [wrap64_eq]; omega

theorem be_5 : Num.be 5 = [5] := by
  rw [Num.be_pos 5 (by decide)]; show Num.be 0 ++ _ = _
  rw [Num.be_zero]; rfl
theorem whole_n : 0 + 1 + Num.wid (⟨#[119, 104, 111, 108, 101]⟩ : ByteArray).size + (⟨#[119, 104, 111, 108, 101]⟩ : ByteArray).size = 7 := by
  show 0 + 1 + Num.wid 5 + 5 = 7
  unfold Num.wid; rw [be_5]; rfl
def w1 (w : World) : World := (w).alloc (.cells #[.int .u8 0] 5)
def w2 (w : World) : World := (w1 w).alloc (.cells #[.int .u8 1] 5)
def w3 (w : World) : World := (w2 w).alloc (.cells #[.int .u8 255, .int .u8 1, .int .u8 1, .int .u8 1, .int .u8 1, .int .u8 1, .int .u8 1, .int .u8 1, .int .u8 1] 5)
def w4 (w : World) : World := (w3 w).alloc (.cells #[.int .u8 0, .int .u8 1, .int .u8 1, .int .u8 1, .int .u8 1, .int .u8 1, .int .u8 1, .int .u8 1, .int .u8 1] 5)
def w5 (w : World) : World := (w4 w).alloc (.cells #[.int .u8 128, .int .u8 0, .int .u8 0, .int .u8 0, .int .u8 0, .int .u8 0, .int .u8 0, .int .u8 0] 5)
def w6 (w : World) : World := (w5 w).alloc (.cells #[.int .u8 128, .int .u8 0, .int .u8 0, .int .u8 0, .int .u8 0, .int .u8 0, .int .u8 0, .int .u8 1] 5)
def w7 (w : World) : World := (w6 w).alloc (.cells #[.int .u8 127, .int .u8 255, .int .u8 255, .int .u8 255, .int .u8 255, .int .u8 255, .int .u8 255, .int .u8 255, .int .u8 9] 5)
def w8 (w : World) : World := (w7 w).alloc (.cells #[.slice none 0 0, .slice (some ⟨w.heap.size, 0, none⟩) 1 1, .slice (some ⟨w.heap.size + 1, 0, none⟩) 1 1, .slice (some ⟨w.heap.size + 1 + 1, 0, none⟩) 9 9, .slice (some ⟨w.heap.size + 1 + 1 + 1, 0, none⟩) 9 9, .slice (some ⟨w.heap.size + 1 + 1 + 1 + 1, 0, none⟩) 8 8, .slice (some ⟨w.heap.size + 1 + 1 + 1 + 1 + 1, 0, none⟩) 8 8, .slice (some ⟨w.heap.size + 1 + 1 + 1 + 1 + 1 + 1, 0, none⟩) 9 9] 23)
theorem s1 (w : World) : (w1 w).heap.size = w.heap.size + 1 := by unfold w1; simp
theorem s2 (w : World) : (w2 w).heap.size = w.heap.size + 1 + 1 := by unfold w2; simp [s1]
theorem s3 (w : World) : (w3 w).heap.size = w.heap.size + 1 + 1 + 1 := by unfold w3; simp [s2]
theorem s4 (w : World) : (w4 w).heap.size = w.heap.size + 1 + 1 + 1 + 1 := by unfold w4; simp [s3]
theorem s5 (w : World) : (w5 w).heap.size = w.heap.size + 1 + 1 + 1 + 1 + 1 := by unfold w5; simp [s4]
theorem s6 (w : World) : (w6 w).heap.size = w.heap.size + 1 + 1 + 1 + 1 + 1 + 1 := by unfold w6; simp [s5]
theorem s7 (w : World) : (w7 w).heap.size = w.heap.size + 1 + 1 + 1 + 1 + 1 + 1 + 1 := by unfold w7; simp [s6]
theorem s8 (w : World) : (w8 w).heap.size = w.heap.size + 1 + 1 + 1 + 1 + 1 + 1 + 1 + 1 := by unfold w8; simp [s7]
theorem w8_below (w : World) : Below w.heap.size w (w8 w) := by
  have h0 := Below.refl w.heap.size w
  have h1 : Below w.heap.size w (w1 w) := h0.alloc (by omega) _
  have h2 : Below w.heap.size w (w2 w) := h1.alloc (by rw [s1]; omega) _
  have h3 : Below w.heap.size w (w3 w) := h2.alloc (by rw [s2]; omega) _
  have h4 : Below w.heap.size w (w4 w) := h3.alloc (by rw [s3]; omega) _
  have h5 : Below w.heap.size w (w5 w) := h4.alloc (by rw [s4]; omega) _
  have h6 : Below w.heap.size w (w6 w) := h5.alloc (by rw [s5]; omega) _
  have h7 : Below w.heap.size w (w7 w) := h6.alloc (by rw [s6]; omega) _
  have h8 : Below w.heap.size w (w8 w) := h7.alloc (by rw [s7]; omega) _
  exact h8
theorem w8_cells (w : World) (j : Nat) (hj : j < 8) : ∃ A n c l, (w8 w).cell? ⟨w.heap.size + 1 + 1 + 1 + 1 + 1 + 1 + 1, j, none⟩ = some (.slice A n c) ∧ Rd (w8 w) (w8 w).heap.size A n l ∧ n ≤ 9 := by
  have e : ∀ v, (#[.slice none 0 0, .slice (some ⟨w.heap.size, 0, none⟩) 1 1, .slice (some ⟨w.heap.size + 1, 0, none⟩) 1 1, .slice (some ⟨w.heap.size + 1 + 1, 0, none⟩) 9 9, .slice (some ⟨w.heap.size + 1 + 1 + 1, 0, none⟩) 9 9, .slice (some ⟨w.heap.size + 1 + 1 + 1 + 1, 0, none⟩) 8 8, .slice (some ⟨w.heap.size + 1 + 1 + 1 + 1 + 1, 0, none⟩) 8 8, .slice (some ⟨w.heap.size + 1 + 1 + 1 + 1 + 1 + 1, 0, none⟩) 9 9] : Array Value)[j]? = some v → (w8 w).cell? ⟨w.heap.size + 1 + 1 + 1 + 1 + 1 + 1 + 1, j, none⟩ = some v := fun v hv => by
    rw [← s7 w]; unfold w8; rw [World.cell?_alloc_mark]; exact hv
  have hcase : j = 0 ∨ j = 1 ∨ j = 2 ∨ j = 3 ∨ j = 4 ∨ j = 5 ∨ j = 6 ∨ j = 7 := by omega
  rcases hcase with rfl | rfl | rfl | rfl | rfl | rfl | rfl | rfl
  · exact ⟨none, 0, 0, [], e _ rfl, rd_nil _ _, by omega⟩
  · have r1 : Rd (w1 w) (w1 w).heap.size (some ⟨w.heap.size, 0, none⟩) 1 [0] := lit_rd w [0] 1 _ rfl rfl (by omega)
    have r2 : Rd (w2 w) (w2 w).heap.size (some ⟨w.heap.size, 0, none⟩) 1 [0] := (r1.alloc (Nat.le_refl _) _).more (by rw [s2, s1]; omega)
    have r3 : Rd (w3 w) (w3 w).heap.size (some ⟨w.heap.size, 0, none⟩) 1 [0] := (r2.alloc (Nat.le_refl _) _).more (by rw [s3, s2]; omega)
    have r4 : Rd (w4 w) (w4 w).heap.size (some ⟨w.heap.size, 0, none⟩) 1 [0] := (r3.alloc (Nat.le_refl _) _).more (by rw [s4, s3]; omega)
    have r5 : Rd (w5 w) (w5 w).heap.size (some ⟨w.heap.size, 0, none⟩) 1 [0] := (r4.alloc (Nat.le_refl _) _).more (by rw [s5, s4]; omega)
    have r6 : Rd (w6 w) (w6 w).heap.size (some ⟨w.heap.size, 0, none⟩) 1 [0] := (r5.alloc (Nat.le_refl _) _).more (by rw [s6, s5]; omega)
    have r7 : Rd (w7 w) (w7 w).heap.size (some ⟨w.heap.size, 0, none⟩) 1 [0] := (r6.alloc (Nat.le_refl _) _).more (by rw [s7, s6]; omega)
    have r8 : Rd (w8 w) (w8 w).heap.size (some ⟨w.heap.size, 0, none⟩) 1 [0] := (r7.alloc (Nat.le_refl _) _).more (by rw [s8, s7]; omega)
    exact ⟨_, _, _, _, e _ rfl, r8, by omega⟩
  · have r2 : Rd (w2 w) (w2 w).heap.size (some ⟨(w1 w).heap.size, 0, none⟩) 1 [1] := lit_rd (w1 w) [1] 1 _ rfl rfl (by omega)
    have r3 : Rd (w3 w) (w3 w).heap.size (some ⟨(w1 w).heap.size, 0, none⟩) 1 [1] := (r2.alloc (Nat.le_refl _) _).more (by rw [s3, s2]; omega)
    have r4 : Rd (w4 w) (w4 w).heap.size (some ⟨(w1 w).heap.size, 0, none⟩) 1 [1] := (r3.alloc (Nat.le_refl _) _).more (by rw [s4, s3]; omega)
    have r5 : Rd (w5 w) (w5 w).heap.size (some ⟨(w1 w).heap.size, 0, none⟩) 1 [1] := (r4.alloc (Nat.le_refl _) _).more (by rw [s5, s4]; omega)
    have r6 : Rd (w6 w) (w6 w).heap.size (some ⟨(w1 w).heap.size, 0, none⟩) 1 [1] := (r5.alloc (Nat.le_refl _) _).more (by rw [s6, s5]; omega)
    have r7 : Rd (w7 w) (w7 w).heap.size (some ⟨(w1 w).heap.size, 0, none⟩) 1 [1] := (r6.alloc (Nat.le_refl _) _).more (by rw [s7, s6]; omega)
    have r8 : Rd (w8 w) (w8 w).heap.size (some ⟨(w1 w).heap.size, 0, none⟩) 1 [1] := (r7.alloc (Nat.le_refl _) _).more (by rw [s8, s7]; omega)
    rw [s1] at r8
    exact ⟨_, _, _, _, e _ rfl, r8, by omega⟩
  · have r3 : Rd (w3 w) (w3 w).heap.size (some ⟨(w2 w).heap.size, 0, none⟩) 9 [255, 1, 1, 1, 1, 1, 1, 1, 1] := lit_rd (w2 w) [255, 1, 1, 1, 1, 1, 1, 1, 1] 9 _ rfl rfl (by omega)
    have r4 : Rd (w4 w) (w4 w).heap.size (some ⟨(w2 w).heap.size, 0, none⟩) 9 [255, 1, 1, 1, 1, 1, 1, 1, 1] := (r3.alloc (Nat.le_refl _) _).more (by rw [s4, s3]; omega)
    have r5 : Rd (w5 w) (w5 w).heap.size (some ⟨(w2 w).heap.size, 0, none⟩) 9 [255, 1, 1, 1, 1, 1, 1, 1, 1] := (r4.alloc (Nat.le_refl _) _).more (by rw [s5, s4]; omega)
    have r6 : Rd (w6 w) (w6 w).heap.size (some ⟨(w2 w).heap.size, 0, none⟩) 9 [255, 1, 1, 1, 1, 1, 1, 1, 1] := (r5.alloc (Nat.le_refl _) _).more (by rw [s6, s5]; omega)
    have r7 : Rd (w7 w) (w7 w).heap.size (some ⟨(w2 w).heap.size, 0, none⟩) 9 [255, 1, 1, 1, 1, 1, 1, 1, 1] := (r6.alloc (Nat.le_refl _) _).more (by rw [s7, s6]; omega)
    have r8 : Rd (w8 w) (w8 w).heap.size (some ⟨(w2 w).heap.size, 0, none⟩) 9 [255, 1, 1, 1, 1, 1, 1, 1, 1] := (r7.alloc (Nat.le_refl _) _).more (by rw [s8, s7]; omega)
    rw [s2] at r8
    exact ⟨_, _, _, _, e _ rfl, r8, by omega⟩
  · have r4 : Rd (w4 w) (w4 w).heap.size (some ⟨(w3 w).heap.size, 0, none⟩) 9 [0, 1, 1, 1, 1, 1, 1, 1, 1] := lit_rd (w3 w) [0, 1, 1, 1, 1, 1, 1, 1, 1] 9 _ rfl rfl (by omega)
    have r5 : Rd (w5 w) (w5 w).heap.size (some ⟨(w3 w).heap.size, 0, none⟩) 9 [0, 1, 1, 1, 1, 1, 1, 1, 1] := (r4.alloc (Nat.le_refl _) _).more (by rw [s5, s4]; omega)
    have r6 : Rd (w6 w) (w6 w).heap.size (some ⟨(w3 w).heap.size, 0, none⟩) 9 [0, 1, 1, 1, 1, 1, 1, 1, 1] := (r5.alloc (Nat.le_refl _) _).more (by rw [s6, s5]; omega)
    have r7 : Rd (w7 w) (w7 w).heap.size (some ⟨(w3 w).heap.size, 0, none⟩) 9 [0, 1, 1, 1, 1, 1, 1, 1, 1] := (r6.alloc (Nat.le_refl _) _).more (by rw [s7, s6]; omega)
    have r8 : Rd (w8 w) (w8 w).heap.size (some ⟨(w3 w).heap.size, 0, none⟩) 9 [0, 1, 1, 1, 1, 1, 1, 1, 1] := (r7.alloc (Nat.le_refl _) _).more (by rw [s8, s7]; omega)
    rw [s3] at r8
    exact ⟨_, _, _, _, e _ rfl, r8, by omega⟩
  · have r5 : Rd (w5 w) (w5 w).heap.size (some ⟨(w4 w).heap.size, 0, none⟩) 8 [128, 0, 0, 0, 0, 0, 0, 0] := lit_rd (w4 w) [128, 0, 0, 0, 0, 0, 0, 0] 8 _ rfl rfl (by omega)
    have r6 : Rd (w6 w) (w6 w).heap.size (some ⟨(w4 w).heap.size, 0, none⟩) 8 [128, 0, 0, 0, 0, 0, 0, 0] := (r5.alloc (Nat.le_refl _) _).more (by rw [s6, s5]; omega)
    have r7 : Rd (w7 w) (w7 w).heap.size (some ⟨(w4 w).heap.size, 0, none⟩) 8 [128, 0, 0, 0, 0, 0, 0, 0] := (r6.alloc (Nat.le_refl _) _).more (by rw [s7, s6]; omega)
    have r8 : Rd (w8 w) (w8 w).heap.size (some ⟨(w4 w).heap.size, 0, none⟩) 8 [128, 0, 0, 0, 0, 0, 0, 0] := (r7.alloc (Nat.le_refl _) _).more (by rw [s8, s7]; omega)
    rw [s4] at r8
    exact ⟨_, _, _, _, e _ rfl, r8, by omega⟩
  · have r6 : Rd (w6 w) (w6 w).heap.size (some ⟨(w5 w).heap.size, 0, none⟩) 8 [128, 0, 0, 0, 0, 0, 0, 1] := lit_rd (w5 w) [128, 0, 0, 0, 0, 0, 0, 1] 8 _ rfl rfl (by omega)
    have r7 : Rd (w7 w) (w7 w).heap.size (some ⟨(w5 w).heap.size, 0, none⟩) 8 [128, 0, 0, 0, 0, 0, 0, 1] := (r6.alloc (Nat.le_refl _) _).more (by rw [s7, s6]; omega)
    have r8 : Rd (w8 w) (w8 w).heap.size (some ⟨(w5 w).heap.size, 0, none⟩) 8 [128, 0, 0, 0, 0, 0, 0, 1] := (r7.alloc (Nat.le_refl _) _).more (by rw [s8, s7]; omega)
    rw [s5] at r8
    exact ⟨_, _, _, _, e _ rfl, r8, by omega⟩
  · have r7 : Rd (w7 w) (w7 w).heap.size (some ⟨(w6 w).heap.size, 0, none⟩) 9 [127, 255, 255, 255, 255, 255, 255, 255, 9] := lit_rd (w6 w) [127, 255, 255, 255, 255, 255, 255, 255, 9] 9 _ rfl rfl (by omega)
    have r8 : Rd (w8 w) (w8 w).heap.size (some ⟨(w6 w).heap.size, 0, none⟩) 9 [127, 255, 255, 255, 255, 255, 255, 255, 9] := (r7.alloc (Nat.le_refl _) _).more (by rw [s8, s7]; omega)
    rw [s6] at r8
    exact ⟨_, _, _, _, e _ rfl, r8, by omega⟩

set_option maxRecDepth 100000 in
set_option maxHeartbeats 2000000 in
theorem walk  (w : World)  :
    Calls Try.prog 3 #[] w (Yes w) := by
  go_enter Try.func3, Try.ntmps3
  go_wp2_with fail
  go_loopw [1] (fun s wr => ∃ i : Nat, i ≤ 64 ∧ s = .int .u64 i ∧ Below w.heap.size w wr) (fun s _ => 64 - (intOf s).toNat)
  case atStart => exact ⟨0, by omega, rfl, Below.refl _ _⟩
  case round =>
    obtain ⟨i, hi, rfl, hb⟩ := hrel
    by_cases hlt : i < 64
    · have hdi : decide ((i : Int) < 64) = true := decide_eq_true (by omega)
      go_wp2_with fail
      go_loopw [2] (fun s wr => ∃ d : Int, -1 ≤ d ∧ d ≤ 2 ∧ s = .int .i64 d ∧ Below w.heap.size w wr) (fun s _ => (2 - (intOf s)).toNat)
      case atStart => exact ⟨-1, by omega, by omega, rfl, hb⟩
      case round =>
        clear hb
        obtain ⟨d, hd1, hd2, rfl, hb⟩ := hrel
        by_cases hlt2 : d < 2
        · have h5 : i % 5 ≤ 4 := by omega
          go_wp2_with fail
          have hzb := wrap64_bd (wrap64 (2 ^ i) + d)
          generalize wrap64 (wrap64 (2 ^ i) + d) = z at hzb ⊢
          obtain ⟨hz1, hz2⟩ := hzb
          refine (rput_any none 0 0 [] z wr (rd_nil _ _) (by omega) hz1 hz2).mono ?_
          rintro e w1 ⟨A1, c1, rfl, hw1, hb1⟩
          have hw8 := Num.wid_int z hz1 hz2
          obtain ⟨N, hN⟩ : ∃ N, 0 + 1 + Num.wid z.natAbs = N := ⟨_, rfl⟩
          obtain ⟨L, hL⟩ : ∃ L, [] ++ Num.enc z = L := ⟨_, rfl⟩
          rw [hN, hL] at hw1
          rw [hN]
          have hN1 : 1 ≤ N := by omega
          have hN9 : N ≤ 9 := by omega
          clear hN hL
          have hc1 : N ≤ c1 := hw1.cap
          have k1 : Below w.heap.size w w1 := hb.trans (hb1.mono hb.size)
          have q1 := k1.size
          obtain ⟨g, rfl, hg⟩ := hw1.at_ hN1
          go_wp2_with fail
          refine (puts_any _ 1 1 [7] z _ _ (lit_rd w1 [7] 1 _ rfl rfl (by omega)) (by simp; omega) hz1 hz2).mono ?_
          rintro e w2 ⟨rfl, hb2⟩
          have j2 : Below w1.heap.size w1 w2 := ((Below.refl _ _).alloc (Nat.le_refl _) _).trans (hb2.mono (by simp))
          have k2 : Below w.heap.size w w2 := k1.trans (j2.mono q1)
          have q2 := k2.size
          go_wp2_with fail
          refine (puts_any none 0 0 [] _ _ w2 (rd_nil _ _) (by decide) (wrap64_bd _).1 (wrap64_bd _).2).mono ?_
          rintro e w3 ⟨rfl, hb3⟩
          have j3 : Below w1.heap.size w1 w3 := j2.trans (hb3.mono j2.size)
          have k3 : Below w.heap.size w w3 := k2.trans (hb3.mono q2)
          have q3 := k3.size
          go_wp2_with fail
          refine (reads_any _ N c1 L _ w3 ((hw1.rd.below j3).more j3.size) (by omega) hc1).mono ?_
          rintro e w4 ⟨rfl, hb4⟩
          have j4 : Below w1.heap.size w1 w4 := j3.trans (hb4.mono j3.size)
          have k4 : Below w.heap.size w w4 := k3.trans (hb4.mono q3)
          have q4 := k4.size
          have hw4 : Own w4 wr.heap.size (some ⟨g, 0, none⟩) N c1 L := hw1.below rfl j4
          go_wp2_with (at_builtin; go_loud (refine wpList_appK (Reg.wanted_if rfl rfl rfl rfl) (.tmp 41) (.tmp 42) rfl rfl wr.heap.size g N c1 L rfl (hw4.below rfl ((Below.refl _ _).alloc (Nat.le_refl _) _)) (some ⟨w4.heap.size, 0, none⟩) 1 1 [0] _ rfl (lit_rd w4 [0] 1 _ rfl rfl (by omega)) (N + 1) rfl (L ++ [0]) rfl (by omega) (by have := hb1.size; have := j4.size; simp; omega) ?_; intro g5 c5 w5 hw5 hb5 keep5))
          have hw5' := keep5 _ _ _ _ _ (Nat.le_refl _) (hw4.below rfl ((Below.refl _ _).alloc (Nat.le_refl _) (.cells #[.int .u8 0] 5)))
          have k5 : Below w.heap.size w w5 := (k4.alloc q4 _).trans (hb5.mono hb.size)
          have q5 := k5.size
          refine (reads_any _ (N + 1) c5 _ _ w5 hw5.rd (by omega) hw5.cap).mono ?_
          rintro e w6 ⟨rfl, hb6⟩
          have k6 := k5.trans (hb6.mono q5)
          have q6 := k6.size
          have r6 : Rd w6 w6.heap.size (some ⟨g, 0, none⟩) N L := (hw5'.rd.below hb6).more hb6.size
          clear keep5 hw5' hw4 hw1
          have hN3 : N - 1 ≤ c1 := by omega
          have hwrap : ((N : Int) - 1) = ((N - 1 : Nat) : Int) := by omega
          go_wp2_with fail
          refine (reads_any _ (N - 1) c1 (L.take (N - 1)) _ w6 (r6.front (N - 1) (by omega)) (by omega) hN3).mono ?_
          rintro e w7 ⟨rfl, hb7⟩
          have k7 := k6.trans (hb7.mono q6)
          clear hwrap
          go_wp2_with fail
          go_roundw
          case rel => exact ⟨d + 1, by omega, by omega, by go_num, k7⟩
          case measure => simp [intOf]; omega
        · go_wp2_with fail
          go_roundw
          case rel => exact ⟨i + 1, by omega, by go_num, hb⟩
          case measure => simp [intOf]; omega
    · have hge : 64 ≤ i := by omega
      go_wp2_with fail
      go_loopw [5] (fun s wr => ∃ k : Nat, k ≤ 256 ∧ s = .int .i64 k ∧ Below w.heap.size w wr) (fun s _ => 256 - (intOf s).toNat)
      case atStart => exact ⟨0, by omega, rfl, hb⟩
      case round =>
        clear hb
        obtain ⟨k, hk, rfl, hb⟩ := hrel
        by_cases hk2 : k < 256
        · have hdk : decide ((k : Int) < 256) = true := decide_eq_true (by omega)
          go_wp2_with fail
          show Code.wp _ _ _ _ (w8 wr)
          have k8 := hb.trans ((w8_below wr).mono hb.size)
          have cells := w8_cells wr
          have z8 := s8 wr
          generalize w8 wr = W at k8 cells z8 ⊢
          have zz : wr.heap.size + 1 + 1 + 1 + 1 + 1 + 1 + 1 < W.heap.size := by omega
          clear z8
          generalize wr.heap.size + 1 + 1 + 1 + 1 + 1 + 1 + 1 = Z at cells zz ⊢
          go_loopw [69] (fun s wr => ∃ j : Nat, j ≤ 8 ∧ s = .int .i64 j ∧ Below W.heap.size W wr) (fun s _ => 8 - (intOf s).toNat)
          case atStart => exact ⟨0, by omega, rfl, Below.refl _ _⟩
          case round =>
            obtain ⟨j, hj, rfl, hx⟩ := hrel
            by_cases hj8 : j < 8
            · obtain ⟨A, n, c, l, hc, hr, hn⟩ := cells j hj8
              rw [← hx.cell (p := ⟨Z, j, none⟩) zz] at hc
              have CE := Lib.hid cells
              clear cells
              have hr2 : Rd wr wr.heap.size A n l := (hr.below hx).more hx.size
              have E := Lib.hid (low_byte k)
              go_wp2_with (at_builtin; go_loud (refine wpList_app rfl (.tmp 75) (.tmp 76) rfl rfl wr.heap.size (some ⟨wr.heap.size, 0, none⟩) 1 1 [UInt8.ofNat k] rfl (own_lit1 wr wr.heap.size _ _ (by have := E.out; omega) (Nat.le_refl _)) A n c l wr.heap.size rfl (hr2.alloc (Nat.le_refl _) _) (1 + n) rfl (UInt8.ofNat k :: l) rfl (by omega) (by simp) ?_; intro A3 c3 w3 hw3 hb3))
              have k3 : Below wr.heap.size wr w3 := ((Below.refl _ _).alloc (Nat.le_refl _) _).trans hb3
              refine (reads_any _ (1 + n) c3 _ _ w3 hw3.rd (by omega) hw3.cap).mono ?_
              rintro e w4 ⟨rfl, hb4⟩
              have k4 := hx.trans ((k3.trans (hb4.mono k3.size)).mono hx.size)
              clear hc hr2
              go_wp2_with fail
              go_roundw
              case rel => exact ⟨j + 1, by omega, by go_num, k4⟩
              case measure => simp [intOf]; omega
            · have hge3 : 8 ≤ j := by omega
              go_wp2_with fail
              go_roundw
              case rel => exact ⟨k + 1, by omega, by go_num, k8.trans (hx.mono k8.size)⟩
              case measure => simp [intOf]; omega
        · have hge2 : 256 ≤ k := by omega
          go_wp2_with fail
          refine (rtext_any none 0 0 [] _ wr (rd_nil _ _) (by decide)).mono ?_
          rintro e w1 ⟨A1, c1, rfl, hw1, hb1⟩
          rw [whole_n] at hw1 ⊢
          have k1 := hb.trans (hb1.mono hb.size)
          have q1 := k1.size
          go_wp2_with fail
          refine (reads_any A1 7 c1 _ _ w1 hw1.rd (by omega) hw1.cap).mono ?_
          rintro e w2 ⟨rfl, hb2⟩
          have k2 := k1.trans (hb2.mono q1)
          have q2 := k2.size
          go_wp2_with fail
          refine (rtext_any none 0 0 [] _ w2 (rd_nil _ _) (by decide)).mono ?_
          rintro e w3 ⟨A3, c3, rfl, hw3, hb3⟩
          rw [whole_n] at hw3 ⊢
          have k3 := k2.trans (hb3.mono q2)
          have q3 := k3.size
          go_wp2_with fail
          refine (reads_any A3 7 c3 _ _ w3 hw3.rd (by omega) hw3.cap).mono ?_
          rintro e w4 ⟨rfl, hb4⟩
          have k4 := k3.trans (hb4.mono q3)
          have q4 := k4.size
          go_wp2_with fail
          refine (rtext_any none 0 0 [] _ w4 (rd_nil _ _) (by decide)).mono ?_
          rintro e w5 ⟨A5, c5, rfl, hw5, hb5⟩
          rw [whole_n] at hw5 ⊢
          have k5 := k4.trans (hb5.mono q4)
          have q5 := k5.size
          obtain ⟨g, rfl, hg⟩ := hw5.at_ (by omega)
          have hc5 : 7 ≤ c5 := hw5.cap
          go_wp2_with fail
          refine (reads_any _ 3 c5 _ _ w5 (hw5.rd.front 3 (by omega)) (by omega) (by omega)).mono ?_
          rintro e w6 ⟨rfl, hb6⟩
          have k6 := k5.trans (hb6.mono q5)
          have q6 := k6.size
          go_wp2_with fail
          refine (known_any w6).mono ?_
          rintro e w7 ⟨rfl, hb7⟩
          have k7 := k6.trans (hb7.mono q6)
          go_wp2_with fail
          go_ret
          exact ⟨rfl, k7⟩

set_option maxRecDepth 100000 in
theorem lifted (os : Os) (started : os.Started) (H : Type) (enc : TypeId × Value → H) :
    ReturnsInHanded {} Try.checked os 3 .any (Rows.codeNumbersSpec.pre6 enc Try.prog Try.f3 Rows.codeNumbersRow.domain false) (Rows.codeNumbersSpec.post enc Try.prog Try.f3 false true false false) := by
  refine returnsInHanded_of_change_sized (C := Try.checked) own started (by kernel_rfl) Try.func3
    (ChangeSpec.witness6 (enc := enc) (C := Try.checked) false ⟨#[], #[], []⟩ 8 (by kernel_rfl) (by kernel_rfl) (by kernel_rfl) (by kernel_rfl)) ?_
  intro W base args ds gs before hval0 hW hcnd hsz0 _
  have hval : ∀ (j : Nat) t v, Try.f3.params[j]? = some t → args[j]? = some v → Value.okWide Try.prog W .any base t v := hval0
  have hW' := hW
  obtain ⟨p, q, hA0, hV, rfl, hfz, hnd⟩ := hW
  have hA : DataW.TrodAll enc Try.prog W 0 (fun _ => true) true Try.f3.params.toList args.toList ds p := hA0
  rw [Try.params3] at hA hval
  obtain ⟨rfl, rfl, rfl⟩ := trodAll_none hA
  obtain ⟨rfl, rfl⟩ := trodVars_none hV
  clear hA0 hval0
  refine (walk  W ).mono fun e W' ⟨he, bel⟩ => ?_
  subst he
  exact ⟨_, rfl, _, _, _, [], _, [], hW', trodAll_mk1 (shut_bool Try.underlying4 _), trodAll_mk0, rfl, bel.frame _, fun h => by cases h⟩

theorem proved : Rows.CodeNumbersSaid :=
  OpenClaim.holds_of_wide 3 Try.f3 rfl rfl rfl rfl rfl rfl rfl ⟨rfl, rfl, rfl, rfl, rfl⟩ rfl rfl rfl rfl rfl (by kernel_rfl) Try.func3 (by kernel_rfl)
    (of_decide_eq_true (by kernel_rfl)) (by unfold Func.isWrapper; first | (rw [if_pos (by decide +kernel)]; kernel_rfl) | (rw [if_neg (by decide +kernel)]; exact ⟨rfl, rfl⟩))
    (fun os started H enc _ => lifted os started H enc)
end Go.Proofs.Ytibhppjcochkgaa.codeNumbers
