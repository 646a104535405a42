/- Chapter 3's runs. -/
import Derived.Test.YthddhkcmonjebaaSame
namespace Go.Proofs.Ythddhkcmonjebaa
open Go.RowKit Tab
set_option linter.unusedSimpArgs false
set_option linter.unusedVariables false

theorem len_at (A : Option Addr) (n cap : Nat) (l : List Nd) (x0 : Nd) (k0 : F) (w : World) (h : RdN w w.heap.size A n l) (hc : n ≤ cap) (hn : n ≤ 1048576) (hok : (F.cons x0 k0 .nil).ok) (hl : l = x0 :: k0.flat) (V : Int) (b : Bool) (hV : lv (F.tick x0 k0.len) = V) (hb : lb (F.tick x0 k0.len) = b) :
    Calls Try.prog 17 #[.slice A n cap] w fun e w' => e = .returned (.tuple #[.int .i64 V, .bool b]) ∧ Below w.heap.size w w' := by
  subst hV; subst hb
  exact length_tree A n cap l x0 k0 w h hc hn hok hl
theorem lit_rdN (w : World) (l : List Nd) (n : Nat) (C : Array Value) (t : TypeId) (hn : l.length = n) (hC : C.toList = ns l) (hb : ∀ x ∈ l, NdIn x) :
    RdN (w.alloc (.cells C t)) (w.alloc (.cells C t)).heap.size (some ⟨w.heap.size, 0, none⟩) n l := ⟨hn, rdV_new w C t _ hC, hb⟩
def k1 : F := .cons ⟨1, 0, 3⟩ .nil .nil
def l1 : List Nd := [⟨4, 0, 2⟩, ⟨1, 0, 3⟩]
def l2 : List Nd := [⟨4, 0, 4611686018427387904⟩, ⟨1, 0, 3⟩]
def l3 : List Nd := [⟨3, 0, 2⟩, ⟨2, 0, 1⟩, ⟨2, 0, 2⟩]
theorem ok1 : (F.cons ⟨4, 0, 2⟩ k1 .nil).ok := ⟨by decide, by decide, ⟨by decide, by decide, trivial, trivial⟩, trivial⟩
theorem ok2 : (F.cons ⟨4, 0, 4611686018427387904⟩ k1 .nil).ok := ⟨by decide, by decide, ⟨by decide, by decide, trivial, trivial⟩, trivial⟩
theorem in1 : ∀ x ∈ l1, NdIn x := by intro x hx; simp [l1] at hx; rcases hx with rfl | rfl <;> (refine ⟨?_, ?_, ?_⟩ <;> (unfold In64; simp))
theorem in2 : ∀ x ∈ l2, NdIn x := by intro x hx; simp [l2] at hx; rcases hx with rfl | rfl <;> (refine ⟨?_, ?_, ?_⟩ <;> (unfold In64; simp))
theorem in3 : ∀ x ∈ l3, NdIn x := by intro x hx; simp [l3] at hx; rcases hx with rfl | rfl | rfl <;> (refine ⟨?_, ?_, ?_⟩ <;> (unfold In64; simp))
theorem kids3 : kids l3 0 = [1, 2] := by decide
theorem size11 : size l1 1 = 1 := by decide
theorem size19 : size l1 9 = 0 := by decide
theorem lv1 : lv (F.tick ⟨4, 0, 2⟩ k1.len) = 6 := by decide
theorem lb1 : lb (F.tick ⟨4, 0, 2⟩ k1.len) = true := by decide
theorem lv2 : lv (F.tick ⟨4, 0, 4611686018427387904⟩ k1.len) = 0 := by decide
theorem lb2 : lb (F.tick ⟨4, 0, 4611686018427387904⟩ k1.len) = false := by decide
theorem rt1 : rt 2 (k1.dep + 1) (F.tick ⟨4, 0, 2⟩ k1.len) = 0 := by decide
set_option maxRecDepth 100000 in
set_option maxHeartbeats 2000000 in
theorem known_any (w : World) : Calls Try.prog 11 #[] w (Ans (.bool true) w) := by
  have LV := Lib.hid lv1
  go_enter Try.func11, Try.ntmps11
  go_wp2_with fail
  have q1 := lit_rdN w l1 2 #[.int .i64 4, .int .i64 0, .int .i64 2, .int .i64 1, .int .i64 0, .int .i64 3] 33 rfl rfl in1
  have b1 := bl1 w (.cells #[.int .i64 4, .int .i64 0, .int .i64 2, .int .i64 1, .int .i64 0, .int .i64 3] 33)
  refine (len_at _ 2 2 l1 _ k1 _ q1 (by omega) (by omega) ok1 rfl 6 true lv1 lb1).mono ?_
  rintro e w1 ⟨rfl, hb1⟩
  have r1 := q1.on hb1
  have s1 := b1.trans (hb1.mono (by simp))
  clear q1 b1 hb1
  go_wp2_with fail
  have q2 := lit_rdN w1 l2 2 #[.int .i64 4, .int .i64 0, .int .i64 4611686018427387904, .int .i64 1, .int .i64 0, .int .i64 3] 33 rfl rfl in2
  have b2 := bl1 w1 (.cells #[.int .i64 4, .int .i64 0, .int .i64 4611686018427387904, .int .i64 1, .int .i64 0, .int .i64 3] 33)
  refine (len_at _ 2 2 l2 _ k1 _ q2 (by omega) (by omega) ok2 rfl 0 false lv2 lb2).mono ?_
  rintro e w2 ⟨rfl, hb2⟩
  have t2 := b2.trans (hb2.mono (by simp))
  have r2 := r1.on t2
  have s2 := s1.trans (t2.mono s1.size)
  clear q2 b2 hb2 r1 t2
  go_wp2_with fail
  have q3 := lit_rdN w2 l3 3 #[.int .i64 3, .int .i64 0, .int .i64 2, .int .i64 2, .int .i64 0, .int .i64 1, .int .i64 2, .int .i64 0, .int .i64 2] 33 rfl rfl in3
  have b3 := bl1 w2 (.cells #[.int .i64 3, .int .i64 0, .int .i64 2, .int .i64 2, .int .i64 0, .int .i64 1, .int .i64 2, .int .i64 0, .int .i64 2] 33)
  refine (kids_any _ 3 3 l3 0 _ q3 (by omega) (by omega)).mono ?_
  rw [kids3]
  rintro e w3 ⟨A3, n3, c3, rfl, hr3, hc3, hb3⟩
  obtain rfl : n3 = 2 := hr3.len.symm
  have t3 := b3.trans (hb3.mono (by simp))
  have r3 := r2.on t3
  have s3 := s2.trans (t3.mono s2.size)
  clear q3 b3 hb3 r2 t3
  go_wp2_with fail
  refine (right_none none 0 0 [] w3 ⟨rfl, RdV.nil, by simp⟩ (by omega) (by omega) rfl).mono ?_
  rw [show rn 0 = 12 from rfl]
  rintro e w4 ⟨rfl, hb4⟩
  have r4 := r3.on hb4
  have k4 := hr3.on hb4
  have s4 := s3.trans (hb4.mono s3.size)
  clear r3 hr3 hb4
  go_wp2_with fail
  refine (right_tree _ 2 2 l1 _ k1 w4 r4 (by omega) (by omega) ok1 rfl).mono ?_
  rw [rt1]
  rintro e w5 ⟨rfl, hb5⟩
  have r5 := r4.on hb5
  have k5 := k4.on hb5
  have s5 := s4.trans (hb5.mono s4.size)
  clear r4 k4 hb5
  go_wp2_with fail
  refine (depth_tree _ 2 2 l1 _ k1 w5 r5 (by omega) (by omega) ok1 rfl).mono ?_
  rw [show k1.dep + 1 = 2 from rfl]
  rintro e w6 ⟨rfl, hb6⟩
  have r6 := r5.on hb6
  have k6 := k5.on hb6
  have s6 := s5.trans (hb6.mono s5.size)
  clear r5 k5 hb6
  go_wp2_with fail
  refine (size_any _ 2 2 l1 1 w6 r6 (by omega) (by omega)).mono ?_
  rw [size11]
  rintro e w7 ⟨rfl, hb7⟩
  have r7 := r6.on hb7
  have k7 := k6.on hb7
  have s7 := s6.trans (hb7.mono s6.size)
  clear r6 k6 hb7
  go_wp2_with fail
  refine (size_any _ 2 2 l1 9 w7 r7 (by omega) (by omega)).mono ?_
  rw [size19]
  rintro e w8 ⟨rfl, hb8⟩
  have r8 := r7.on hb8
  have k8 := k7.on hb8
  have s8 := s7.trans (hb8.mono s7.size)
  clear r7 k7 hb8
  go_wp2_with fail
  have q9 : RdI (w8.alloc (.cells #[.int .i64 1, .int .i64 2] 3)) (w8.alloc (.cells #[.int .i64 1, .int .i64 2] 3)).heap.size (some ⟨w8.heap.size, 0, none⟩) 2 [1, 2] := ⟨rfl, rdV_new w8 _ _ _ rfl⟩
  have b9 := bl1 w8 (.cells #[.int .i64 1, .int .i64 2] 3)
  refine (ints_same _ _ 2 c3 2 [1, 2] _ (k8.on b9) q9 (by omega)).mono ?_
  rintro e w9 ⟨rfl, hb9⟩
  have t9 := b9.trans (hb9.mono (by simp))
  have r9 := r8.on t9
  have s9 := s8.trans (t9.mono s8.size)
  clear r8 k8 hb9 q9 b9 t9
  go_wp2_with fail
  refine (same_self _ _ 2 2 2 l1 w9 r9 r9 (by omega)).mono ?_
  rintro e w10 ⟨rfl, hb10⟩
  have s10 := s9.trans (hb10.mono s9.size)
  go_wp2_with fail
  go_ret
  exact Ans.mk rfl s10
end Go.Proofs.Ythddhkcmonjebaa
