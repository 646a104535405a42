/- The program's answers are the document's, for any row of nodes and any place but one. -/
import Derived.Test.YthddhkcmonjebaaKnown
import Derived.Test.YthddhkcmonjebaaTable
namespace Go.Proofs.Ythddhkcmonjebaa
open Go.RowKit Tab
set_option linter.unusedSimpArgs false
set_option linter.unusedVariables false

theorem add_zero (g j : Nat) : (⟨g, 0, none⟩ : Addr).add j = ⟨g, j, none⟩ := by unfold Addr.add; split <;> simp_all
theorem kids_len (l : List Nd) (a : Int) : (kids l a).length ≤ 1048576 := by
  by_cases h : size l a = 0
  · rw [kids_none l a h]; simp
  · obtain ⟨x, k, t, _, h1, _⟩ := size_tree h
    obtain ⟨a', rfl⟩ := Int.eq_ofNat_of_zero_le h1
    obtain ⟨m, hk, hm, _⟩ := kids_tree h
    rw [hk]
    simp [plc]
    omega
/-- What both answer of a row. -/
theorem both (A : Option Addr) (n cap : Nat) (l : List Nd) (hc : n ≤ cap) (hn : n ≤ 1048576) (hl : l.length = n) : ∃ (V : Int) (b : Bool) (D : Nat) (R : Int), ∀ w, RdN w w.heap.size A n l →
    (Calls Try.prog 17 #[.slice A n cap] w fun e w' => e = .returned (.tuple #[.int .i64 V, .bool b]) ∧ Below w.heap.size w w') ∧
    (Calls Try.prog 21 #[.slice A n cap] w fun e w' => e = .returned (.tuple #[.int .i64 V, .bool b]) ∧ Below w.heap.size w w') ∧
    Calls Try.prog 13 #[.slice A n cap] w (Ans (.int .i64 R) w) ∧ Calls Try.prog 14 #[.slice A n cap] w (Ans (.int .i64 R) w) ∧
    Calls Try.prog 18 #[.slice A n cap] w (Ans (.int .i64 (D : Int)) w) ∧ Calls Try.prog 22 #[.slice A n cap] w (Ans (.int .i64 (D : Int)) w) := by
  by_cases hw : wholeB l = true
  · obtain ⟨x, k, hok, hlk⟩ := whole_tree hw
    exact ⟨_, _, _, _, fun w h => ⟨length_tree A n cap l x k w h hc hn hok hlk, rLength_tree A n cap l x k w h hc hn hok hlk, right_tree A n cap l x k w h hc hn hok hlk, rright_tree A n cap l x k w h hc hn hok hlk, depth_tree A n cap l x k w h hc hn hok hlk, rDepth_tree A n cap l x k w h hc hn hok hlk⟩⟩
  · have hw : wholeB l = false := by simpa using hw
    exact ⟨_, _, _, _, fun w h => ⟨length_none A n cap l w h hc hn hw, rLength_none A n cap l w h hc hn hw, right_none A n cap l w h hc hn hw, rright_none A n cap l w h hc hn hw, depth_none A n cap l w h hc hn hw, rDepth_none A n cap l w h hc hn hw⟩⟩
set_option maxRecDepth 100000 in
set_option maxHeartbeats 4000000 in
theorem same_any (A : Option Addr) (n cap : Nat) (l : List Nd) (a : Int) (w : World) (h : RdN w w.heap.size A n l) (hc : n ≤ cap) (hn : n ≤ 1048576) (ha : -9223372036854775808 ≤ a) (ha2 : a < 9223372036854775807) :
    Calls Try.prog 9 #[.slice A n cap, .int .i64 a] w (Ans (.bool true) w) := by
  obtain ⟨V, b, D, R, hB⟩ := both A n cap l hc hn h.len
  have HB := Lib.hid hB
  clear hB
  obtain ⟨LL, hLL⟩ : ∃ LL : List Int, LL = [0, a, (n : Int) - 1, -1, (n : Int)] := ⟨_, rfl⟩
  have hbd : ∀ z ∈ LL, -9223372036854775808 ≤ z ∧ z < 9223372036854775807 := by
    intro z hz
    rw [hLL] at hz
    simp at hz
    rcases hz with rfl | rfl | rfl | rfl | rfl <;> omega
  have hL5 : LL.length = 5 := by rw [hLL]; rfl
  have HLL : Hid (LL = [0, a, (n : Int) - 1, -1, (n : Int)]) := Lib.hid hLL
  have HBD := Lib.hid hbd
  have HL5 := Lib.hid hL5
  clear hLL hbd hL5
  go_enter Try.func9, Try.ntmps9
  go_wp2_with fail
  refine (HB.out w h).1.mono ?_
  rintro e w1 ⟨rfl, hb1⟩
  have r1 := h.on hb1
  go_wp2_with fail
  refine (HB.out w1 r1).2.1.mono ?_
  rintro e w2 ⟨rfl, hb2⟩
  have r2 := r1.on hb2
  have k2 := hb1.trans (hb2.mono hb1.size)
  go_wp2_with fail
  refine (HB.out w2 r2).2.2.1.mono ?_
  rintro e w3 ⟨rfl, hb3⟩
  have r3 := r2.on hb3
  have k3 := k2.trans (hb3.mono k2.size)
  go_wp2_with fail
  refine (HB.out w3 r3).2.2.2.1.mono ?_
  rintro e w4 ⟨rfl, hb4⟩
  have r4 := r3.on hb4
  have k4 := k3.trans (hb4.mono k3.size)
  go_wp2_with fail
  refine (HB.out w4 r4).2.2.2.2.1.mono ?_
  rintro e w5 ⟨rfl, hb5⟩
  have r5 := r4.on hb5
  have k5 := k4.trans (hb5.mono k4.size)
  go_wp2_with fail
  refine (HB.out w5 r5).2.2.2.2.2.mono ?_
  rintro e w6 ⟨rfl, hb6⟩
  have r6 := r5.on hb6
  have k6 := k5.trans (hb6.mono k5.size)
  clear hb1 hb2 hb3 hb4 hb5 hb6 r1 r2 r3 r4 r5 k2 k3 k4 k5 h
  go_wp2_with fail
  have b7 := bl1 w6 (.cells #[.int .i64 0, .int .i64 a, .int .i64 ((n : Int) - 1), .int .i64 (-1), .int .i64 (n : Int)] 3)
  have q7 : RdI (w6.alloc (.cells #[.int .i64 0, .int .i64 a, .int .i64 ((n : Int) - 1), .int .i64 (-1), .int .i64 (n : Int)] 3)) (w6.alloc (.cells #[.int .i64 0, .int .i64 a, .int .i64 ((n : Int) - 1), .int .i64 (-1), .int .i64 (n : Int)] 3)).heap.size (some ⟨w6.heap.size, 0, none⟩) 5 LL :=
    ⟨HL5.out, rdV_new w6 _ _ _ (by rw [HLL.out]; rfl)⟩
  have r7 := r6.on b7
  have k7 := k6.trans (b7.mono k6.size)
  generalize w6.alloc (.cells #[.int .i64 0, .int .i64 a, .int .i64 ((n : Int) - 1), .int .i64 (-1), .int .i64 (n : Int)] 3) = w7 at q7 r7 k7 ⊢
  generalize w6.heap.size = g at q7 ⊢
  clear b7 r6 k6
  go_loopw [10, 51] (fun _ s wr => ∃ i : Nat, i ≤ 5 ∧ s = .int .i64 i ∧ Below w7.heap.size w7 wr) (fun _ s _ => 5 - (intOf s).toNat)
  case atStart => exact ⟨0, by omega, rfl, Below.refl _ _⟩
  case round =>
    obtain ⟨i, hi, rfl, hb⟩ := hrel
    have rr := r7.on hb
    by_cases hlt : i < 5
    · obtain ⟨ad, z, e, _, hz, hcell⟩ := (q7.on hb).at_ hlt
      injection e with e
      subst e
      obtain ⟨hz1, hz2⟩ := HBD.out z (List.mem_of_getElem? hz)
      clear hz
      rw [add_zero] at hcell
      generalize hSd : size l z = S
      have HS := Lib.hid hSd
      clear hSd
      go_wp2_with fail
      refine (size_any A n cap l z wr rr hc (by omega)).mono ?_
      rw [HS.out]
      rintro e w8 ⟨rfl, hb8⟩
      have t8 := hb8
      go_wp2_with fail
      refine (rsize_any A n cap l z w8 (rr.on t8) hc (by omega)).mono ?_
      rw [HS.out]
      rintro e w9 ⟨rfl, hb9⟩
      have t9 := t8.trans (hb9.mono t8.size)
      go_wp2_with fail
      refine (kids_any A n cap l z w9 (rr.on t9) hc (by omega)).mono ?_
      rintro e w10 ⟨A10, n10, c10, rfl, h10, hc10, hb10⟩
      have t10 := t9.trans (hb10.mono t9.size)
      go_wp2_with fail
      refine (rkids_any A n cap l z w10 (rr.on t10) hc (by omega) hz1 hz2).mono ?_
      rintro e w11 ⟨A11, n11, c11, rfl, h11, hc11, hb11⟩
      have t11 := t10.trans (hb11.mono t10.size)
      have hnn : n11 = n10 := by rw [← h11.len, ← h10.len]
      subst hnn
      have hkl : n11 ≤ 1048576 := by rw [← h11.len]; exact kids_len l z
      go_wp2_with fail
      refine (ints_same A10 A11 n11 c10 c11 _ w11 (h10.on hb11) h11 hkl).mono ?_
      rintro e w12 ⟨rfl, hb12⟩
      have t12 := t11.trans (hb12.mono t11.size)
      go_wp2_with fail
      go_roundw
      case rel => exact ⟨i + 1, by omega, by go_num, hb.trans (t12.mono hb.size)⟩
      case measure => simp [intOf]; omega
    · have hge : 5 ≤ i := by omega
      have kk := k7.trans (hb.mono k7.size)
      go_wp2_with fail
      refine (same_self A A n cap cap l wr rr rr hn).mono ?_
      rintro e w8 ⟨rfl, hb8⟩
      go_wp2_with fail
      go_ret
      exact Ans.mk rfl (kk.trans (hb8.mono kk.size))
end Go.Proofs.Ythddhkcmonjebaa
