/- How many nodes the one at a place has. -/
import Derived.Test.YtpjppglaieohlaaRow
import Derived.LoopTactic
namespace Go.Proofs.Ytpjppglaieohlaa
open Go.RowKit Tab
set_option linter.unusedSimpArgs false
set_option linter.unusedVariables false

theorem ret_num {a b : Int} (h : a = b) : (Value.int .i64 a) = .int .i64 b := by rw [h]
set_option maxRecDepth 100000 in
set_option maxHeartbeats 1600000 in
theorem size_in (A : Option Addr) (n cap : Nat) (l : List Nd) (a : Nat) (w : World) (h : RdN w w.heap.size A n l) (hc : n ≤ cap) (hn : n ≤ 1099511627776) (ha : a < n) :
    Calls Try.prog 36 #[.slice A n cap, .int .i64 a] w (Ans (.int .i64 (size l a : Nat)) w) := by
  obtain ⟨ad, x0, rfl, _⟩ := h.at_ ha
  have hca : ¬ cap = a := by omega
  rw [size_def l a (by rw [h.len]; exact ha)]
  generalize hS : scan 1 (l.drop a) = S
  have HS := Lib.hid hS
  clear hS
  go_enter Try.func36, Try.ntmps36
  go_wp2_with fail
  have hr : RdN w w.heap.size (some (ad.add (a * 3))) (n - a) (l.drop a) := h.back a
  generalize ad.add (a * 3) = ad1 at hr ⊢
  have hN : n - a ≤ 1099511627776 := by omega
  generalize n - a = N at hr hN ⊢
  generalize l.drop a = L at hr HS
  clear h
  generalize decide ((a : Int) < 0) = q9
  generalize decide (n ≤ a) = q14
  go_loopw [5, 20] (fun m s wr => ∃ (i k : Nat), i ≤ N ∧ s = .int .i64 i ∧ m = .int .i64 k ∧ 1 ≤ k ∧ k ≤ 128 * i + 1 ∧ S = (scan k (L.drop i)).map (· + i) ∧ Below w.heap.size w wr) (fun _ s _ => N - (intOf s).toNat)
  case atStart => exact ⟨0, 1, by omega, rfl, rfl, by omega, by omega, by rw [← HS.out]; simp, Below.refl _ _⟩
  case round =>
    obtain ⟨i, k, hi, rfl, rfl, hk1, hk2, hs, hb⟩ := hrel
    have HK := Lib.hid hs
    clear hs
    by_cases hlt : i < N
    · obtain ⟨ad', x, e, _, hx, hin, c0, c1, c2⟩ := (hr.on hb).at_ hlt
      injection e with e
      subst e
      obtain ⟨xk, xp, xn⟩ := x
      have HX := Lib.hid hx
      have HI := Lib.hid hin
      clear hx hin
      have hdr := drop_cons HX.out
      have HD := Lib.hid hdr
      clear hdr
      by_cases hf : fine ⟨xk, xp, xn⟩ = true
      · have HF := Lib.hid hf
        have hK : kz ⟨xk, xp, xn⟩ = (kn ⟨xk, xp, xn⟩ : Int) := kz_kn hf
        have hK2 := kn_le hf
        clear hf
        generalize hKd : kn ⟨xk, xp, xn⟩ = K at hK hK2
        have HKD := Lib.hid hKd
        have HKZ := Lib.hid hK
        clear hKd hK
        go_wp2_with fail
        refine (right1_any _ _ _ _).mono ?_
        rw [HF.out]
        rintro e w1 ⟨rfl, hb1⟩
        obtain ⟨d0, d1, d2⟩ := new_nd hb1
        have k1 := (bl1 _ _).trans (hb1.mono (by simp))
        by_cases hz : k + K = 1
        · have hz1 : (k : Int) + ((K : Int) - 1) = 0 := by omega
          have HZ := Lib.hid hz
          clear hz
          go_wp2_with fail
          refine (kids1_any _ _ _ _).mono ?_
          rw [HKZ.out]
          rintro e w2 ⟨rfl, hb2⟩
          have k2 := k1.trans (hb2.mono k1.size)
          go_wp2_with fail
          go_ret
          refine Ans.mk ?_ (hb.trans (k2.mono hb.size))
          rw [HK.out, HD.out, scan_last HF.out (by rw [HKD.out]; exact HZ.out)]
          simp; omega
        · have hz1 : ¬ (k : Int) + ((K : Int) - 1) = 0 := by omega
          go_wp2_with fail
          refine (kids1_any _ _ _ _).mono ?_
          rw [HKZ.out]
          rintro e w2 ⟨rfl, hb2⟩
          have k2 := k1.trans (hb2.mono k1.size)
          go_wp2_with fail
          go_roundw
          case rel =>
            refine ⟨i + 1, k + K - 1, by omega, by go_num, ret_num (by omega), by omega, by omega, ?_, hb.trans (k2.mono hb.size)⟩
            rw [HK.out, HD.out, scan_next HF.out (by rw [HKD.out]; exact hz), HKD.out]
            cases scan (k + K - 1) (L.drop (i + 1)) <;> simp; omega
          case measure => simp [intOf]; omega
      · have HF := Lib.hid hf
        have hf0 : fine ⟨xk, xp, xn⟩ = false := by simpa using hf
        have HF0 := Lib.hid hf0
        clear hf hf0
        go_wp2_with fail
        refine (right1_any _ _ _ _).mono ?_
        rw [HF0.out]
        rintro e w1 ⟨rfl, hb1⟩
        have k1 := (bl1 _ _).trans (hb1.mono (by simp))
        go_wp2_with fail
        go_ret
        refine Ans.mk ?_ (hb.trans (k1.mono hb.size))
        rw [HK.out, HD.out, scan_bad HF.out]
        simp
    · have hge : N ≤ i := by omega
      have HL := Lib.hid hr.len
      go_wp2_with fail
      go_ret
      refine Ans.mk ?_ hb
      rw [HK.out, List.drop_eq_nil_of_le (by have := HL.out; omega)]
      simp [scan]
set_option maxHeartbeats 400000 in
theorem size_out (A : Option Addr) (n cap : Nat) (a : Int) (w : World) (ha : a < 0 ∨ (n : Int) ≤ a) (hn : n ≤ 1099511627776) :
    Calls Try.prog 36 #[.slice A n cap, .int .i64 a] w fun e w' => e = .returned (.int .i64 0) ∧ w = w' := by
  by_cases h0 : a < 0
  · go_enter Try.func36, Try.ntmps36
    go_wp2_with fail
    go_ret
    exact ⟨rfl, rfl⟩
  · have h1 : (n : Int) ≤ a := by omega
    go_enter Try.func36, Try.ntmps36
    go_wp2_with fail
    go_ret
    exact ⟨rfl, rfl⟩
theorem size_any (A : Option Addr) (n cap : Nat) (l : List Nd) (a : Int) (w : World) (h : RdN w w.heap.size A n l) (hc : n ≤ cap) (hn : n ≤ 1099511627776) :
    Calls Try.prog 36 #[.slice A n cap, .int .i64 a] w (Ans (.int .i64 (size l a : Nat)) w) := by
  by_cases ha : 0 ≤ a ∧ a < n
  · obtain ⟨a', rfl⟩ := Int.eq_ofNat_of_zero_le ha.1
    exact size_in A n cap l a' w h hc hn (by omega)
  · refine (size_out A n cap a w (by omega) hn).mono ?_
    rintro e w' ⟨rfl, rfl⟩
    rw [size_none l a (by have := h.len; omega)]
    exact ⟨rfl, Below.refl _ _⟩
end Go.Proofs.Ytpjppglaieohlaa
