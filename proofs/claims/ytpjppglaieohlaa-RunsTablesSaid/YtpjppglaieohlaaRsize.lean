/- How many nodes the one at a place has, by the document's own answer. -/
import Derived.Test.YtpjppglaieohlaaSize
namespace Go.Proofs.Ytpjppglaieohlaa
open Go.RowKit Tab
set_option linter.unusedSimpArgs false
set_option linter.unusedVariables false

theorem kz_seq {x : Nd} (h : x.k = 3) : kz x = x.n := if_pos h
theorem kz_rep {x : Nd} (h : x.k = 4) : kz x = 1 := by unfold kz; rw [if_neg (by omega), if_pos h]
theorem kz_leaf {x : Nd} (h : ¬ x.k = 3) (h' : ¬ x.k = 4) : kz x = 0 := by unfold kz; rw [if_neg h, if_neg h']
set_option maxRecDepth 100000 in
set_option maxHeartbeats 1600000 in
theorem rsize_in (A : Option Addr) (n cap : Nat) (l : List Nd) (a : Nat) (w : World) (h : RdN w w.heap.size A n l) (hc : n ≤ cap) (hn : n ≤ 1099511627776) (ha : a < n) :
    Calls Try.prog 45 #[.slice A n cap, .int .i64 a] w (Ans (.int .i64 (size l a : Nat)) w) := by
  obtain ⟨ad, x0, rfl, _⟩ := h.at_ ha
  rw [size_def l a (by rw [h.len]; exact ha)]
  generalize hS : scan 1 (l.drop a) = S
  have HS := Lib.hid hS
  clear hS
  go_enter Try.func45, Try.ntmps45
  go_wp2_with fail
  generalize decide ((a : Int) < 0) = q9
  generalize decide (n ≤ a) = q14
  go_loopw [5, 6] (fun m s wr => ∃ (i k : Nat), a ≤ i ∧ i ≤ n ∧ s = .int .i64 i ∧ m = .int .i64 k ∧ 1 ≤ k ∧ k ≤ 128 * (i - a) + 1 ∧ S = (scan k (l.drop i)).map (· + (i - a)) ∧ Below w.heap.size w wr) (fun _ s _ => n - (intOf s).toNat)
  case atStart => exact ⟨a, 1, by omega, by omega, rfl, rfl, by omega, by omega, by rw [HS.out]; simp, Below.refl _ _⟩
  case round =>
    obtain ⟨i, k, hai, hi, rfl, rfl, hk1, hk2, hs, hb⟩ := hrel
    have HK := Lib.hid hs
    clear hs
    by_cases hlt : i < n
    · obtain ⟨ad', x, e, _, hx, hin, c0, c1, c2⟩ := (h.on hb).at_ hlt
      injection e with e
      subst e
      obtain ⟨xk, xp, xn⟩ := x
      have hdr := drop_cons hx
      have HD := Lib.hid hdr
      have HI := Lib.hid hin
      clear hdr hx hin
      by_cases hf : fine ⟨xk, xp, xn⟩ = true
      · have HF := Lib.hid hf
        have hK : kz ⟨xk, xp, xn⟩ = (kn ⟨xk, xp, xn⟩ : Int) := kz_kn hf
        have hK2 := kn_le hf
        clear hf
        generalize hKd : kn ⟨xk, xp, xn⟩ = K at hK hK2
        have HKD := Lib.hid hKd
        have HKZ := Lib.hid hK
        clear hKd hK
        go_wp2_with fail
        refine (fine1_any _ _ _ _).mono ?_
        rw [HF.out]
        rintro e w1 ⟨rfl, hb1⟩
        have lt0 : (ad.add (i * 3)).block < wr.heap.size := by rw [add_block]; assumption
        have d0 := (hb1.cell lt0).trans c0
        have d2 := (hb1.cell (p := ⟨(ad.add (i * 3)).block, (ad.add (i * 3)).off + 2, none⟩) lt0).trans c2
        clear c0 c1 c2 lt0
        have k1 := hb.trans (hb1.mono hb.size)
        by_cases h3 : xk = 3
        · subst h3
          have e := HKZ.out
          rw [kz_seq rfl] at e
          dsimp only at e
          subst e
          clear HKZ
          by_cases hz : k + K = 1
          · have hz1 : ((k : Int) - 1 + K == 0) = true := beq_iff_eq.2 (by omega)
            have HZ := Lib.hid hz
            clear hz
            go_wp2_with fail
            go_ret
            refine Ans.mk ?_ k1
            rw [HK.out, HD.out, scan_last HF.out (by rw [HKD.out]; exact HZ.out)]
            refine ret_num (b := (i : Int) - a + 1) ?_
            simp only [Option.map_some, Option.getD_some]
            omega
          · have hz1 : ((k : Int) - 1 + K == 0) = false := beq_eq_false_iff_ne.2 (by omega)
            have HZ := Lib.hid hz
            clear hz
            go_wp2_with fail
            go_roundw
            case rel =>
              have hz := HZ.out
              refine ⟨i + 1, k + K - 1, by omega, by omega, by go_num, ret_num (by omega), by omega, by omega, ?_, k1⟩
              rw [HK.out, HD.out, scan_next HF.out (by rw [HKD.out]; exact hz), HKD.out, show i + 1 - a = 1 + (i - a) by omega]
              generalize i - a = q
              cases scan (k + K - 1) (l.drop (i + 1)) <;> simp [Nat.add_assoc]
            case measure => simp [intOf]; omega
        · by_cases h4 : xk = 4
          · subst h4
            have e := HKZ.out
            rw [kz_rep rfl] at e
            obtain rfl : K = 1 := by omega
            clear HKZ h3 e
            by_cases hz : k + 1 = 1
            · exact absurd hz (by omega)
            · have hz1 : ((k : Int) == 0) = false := beq_eq_false_iff_ne.2 (by omega)
              have HZ := Lib.hid hz
              clear hz
              go_wp2_with fail
              go_roundw
              case rel =>
                have hz := HZ.out
                refine ⟨i + 1, k + 1 - 1, by omega, by omega, by go_num, ret_num (by omega), by omega, by omega, ?_, k1⟩
                rw [HK.out, HD.out, scan_next HF.out (by rw [HKD.out]; exact hz), HKD.out, show i + 1 - a = 1 + (i - a) by omega]
                generalize i - a = q
                cases scan (k + 1 - 1) (l.drop (i + 1)) <;> simp [Nat.add_assoc]
              case measure => simp [intOf]; omega
          · have e := HKZ.out
            rw [kz_leaf h3 h4] at e
            obtain rfl : K = 0 := by omega
            have h3' : (xk == 3) = false := beq_eq_false_iff_ne.2 h3
            have h4' : (xk == 4) = false := beq_eq_false_iff_ne.2 h4
            clear HKZ e h3 h4
            by_cases hz : k + 0 = 1
            · have hz1 : ((k : Int) - 1 == 0) = true := beq_iff_eq.2 (by omega)
              have HZ := Lib.hid hz
              clear hz
              go_wp2_with fail
              go_ret
              refine Ans.mk ?_ k1
              rw [HK.out, HD.out, scan_last HF.out (by rw [HKD.out]; exact HZ.out)]
              refine ret_num (b := (i : Int) - a + 1) ?_
              simp only [Option.map_some, Option.getD_some]
              omega
            · have hz1 : ((k : Int) - 1 == 0) = false := beq_eq_false_iff_ne.2 (by omega)
              have HZ := Lib.hid hz
              clear hz
              go_wp2_with fail
              go_roundw
              case rel =>
                have hz := HZ.out
                refine ⟨i + 1, k + 0 - 1, by omega, by omega, by go_num, ret_num (by omega), by omega, by omega, ?_, k1⟩
                rw [HK.out, HD.out, scan_next HF.out (by rw [HKD.out]; exact hz), HKD.out, show i + 1 - a = 1 + (i - a) by omega]
                generalize i - a = q
                cases scan (k + 0 - 1) (l.drop (i + 1)) <;> simp [Nat.add_assoc]
              case measure => simp [intOf]; omega
      · have HF := Lib.hid hf
        have hf0 : fine ⟨xk, xp, xn⟩ = false := by simpa using hf
        have HF0 := Lib.hid hf0
        clear hf hf0
        go_wp2_with fail
        refine (fine1_any _ _ _ _).mono ?_
        rw [HF0.out]
        rintro e w1 ⟨rfl, hb1⟩
        go_wp2_with fail
        go_ret
        refine Ans.mk ?_ (hb.trans (hb1.mono hb.size))
        rw [HK.out, HD.out, scan_bad HF.out]
        simp
    · have hge : n ≤ i := by omega
      have HL := Lib.hid h.len
      go_wp2_with fail
      go_ret
      refine Ans.mk ?_ hb
      rw [HK.out, List.drop_eq_nil_of_le (by have := HL.out; omega)]
      simp [scan]
set_option maxHeartbeats 400000 in
theorem rsize_out (A : Option Addr) (n cap : Nat) (a : Int) (w : World) (ha : a < 0 ∨ (n : Int) ≤ a) (hn : n ≤ 1099511627776) :
    Calls Try.prog 45 #[.slice A n cap, .int .i64 a] w fun e w' => e = .returned (.int .i64 0) ∧ w = w' := by
  by_cases h0 : a < 0
  · go_enter Try.func45, Try.ntmps45
    go_wp2_with fail
    go_ret
    exact ⟨rfl, rfl⟩
  · have h1 : (n : Int) ≤ a := by omega
    go_enter Try.func45, Try.ntmps45
    go_wp2_with fail
    go_ret
    exact ⟨rfl, rfl⟩
theorem rsize_any (A : Option Addr) (n cap : Nat) (l : List Nd) (a : Int) (w : World) (h : RdN w w.heap.size A n l) (hc : n ≤ cap) (hn : n ≤ 1099511627776) :
    Calls Try.prog 45 #[.slice A n cap, .int .i64 a] w (Ans (.int .i64 (size l a : Nat)) w) := by
  by_cases ha : 0 ≤ a ∧ a < n
  · obtain ⟨a', rfl⟩ := Int.eq_ofNat_of_zero_le ha.1
    exact rsize_in A n cap l a' w h hc hn (by omega)
  · refine (rsize_out A n cap a w (by omega) hn).mono ?_
    rintro e w' ⟨rfl, rfl⟩
    rw [size_none l a (by have := h.len; omega)]
    exact ⟨rfl, Below.refl _ _⟩
end Go.Proofs.Ytpjppglaieohlaa
