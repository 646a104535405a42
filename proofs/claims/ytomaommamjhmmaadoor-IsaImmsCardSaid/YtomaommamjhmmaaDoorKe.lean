/- IsaRegs: with registers that are none no op that has them is right; jumps and ends have none: the walk. -/
import Derived.Test.YtomaommamjhmmaaDoorKd
import Derived.IntWalk
namespace Go.Proofs.YtomaommamjhmmaaDoor
set_option maxRecDepth 100000
open Go.RowKit
set_option linter.unusedSimpArgs false
set_option linter.unusedVariables false

theorem addI (c N : Nat) (h : N ≤ 127) (hc : c ≤ 1000) : wrap64 ((c : Int) + (N : Int)) = (c : Int) + (N : Int) := w64I (by omega)
theorem add8 {N : Nat} (h : N ≤ 127) : wrap64 (8 + (N : Int)) = 8 + (N : Int) := addI 8 N h (by decide)
theorem add18 {N : Nat} (h : N ≤ 127) : wrap64 (18 + (N : Int)) = 18 + (N : Int) := addI 18 N h (by decide)
theorem hi8 {N : Nat} (h : N ≤ 127) : 8 ≤ 8 + (N : Int) ∧ 8 + (N : Int) ≤ 135 := by omega
theorem lo8 {N : Nat} (h : N ≤ 7) : 0 ≤ (N : Int) ∧ (N : Int) ≤ 7 := by omega
theorem hi18 (Q : Nat) : 17 < 18 + (Q : Int) := by omega
theorem up18 (a : Int) : ∃ t s o, Hid (a.tmod 18 = t) ∧ Hid (wrap64 (t + 18) = s) ∧ Hid (s.tmod 18 = o) ∧ 0 ≤ o ∧ o ≤ 17 := by
  have ht := tmod18 a
  refine ⟨a.tmod 18, a.tmod 18 + 18, (a.tmod 18 + 18).tmod 18, Lib.hid rfl, Lib.hid (w64I (by omega)), Lib.hid rfl, ?_⟩
  rw [Int.tmod_eq_emod_of_nonneg (by omega)]
  omega
set_option maxHeartbeats 2000000 in
theorem regs15_walk (H : IsaW) (a0 a1 a2 a3 : Int) (w : World) (hnw : NamW w) : Calls Tryd.prog 6 #[.int .i64 a0, .int .i64 a1, .int .i64 a2, .int .i64 a3] w (Yes w) := by
  obtain ⟨t, s, o, HT, HS, HO, ho1, ho2⟩ := up18 a0
  obtain ⟨M1, m1, m1b⟩ := and_maskH a1 7 7
  obtain ⟨M2, m2, m2b⟩ := and_maskH a2 7 7
  obtain ⟨M3, m3, m3b⟩ := and_maskH a3 7 7
  obtain ⟨N1, n1, n1b⟩ := and_maskH a1 127 127
  obtain ⟨N2, n2, n2b⟩ := and_maskH a2 127 127
  obtain ⟨N3, n3, n3b⟩ := and_maskH a3 127 127
  obtain ⟨Q, q, qb⟩ := and_maskH a0 63 63
  have X1 := Lib.hid (add8 n1b)
  have X2 := Lib.hid (add8 n2b)
  have X3 := Lib.hid (add8 n3b)
  have X4 := Lib.hid (add18 (Nat.le_trans qb (by decide : 63 ≤ 127)))
  have CA := Lib.hid fun W => H.right ⟨o, M1, M2, M3⟩ W
  have CB := Lib.hid fun W => H.right ⟨o, 8 + (N1 : Int), 8 + (N2 : Int), 8 + (N3 : Int)⟩ W
  have CC := Lib.hid fun W => H.right ⟨18 + (Q : Int), 0, 0, 0⟩ W
  have CD := Lib.hid fun W => H.right ⟨o, 256, 0, 0⟩ W
  have CE := Lib.hid fun V (hv : Below w.heap.size w V) => H.name o V (hnw.on hv)
  have CK := Lib.hid fun V (hv : Below w.heap.size w V) => known15_any H V (hnw.on hv)
  have RA : rightF ⟨o, M1, M2, M3⟩ = true := right_lowI ⟨ho1, ho2⟩ (lo8 m1b) (lo8 m2b) (lo8 m3b)
  have RB := right_highI ⟨ho1, ho2⟩ (hi8 n1b) (hi8 n2b) (hi8 n3b)
  have RC := right_overI (hi18 Q) 0 0 0
  have RD := right_256 o 0 0
  rw [RA] at CA
  rw [RB] at CB
  rw [RC] at CC
  rw [RD] at CD
  obtain ⟨sn, hsn⟩ : ∃ sn, nameO o = sn := ⟨_, rfl⟩
  have HNE : Hid (sn ≠ ⟨#[]⟩) := Lib.hid (by rw [← hsn]; exact nameO_some ⟨ho1, ho2⟩)
  rw [hsn] at CE
  unfold iv at CA CB CC CD
  dsimp only at CA CB CC CD
  obtain ⟨fr, hfr⟩ : ∃ fr, freeO o = fr := ⟨_, rfl⟩
  rw [hfr] at CB
  have HFR := Lib.hid hfr
  clear RA RB RC RD m1b m2b m3b n1b n2b n3b qb hnw hsn hfr
  have hT := HT.out
  have hs := HS.out
  have hO := HO.out
  have x1 := X1.out
  have x2 := X2.out
  have x3 := X3.out
  have x4 := X4.out
  have m1 := m1.out
  have m2 := m2.out
  have m3 := m3.out
  have n1 := n1.out
  have n2 := n2.out
  have n3 := n3.out
  have q := q.out
  clear HT HS HO X1 X2 X3 X4
  have HOB := Lib.hid (And.intro ho1 ho2)
  clear ho1 ho2
  go_enter Tryd.func6, Tryd.ntmps6
  go_upto_region 2 with fail
  have hb0 := bl1 w (.cells #[.int .i64 o, .int .i64 (M1 : Int), .int .i64 (M2 : Int), .int .i64 (M3 : Int)] 26)
  have hf0 := fo_new w o M1 M2 M3
  generalize w.alloc (.cells #[.int .i64 o, .int .i64 (M1 : Int), .int .i64 (M2 : Int), .int .i64 (M3 : Int)] 26) = W0 at hb0 hf0 ⊢
  obtain ⟨g9, hg⟩ : ∃ g, g = w.heap.size := ⟨_, rfl⟩
  rw [← hg] at hf0 ⊢
  clear hg
  have HB0 := Lib.hid hb0
  have HF0 := Lib.hid hf0
  obtain ⟨x0, x1', x2', x3'⟩ := hf0
  dsimp only at x0 x1' x2' x3'
  clear hb0
  go_upto_region 4 with fail
  clear x0 x1' x2' x3'
  have hb1 := bl1 W0 (.cells #[.int .i64 o, .int .i64 (8 + (N1 : Int)), .int .i64 (8 + (N2 : Int)), .int .i64 (8 + (N3 : Int))] 26)
  have HG0 := Lib.hid (fo_new W0 o (8 + (N1 : Int)) (8 + (N2 : Int)) (8 + (N3 : Int)))
  have HF1 := Lib.hid (HF0.out.on hb1)
  have HB1 := Lib.hid (HB0.out.trans (hb1.mono HB0.out.size))
  generalize W0.alloc (.cells #[.int .i64 o, .int .i64 (8 + (N1 : Int)), .int .i64 (8 + (N2 : Int)), .int .i64 (8 + (N3 : Int))] 26) = W1 at HG0 HF1 HB1 ⊢
  generalize W0.heap.size = g10 at HG0 ⊢
  clear hb1 HF0 HB0
  go_cut [11] from 36 to 53 (fun c wx => c = .bool fr ∧ wx = W1)
  case first =>
    have x0 : W1.cell? ⟨g9, 0, none⟩ = some (.int .i64 o) := HF1.out.c0
    by_cases h1 : o = 0
    · have hv : Hid (true = fr) := Lib.hid (by rw [← HFR.out, h1]; rfl)
      have qt : (o == 0) = true := by rw [h1]; rfl
      clear h1 HFR
      go_wp2_with fail
      go_meet
      exact ⟨congrArg Value.bool hv.out, rfl⟩
    · have q1 : (o == 0) = false := by simpa using h1
      by_cases h2 : o = 8
      · have hv : Hid (true = fr) := Lib.hid (by rw [← HFR.out, h2]; rfl)
        have qt : (o == 8) = true := by rw [h2]; rfl
        clear h2 HFR
        go_wp2_with fail
        go_meet
        exact ⟨congrArg Value.bool hv.out, rfl⟩
      · have q2 : (o == 8) = false := by simpa using h2
        by_cases h3 : o = 17
        · have hv : Hid (true = fr) := Lib.hid (by rw [← HFR.out, h3]; rfl)
          have qt : (o == 17) = true := by rw [h3]; rfl
          clear h3 HFR
          go_wp2_with fail
          go_meet
          exact ⟨congrArg Value.bool hv.out, rfl⟩
        · have q3 : (o == 17) = false := by simpa using h3
          have HV : Hid ((o == 16) = fr) := Lib.hid (by rw [← HFR.out]; unfold freeO; rw [q1, q2, q3]; rfl)
          obtain ⟨q4, hq4⟩ : ∃ q4, (o == 16) = q4 := ⟨_, rfl⟩
          rw [hq4] at HV
          clear h1 h2 h3
          go_wp2_with fail
          go_meet
          exact ⟨congrArg Value.bool HV.out, rfl⟩
  case rest =>
    obtain ⟨rfl, hwc⟩ := hcut
    rw [hwc]
    clear hwc HFR
    obtain ⟨x0, x1, x2, x3⟩ := HF1.out
    dsimp only at x0 x1 x2 x3
    go_wp2_with fail
    refine (CA.out W1).mono ?_
    rintro e w2 ⟨rfl, hb2⟩
    obtain ⟨y0, y1, y2, y3⟩ := HG0.out.on hb2
    dsimp only at y0 y1 y2 y3
    have HF2 := Lib.hid (HF1.out.on hb2)
    have HB2 := Lib.hid (HB1.out.trans (hb2.mono HB1.out.size))
    clear x0 x1 x2 x3 hb2 HG0
    go_wp2_with fail
    refine (CB.out w2).mono ?_
    rintro e w3 ⟨rfl, hb3⟩
    have HF3 := Lib.hid (HF2.out.on hb3)
    have HB3 := Lib.hid (HB2.out.trans (hb3.mono HB2.out.size))
    clear y0 y1 y2 y3 hb3 HF2
    go_wp2_with fail
    refine (CC.out w3).mono ?_
    rintro e w4 ⟨rfl, hb4⟩
    obtain ⟨x0, _, _, _⟩ := HF3.out.on hb4
    dsimp only at x0
    have HF4 := Lib.hid (HF3.out.on hb4)
    have HB4 := Lib.hid (HB3.out.trans (hb4.mono HB3.out.size))
    clear hb4 HF3
    go_wp2_with fail
    refine (CD.out w4).mono ?_
    rintro e w5 ⟨rfl, hb5⟩
    clear x0
    obtain ⟨x0, _, _, _⟩ := HF4.out.on hb5
    dsimp only at x0
    have HB5 := Lib.hid (HB4.out.trans (hb5.mono HB4.out.size))
    clear hb5 HF4
    go_wp2_with fail
    refine (CE.out w5 HB5.out).mono ?_
    rintro e w6 ⟨rfl, hb6⟩
    have HB6 := Lib.hid (HB5.out.trans (hb6.mono HB5.out.size))
    have hnl : sn.toList.isEmpty = false := by
      have h := HNE.out
      cases e : sn.toList.isEmpty with
      | false => rfl
      | true =>
        exfalso
        apply h
        rw [List.isEmpty_iff, ByteArray.toList_eq] at e
        obtain ⟨⟨d⟩⟩ := sn
        have e : d = [] := e
        rw [e]
    clear x0 hb6
    go_wp2_with fail
    refine (CK.out w6 HB6.out).mono ?_
    rintro e w7 ⟨rfl, hb7⟩
    go_wp2_with fail
    go_ret
    exact ⟨rfl, HB6.out.trans (hb7.mono HB6.out.size)⟩
end Go.Proofs.YtomaommamjhmmaaDoor
