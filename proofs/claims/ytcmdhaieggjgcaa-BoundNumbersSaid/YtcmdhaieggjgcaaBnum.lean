/- BoundNumbers: chapter 9's runs: rows of forty tapes, each two partitions, each period, each configuration's tables (the walk; what package bound answers is a premise). -/
import Derived.Test.YtcmdhaieggjgcaaLow2
import Derived.Test.YtcmdhaieggjgcaaLow7
import Derived.Test.YtcmdhaieggjgcaaCfg
import Derived.Test.YtcmdhaieggjgcaaLow6
import Derived.Test.YtcmdhaieggjgcaaRegs
namespace Go.Proofs.Ytcmdhaieggjgcaa.boundNumbers
open Go.ChangeShapes Go.WideShapes Go.ChangeAt Go.RowKit Tab
set_option linter.unusedSimpArgs false
set_option linter.unusedVariables false

/-- It answers a row of numbers, new, of no more than 400. -/
def TapeL (w : World) (e : Ending) (w' : World) : Prop := ∃ (A : Option Addr) (n c : Nat) (f : Nat → Int), e = .returned (.slice A n c) ∧ RdC w' w'.heap.size A n (fun j => .int .i64 (f j)) ∧ n ≤ 400 ∧ Below w.heap.size w w'
theorem TapeL.mk {w w' : World} {A : Option Addr} {n c B : Nat} {L : List Int} (h : OwnV 3 1 w' B A n c (is L)) (hn : n ≤ 400) (hb : Below w.heap.size w w') : TapeL w (.returned (.slice A n c)) w' := by
  refine ⟨A, n, c, fun j => L.getD j 0, rfl, fun h0 => ?_, hn, hb⟩
  have hl := h.len
  rw [is_length] at hl
  obtain ⟨ad, e, hlt, hc⟩ := h.rd (by rw [is_length]; omega)
  refine ⟨ad, e, hlt, fun j hj => hc j _ ?_⟩
  have hj' : j < L.length := by omega
  simp [is, hj']
set_option maxRecDepth 100000 in
set_option maxHeartbeats 4000000 in
theorem tape9_any (k : Nat) (w : World) (hk : k ≤ 100) : Calls Try.prog 8 #[.int .i64 (k : Int)] w (TapeL w) := by
  go_enter Try.func8, Try.ntmps8
  go_wp2_with fail
  obtain ⟨m, hm⟩ : ∃ m : Nat, (400 : Int) = (m : Int) := ⟨400, rfl⟩
  have hm1 : m ≤ 400 := by omega
  rw [hm]
  clear hm
  go_loopw [3, 4] (fun q s wr => ∃ (i c : Nat) (A : Option Addr) (L : List Int), i ≤ m ∧ s = .int .i64 i ∧ q = .slice A i c ∧ OwnV 3 1 wr w.heap.size A i c (is L) ∧ Below w.heap.size w wr) (fun _ s _ => m - (intOf s).toNat)
  case atStart => exact ⟨0, 0, none, [], by omega, rfl, rfl, OwnV.nil _ _ _ _, Below.refl _ _⟩
  case round =>
    obtain ⟨i, c, A, L, hi, rfl, rfl, hw, hb⟩ := hrel
    by_cases hlt : i < m
    · have hi4 : i ≤ 400 := by omega
      have h1 : i * i ≤ 400 * 400 := Nat.mul_le_mul hi4 hi4
      have h2 : i * k ≤ 400 * 100 := Nat.mul_le_mul hi4 hk
      have p1 : 0 ≤ (i : Int) * (i : Int) := by rw [← Int.natCast_mul]; omega
      have p2 : (i : Int) * (i : Int) ≤ 160000 := by rw [← Int.natCast_mul]; omega
      have p3 : 0 ≤ (i : Int) * (k : Int) := by rw [← Int.natCast_mul]; omega
      have p4 : (i : Int) * (k : Int) ≤ 40000 := by rw [← Int.natCast_mul]; omega
      clear h1 h2
      generalize hP : (i : Int) * (i : Int) = P at p1 p2
      generalize hQ : (i : Int) * (k : Int) = Q at p3 p4
      have hbs := hb.alloc hb.size (.cells #[.int .i64 ((P * 7 + (k : Int) * 47 + Q) % 211)] 3)
      have hw' := OwnV.below hw rfl (bl1 wr (.cells #[.int .i64 ((P * 7 + (k : Int) * 47 + Q) % 211)] 3))
      have hrd := rdV_new wr #[.int .i64 ((P * 7 + (k : Int) * 47 + Q) % 211)] 3 (is [(P * 7 + (k : Int) * 47 + Q) % 211]) rfl
      go_wp2_with (at_builtin; go_loud (refine wpList_appV elI rfl (.tmp 9) (.tmp 22) rfl rfl w.heap.size A i c _ rfl hw' _ 1 1 _ _ rfl hrd rfl (is_one _) (by omega) (by unfold maxLen; omega) hbs.size (i + 1) rfl (is (L ++ [(P * 7 + (k : Int) * 47 + Q) % 211])) (by rw [is_append]) ?_; intro A2 c2 w2 hw2 hb2 _))
      go_roundw
      case rel => exact ⟨i + 1, c2, A2, _, by omega, by go_num, rfl, hw2, hbs.trans hb2⟩
      case measure => simp [intOf]; omega
    · have hge : m ≤ i := by omega
      go_wp2_with fail
      go_ret
      exact TapeL.mk hw (by omega) hb
set_option maxRecDepth 100000 in
set_option maxHeartbeats 8000000 in
theorem walk (H : BoundW) (w : World) : Calls Try.prog 3 #[] w (Ans (.bool true) w) := by
  go_enter Try.func3, Try.ntmps3
  go_wp2_with fail
  obtain ⟨m, hm⟩ : ∃ m : Nat, (40 : Int) = (m : Int) := ⟨40, rfl⟩
  have hm1 : m ≤ 40 := by omega
  rw [hm]
  clear hm
  go_loopw [1, 2, 3, 4, 5, 6, 7, 8, 10, 11, 12, 60] (fun s _ _ _ _ _ _ _ _ _ _ _ wr => ∃ k : Nat, k ≤ m ∧ s = .int .i64 k ∧ Below w.heap.size w wr) (fun s _ _ _ _ _ _ _ _ _ _ _ _ => m - (intOf s).toNat)
  case atStart => exact ⟨0, by omega, rfl, Below.refl _ _⟩
  case round =>
    obtain ⟨k, hk, rfl, hb⟩ := hrel
    have HB := Lib.hid hb
    clear hb
    by_cases hkm : k < m
    · have hkmi : (k : Int) < (m : Int) := by omega
      go_wp2_with fail
      refine (tape9_any k wr (by omega)).mono ?_
      rintro e w1 ⟨A0, n0, k0, f0, rfl, hr0, hn0, hb1⟩
      have HB1 := Lib.hid (HB.out.trans (hb1.mono HB.out.size))
      have HSZ : Hid (w.heap.size ≤ w1.heap.size) := Lib.hid HB1.out.size
      have HT0 := Lib.hid (tape_boxed A0 n0 k0 f0 w1 hr0)
      have HBT := Lib.hid (bl1 w1 (.cells #[.slice A0 n0 k0, .int .i64 0] 26))
      clear hr0 hb1 HB
      go_upto_region 5 with fail
      obtain ⟨b, hbb⟩ : ∃ b, b = w1.heap.size := ⟨_, rfl⟩
      rw [← hbb] at HT0 ⊢
      generalize w1.alloc (.cells #[.slice A0 n0 k0, .int .i64 0] 26) = wA at HT0 HBT ⊢
      have HBB := Lib.hid hbb
      clear hbb
      go_wp2_with fail
      refine (row_any b b A0 n0 k0 f0 (by omega) 3 9 (by omega) (by omega) (by omega) (by omega) 0 wA HT0.out).mono ?_
      rintro e w2 ⟨L, AL, nl, cl, at1, rfl, hL, hown, h1a, h1b, T1, G1⟩
      have htk : ticks L ≤ 36 := by
        have := fair_ticks hL
        rw [hown.rdr.len] at this
        omega
      have hbA : b < wA.heap.size := HT0.out.lt
      have hcl := hown.cap
      have HOW := Lib.hid hown
      have HT1 := Lib.hid T1
      have HB2 : Hid (Below w.heap.size w w2) := Lib.hid (by
        have h1 := HB1.out.trans (HBT.out.mono HB1.out.size)
        have h2 : Below w1.heap.size wA w2 := ⟨G1.os, G1.tape, G1.output, G1.size, fun q hq => G1.block q (Nat.lt_of_lt_of_le hq HBT.out.size) (fun e => by injection e with e; have := HBB.out; omega)⟩
        exact h1.trans (h2.mono HB1.out.size))
      obtain ⟨T, hT⟩ : ∃ T, T = ticks L := ⟨_, rfl⟩
      have CT := Lib.hid (total_any AL nl cl L w2 hown.rdr hcl (by omega) (by omega))
      rw [← hT] at CT
      have htT : T ≤ 36 := by omega
      clear hown T1 G1 hL HT0 HBT HB1 hT
      go_wp2_with fail
      refine CT.out.mono ?_
      rintro e w3 ⟨rfl, hb3⟩
      have HK3 := Lib.hid hb3
      clear hb3 CT
      have HSM := Lib.hid fun (a b z : Int) (hz : In64 z) W (hb : Below w2.heap.size w2 W) => same9_any H AL nl cl L a b z W (HOW.out.rdr.on hb) hcl (by omega) (by omega) hz
      have HBG := Lib.hid fun (a z : Int) (hz : In64 z) W (hb : Below w2.heap.size w2 W) => H.budget AL nl cl L a z W (HOW.out.rdr.on hb) hcl (by omega) (by omega) hz
      have HBR := Lib.hid fun (a z : Int) (hz : In64 z) W (hb : Below w2.heap.size w2 W) => budget_any AL nl cl L a z W (HOW.out.rdr.on hb) hcl (by omega) (by omega) hz
      go_wp2_with fail
      go_loopw [5, 6, 7] (fun s _ _ wx => ∃ a : Int, s = .int .i64 a ∧ -2 ≤ a ∧ a ≤ 5 ∧ Below w2.heap.size w2 wx) (fun s _ _ _ => (5 - intOf s).toNat)
      case atStart => exact ⟨-2, rfl, by omega, by omega, HK3.out⟩
      case round =>
        obtain ⟨a, rfl, ha1, ha2, hb⟩ := hrel
        have HKa := Lib.hid hb
        clear hb HK3
        by_cases ha : a < 5
        · have had : decide (a < 5) = true := decide_eq_true ha
          go_wp2_with fail
          go_loopw [6] (fun s wx => ∃ z : Int, s = .int .i64 z ∧ -1 ≤ z ∧ z ≤ 4 ∧ Below w2.heap.size w2 wx) (fun s _ => (4 - intOf s).toNat)
          case atStart => exact ⟨-1, rfl, by omega, by omega, HKa.out⟩
          case round =>
            obtain ⟨z, rfl, hz1, hz2, hb⟩ := hrel
            have HKz := Lib.hid hb
            clear hb
            by_cases hz : z < 4
            · have hzd : decide (z < 4) = true := decide_eq_true hz
              have hw3 : IntKind.i64.wrap (z * 3) = z * 3 := IntWalk.i64_in _ (by omega)
              have CS := Lib.hid (HSM.out a z (z * 3) (by unfold In64; omega) wr HKz.out)
              go_wp2_with fail
              refine CS.out.mono ?_
              rintro e w5 ⟨rfl, hb5⟩
              have HK5 := Lib.hid (HKz.out.trans (hb5.mono HKz.out.size))
              clear hb5 CS
              go_wp2_with fail
              go_roundw
              case rel => exact ⟨z + 1, by go_num, by omega, by omega, HK5.out⟩
              case measure => simp [intOf]; omega
            · have hzd : decide (z < 4) = false := decide_eq_false hz
              go_wp2_with fail
              go_loopw [7] (fun s wx => ∃ p : Int, s = .int .i64 p ∧ -1 ≤ p ∧ p ≤ (T : Int) + 2 ∧ Below w2.heap.size w2 wx) (fun s _ => ((T : Int) + 2 - intOf s).toNat)
              case atStart => exact ⟨-1, rfl, by omega, by omega, HKz.out⟩
              case round =>
                obtain ⟨p, rfl, hp1, hp2, hb⟩ := hrel
                have HKp := Lib.hid hb
                clear hb
                have hwT : IntKind.i64.wrap ((T : Int) + 1) = (T : Int) + 1 := IntWalk.i64_in _ (by omega)
                by_cases hp : p ≤ (T : Int) + 1
                · have hpd : decide (p ≤ (T : Int) + 1) = true := decide_eq_true hp
                  have C1 := Lib.hid (HBG.out a p (by unfold In64; omega) wr HKp.out)
                  have C2 := Lib.hid fun W (hb : Below wr.heap.size wr W) => HBR.out a p (by unfold In64; omega) W (HKp.out.trans (hb.mono HKp.out.size))
                  generalize budL (wordsL L) a p = v at C1 C2
                  have hne : (v != v) = false := bne_self_eq_false v
                  go_wp2_with fail
                  refine C1.out.mono ?_
                  rintro e w5 ⟨rfl, hb5⟩
                  go_wp2_with fail
                  refine (C2.out w5 hb5).mono ?_
                  rintro e w6 ⟨rfl, hb6⟩
                  have hb56 := hb5.trans (hb6.mono hb5.size)
                  have HK6 := Lib.hid (HKp.out.trans (hb56.mono HKp.out.size))
                  clear hb5 hb6 hb56 C1 C2
                  go_wp2_with fail
                  go_roundw
                  case rel => exact ⟨p + 1, by go_num, by omega, by omega, HK6.out⟩
                  case measure => simp [intOf]; omega
                · have hpd : decide (p ≤ (T : Int) + 1) = false := decide_eq_false hp
                  go_wp2_with fail
                  go_roundw
                  case rel => exact ⟨a + 1, by go_num, by omega, by omega, HKp.out⟩
                  case measure => simp [intOf]; omega
        · have had : decide (a < 5) = false := decide_eq_false ha
          have hT5 := HT1.out.below HKa.out HT1.out.lt
          go_wp2_with fail
          refine (config_anyx b b A0 n0 k0 f0 (by omega) at1 wr hT5).mono ?_
          rintro e w6 ⟨A1, A2, A3, n1, n2, n3, c1, c2, c3, P, C, T3, at2, rfl, hCf, q1, q2, q3, q4, q5, hco, hTb, hTt, q6, q7, q8, T6, G6, hper, _, _, _, _, _⟩
          have hown6 := (HOW.out.below rfl HKa.out).gb G6 hbA
          have hbl := bl1 w6 (.cells #[.slice A1 n1 c1, .slice A2 n2 c2, .slice A3 n3 c3] 36)
          have hbox := box_vec w6 (.slice A1 n1 c1) (.slice A2 n2 c2) (.slice A3 n3 c3) 36
          have HCF := Lib.hid (hCf.on hbl)
          have HPER := Lib.hid hper
          have HOW7 := Lib.hid (hown6.below rfl hbl)
          have HTB := Lib.hid (hTb.on hbl)
          have HTT := Lib.hid fun t ht W (hb : Below w6.heap.size w6 W) => And.intro ((hTt t ht).1.on hb) (hTt t ht).2
          have HB7 : Hid (Below w.heap.size w (w6.alloc (.cells #[.slice A1 n1 c1, .slice A2 n2 c2, .slice A3 n3 c3] 36))) := Lib.hid (by
            have h1 := HB2.out.trans (HKa.out.mono HB2.out.size)
            have hbw : w.heap.size ≤ b := by have h3 := HBB.out; have h4 := HSZ.out; omega
            have h2 : Below w.heap.size wr w6 := ⟨G6.os, G6.tape, G6.output, G6.size, fun q hq => G6.block q (Nat.lt_of_lt_of_le hq h1.size) (fun e => by injection e with e; omega)⟩
            exact (h1.trans h2).trans (hbl.mono (h1.trans h2).size))
          have HBL := Lib.hid hbl
          have HBX := Lib.hid hbox
          clear hCf hown6 hTb hTt hper T6 G6 hbox hco hT5
          go_upto_region 21 with fail
          generalize w6.alloc (.cells #[.slice A1 n1 c1, .slice A2 n2 c2, .slice A3 n3 c3] 36) = W7 at HCF HOW7 HTB HB7 HBL HBX ⊢
          generalize w6.heap.size = gq at HBX ⊢
          obtain ⟨m0, m1, m2⟩ := HBX.out.three
          go_wp2_with fail
          clear m0 m1 m2
          go_loopw [10, 11, 12, 60] (fun _ _ _ s wx => ∃ j : Nat, j ≤ n3 ∧ s = .int .i64 j ∧ Below W7.heap.size W7 wx) (fun _ _ _ s _ => n3 - (intOf s).toNat)
          case atStart => exact ⟨0, by omega, rfl, Below.refl _ _⟩
          case round =>
            obtain ⟨j, hj, rfl, hb⟩ := hrel
            have HKj := Lib.hid hb
            clear hb
            by_cases hjn : j < n3
            · have hjni : (j : Int) < (n3 : Int) := by omega
              obtain ⟨ad3, t, rfl, had3, ht, c0, _⟩ := (HTB.out.on HKj.out).at_ tcl_len (by omega) hjn
              have d0 := c0 _ rfl
              rw [Nat.mul_one] at d0
              obtain ⟨htt, hfr⟩ := HTT.out t (List.mem_of_getElem? ht) wr (HBL.out.trans (HKj.out.mono HBL.out.size))
              have HOF := Lib.hid (rof_new t wr htt hfr)
              clear c0 ht htt hfr
              obtain ⟨tA, tn, tc, tx, tk⟩ := t
              dsimp only at d0 HOF
              go_wp2_with fail
              refine HOF.out.mono ?_
              rintro e wv ⟨r, rfl, hr, hb8, _, _⟩
              have hrd := hr.rd
              have hrc := hr.cap
              have hrf := hr.few
              have hrt := hr.tk
              obtain ⟨ra, rn, rc, rl⟩ := r
              unfold Rw.v
              dsimp only at hrd hrc hrf hrt ⊢
              have HKV := Lib.hid (HKj.out.trans (hb8.mono HKj.out.size))
              have HC1 := Lib.hid fun W (hb : Below wv.heap.size wv W) => H.holds A1 A2 (some ad3) ra n1 n2 n3 rn c1 c2 c3 rc P C rl W (HCF.out.on (HKV.out.trans (hb.mono HKV.out.size))).p (HCF.out.on (HKV.out.trans (hb.mono HKV.out.size))).c (hrd.on hb) (by omega) (by omega) hrc (by omega) (by omega) HPER.out
              have HC2 := Lib.hid fun W (hb : Below wv.heap.size wv W) => holdsx_any A1 A2 (some ad3) ra n1 n2 n3 rn c1 c2 c3 rc P C rl W (HCF.out.on (HKV.out.trans (hb.mono HKV.out.size))).p (HCF.out.on (HKV.out.trans (hb.mono HKV.out.size))).c (hrd.on hb) (by omega) (by omega) hrc (by omega) (by omega) HPER.out
              have HC3 := Lib.hid fun W (hb : Below wv.heap.size wv W) => H.holds A1 A2 (some ad3) AL n1 n2 n3 nl c1 c2 c3 cl P C L W (HCF.out.on (HKV.out.trans (hb.mono HKV.out.size))).p (HCF.out.on (HKV.out.trans (hb.mono HKV.out.size))).c (HOW7.out.rdr.on (HKV.out.trans (hb.mono HKV.out.size))) (by omega) (by omega) hcl (by omega) (by omega) HPER.out
              have HC4 := Lib.hid fun W (hb : Below wv.heap.size wv W) => holdsx_any A1 A2 (some ad3) AL n1 n2 n3 nl c1 c2 c3 cl P C L W (HCF.out.on (HKV.out.trans (hb.mono HKV.out.size))).p (HCF.out.on (HKV.out.trans (hb.mono HKV.out.size))).c (HOW7.out.rdr.on (HKV.out.trans (hb.mono HKV.out.size))) (by omega) (by omega) hcl (by omega) (by omega) HPER.out
              generalize holdsF (wordsL rl) P C = h1 at HC1 HC2
              generalize holdsF (wordsL L) P C = h2 at HC3 HC4
              have HNE : Hid ((h1 != h1) = false ∧ (h2 != h2) = false) := Lib.hid ⟨bne_self_eq_false _, bne_self_eq_false _⟩
              obtain ⟨m0, m1, m2⟩ := (HBX.out.on HKV.out).three
              clear HOF hb8 d0 had3 hr hrd
              go_wp2_with fail
              refine Rgs.region (by kernel_rfl) (by kernel_rfl) (fun (opn : Nat) (vl : Value) (_ : World) => match opn with | 0 => vl = .agg #[.slice A1 n1 c1, .slice A2 n2 c2, .slice (some ad3) n3 c3] | 1 => vl = .slice ra rn rc | 2 => vl = .int .i64 h1 | 3 => vl = .agg #[.slice A1 n1 c1, .slice A2 n2 c2, .slice (some ad3) n3 c3] | 4 => vl = .slice ra rn rc | 5 => vl = .int .i64 h1 | 6 => vl = .bool false | 7 => vl = .bool false | 8 => vl = .agg #[.slice A1 n1 c1, .slice A2 n2 c2, .slice (some ad3) n3 c3] | 9 => vl = .slice AL nl cl | 10 => vl = .int .i64 h2 | 11 => vl = .agg #[.slice A1 n1 c1, .slice A2 n2 c2, .slice (some ad3) n3 c3] | 12 => vl = .slice AL nl cl | 13 => vl = .int .i64 h2 | 14 => vl = .bool false | 15 => vl = .bool false | _ => True) (fun _ _ w' => Below wv.heap.size wv w') (Below.refl _ _).drew (Rgs.steps_of ?_) ?_
              · refine ⟨?_, ?_, ?_, ?_, ?_, ?_, ?_, ?_, ?_, ?_, ?_, ?_, ?_, ?_, ?_, ?_, trivial⟩
                · intro a w1 live S E D C h0 hk hW
                  have e8 : a.eval (.tmp 8) = .pointer (some ⟨gq, 0, none⟩) := E 8 rfl
                  have hc0 := (hW.cell (p := ⟨gq, 0, none⟩) (World.block_lt_of_cell? _ _ m0)).trans m0
                  have hc1 := (hW.cell (p := ⟨gq, 1, none⟩) (World.block_lt_of_cell? _ _ m1)).trans m1
                  have hc2 := (hW.cell (p := ⟨gq, 2, none⟩) (World.block_lt_of_cell? _ _ m2)).trans m2
                  exact Rgs.val rfl (Reg.wanted_free rfl) (.agg #[.slice A1 n1 c1, .slice A2 n2 c2, .slice (some ad3) n3 c3]) (by have c := Reg.consts a; generalize a.eval = ρ at *; simp [execOp, go_sem, c.1, c.2, e8, hc0, hc1, hc2]) rfl hW
                · intro a w1 live S E D C h0 hk hW
                  have e11 : a.eval (.tmp 11) = .slice ra rn rc := E 11 rfl
                  exact Rgs.val rfl (Reg.wanted_free rfl) (.slice ra rn rc) (by have c := Reg.consts a; generalize a.eval = ρ at *; simp [execOp, go_sem, c.1, c.2, e11]) rfl hW
                · intro a w1 live S E D C h0 hk hW
                  have d0 : a.eval (.tmp 69) = .agg #[.slice A1 n1 c1, .slice A2 n2 c2, .slice (some ad3) n3 c3] := D 0 rfl _ _ rfl rfl
                  have d1 : a.eval (.tmp 70) = .slice ra rn rc := D 1 rfl _ _ rfl rfl
                  refine Rgs.call rfl (Reg.wanted_free rfl) 16 #[.agg #[.slice A1 n1 c1, .slice A2 n2 c2, .slice (some ad3) n3 c3], .slice ra rn rc] (by have c := Reg.consts a; generalize a.eval = ρ at *; simp [execOp, go_sem, c.1, c.2, d0, d1]) ?_
                  refine (HC1.out w1 hW).mono ?_
                  rintro e w5 ⟨rfl, hb5⟩
                  exact ⟨_, rfl, rfl, hW.trans (hb5.mono hW.size), fun j v _ h => h⟩
                · intro a w1 live S E D C h0 hk hW
                  have e8 : a.eval (.tmp 8) = .pointer (some ⟨gq, 0, none⟩) := E 8 rfl
                  have hc0 := (hW.cell (p := ⟨gq, 0, none⟩) (World.block_lt_of_cell? _ _ m0)).trans m0
                  have hc1 := (hW.cell (p := ⟨gq, 1, none⟩) (World.block_lt_of_cell? _ _ m1)).trans m1
                  have hc2 := (hW.cell (p := ⟨gq, 2, none⟩) (World.block_lt_of_cell? _ _ m2)).trans m2
                  exact Rgs.val rfl (Reg.wanted_free rfl) (.agg #[.slice A1 n1 c1, .slice A2 n2 c2, .slice (some ad3) n3 c3]) (by have c := Reg.consts a; generalize a.eval = ρ at *; simp [execOp, go_sem, c.1, c.2, e8, hc0, hc1, hc2]) rfl hW
                · intro a w1 live S E D C h0 hk hW
                  have e11 : a.eval (.tmp 11) = .slice ra rn rc := E 11 rfl
                  exact Rgs.val rfl (Reg.wanted_free rfl) (.slice ra rn rc) (by have c := Reg.consts a; generalize a.eval = ρ at *; simp [execOp, go_sem, c.1, c.2, e11]) rfl hW
                · intro a w1 live S E D C h0 hk hW
                  have d3 : a.eval (.tmp 72) = .agg #[.slice A1 n1 c1, .slice A2 n2 c2, .slice (some ad3) n3 c3] := D 3 rfl _ _ rfl rfl
                  have d4 : a.eval (.tmp 73) = .slice ra rn rc := D 4 rfl _ _ rfl rfl
                  refine Rgs.call rfl (Reg.wanted_free rfl) 17 #[.agg #[.slice A1 n1 c1, .slice A2 n2 c2, .slice (some ad3) n3 c3], .slice ra rn rc] (by have c := Reg.consts a; generalize a.eval = ρ at *; simp [execOp, go_sem, c.1, c.2, d3, d4]) ?_
                  refine (HC2.out w1 hW).mono ?_
                  rintro e w5 ⟨rfl, hb5⟩
                  exact ⟨_, rfl, rfl, hW.trans (hb5.mono hW.size), fun j v _ h => h⟩
                · intro a w1 live S E D C h0 hk hW
                  have d2 : a.eval (.tmp 71) = .int .i64 h1 := D 2 rfl _ _ rfl rfl
                  have d5 : a.eval (.tmp 74) = .int .i64 h1 := D 5 rfl _ _ rfl rfl
                  have hne := HNE.out
                  exact Rgs.val rfl (Reg.wanted_free rfl) (.bool false) (by have c := Reg.consts a; generalize a.eval = ρ at *; simp [execOp, go_sem, c.1, c.2, d2, d5, hne.1]) rfl hW
                · intro a w1 live S E D C h0 hk hW
                  have d6 : a.eval (.tmp 75) = .bool false := D 6 rfl _ _ rfl rfl
                  exact Rgs.val rfl (Reg.wanted_free rfl) (.bool false) (by have c := Reg.consts a; generalize a.eval = ρ at *; simp [execOp, go_sem, c.1, c.2, d6]) rfl hW
                · intro a w1 live S E D C h0 hk hW
                  have dg : a.eval (.tmp 76) = .bool false := D 7 rfl _ _ rfl rfl
                  have e8 : a.eval (.tmp 8) = .pointer (some ⟨gq, 0, none⟩) := E 8 rfl
                  have hc0 := (hW.cell (p := ⟨gq, 0, none⟩) (World.block_lt_of_cell? _ _ m0)).trans m0
                  have hc1 := (hW.cell (p := ⟨gq, 1, none⟩) (World.block_lt_of_cell? _ _ m1)).trans m1
                  have hc2 := (hW.cell (p := ⟨gq, 2, none⟩) (World.block_lt_of_cell? _ _ m2)).trans m2
                  exact Rgs.val rfl (Reg.wanted_if rfl rfl dg rfl) (.agg #[.slice A1 n1 c1, .slice A2 n2 c2, .slice (some ad3) n3 c3]) (by have c := Reg.consts a; generalize a.eval = ρ at *; simp [execOp, go_sem, c.1, c.2, e8, hc0, hc1, hc2]) rfl hW
                · intro a w1 live S E D C h0 hk hW
                  have dg : a.eval (.tmp 76) = .bool false := D 7 rfl _ _ rfl rfl
                  have e3 : a.eval (.tmp 3) = .slice AL nl cl := E 3 rfl
                  exact Rgs.val rfl (Reg.wanted_if rfl rfl dg rfl) (.slice AL nl cl) (by have c := Reg.consts a; generalize a.eval = ρ at *; simp [execOp, go_sem, c.1, c.2, e3]) rfl hW
                · intro a w1 live S E D C h0 hk hW
                  have dg : a.eval (.tmp 76) = .bool false := D 7 rfl _ _ rfl rfl
                  have d8 : a.eval (.tmp 77) = .agg #[.slice A1 n1 c1, .slice A2 n2 c2, .slice (some ad3) n3 c3] := D 8 rfl _ _ rfl rfl
                  have d9 : a.eval (.tmp 78) = .slice AL nl cl := D 9 rfl _ _ rfl rfl
                  refine Rgs.call rfl (Reg.wanted_if rfl rfl dg rfl) 16 #[.agg #[.slice A1 n1 c1, .slice A2 n2 c2, .slice (some ad3) n3 c3], .slice AL nl cl] (by have c := Reg.consts a; generalize a.eval = ρ at *; simp [execOp, go_sem, c.1, c.2, d8, d9]) ?_
                  refine (HC3.out w1 hW).mono ?_
                  rintro e w5 ⟨rfl, hb5⟩
                  exact ⟨_, rfl, rfl, hW.trans (hb5.mono hW.size), fun j v _ h => h⟩
                · intro a w1 live S E D C h0 hk hW
                  have dg : a.eval (.tmp 76) = .bool false := D 7 rfl _ _ rfl rfl
                  have e8 : a.eval (.tmp 8) = .pointer (some ⟨gq, 0, none⟩) := E 8 rfl
                  have hc0 := (hW.cell (p := ⟨gq, 0, none⟩) (World.block_lt_of_cell? _ _ m0)).trans m0
                  have hc1 := (hW.cell (p := ⟨gq, 1, none⟩) (World.block_lt_of_cell? _ _ m1)).trans m1
                  have hc2 := (hW.cell (p := ⟨gq, 2, none⟩) (World.block_lt_of_cell? _ _ m2)).trans m2
                  exact Rgs.val rfl (Reg.wanted_if rfl rfl dg rfl) (.agg #[.slice A1 n1 c1, .slice A2 n2 c2, .slice (some ad3) n3 c3]) (by have c := Reg.consts a; generalize a.eval = ρ at *; simp [execOp, go_sem, c.1, c.2, e8, hc0, hc1, hc2]) rfl hW
                · intro a w1 live S E D C h0 hk hW
                  have dg : a.eval (.tmp 76) = .bool false := D 7 rfl _ _ rfl rfl
                  have e3 : a.eval (.tmp 3) = .slice AL nl cl := E 3 rfl
                  exact Rgs.val rfl (Reg.wanted_if rfl rfl dg rfl) (.slice AL nl cl) (by have c := Reg.consts a; generalize a.eval = ρ at *; simp [execOp, go_sem, c.1, c.2, e3]) rfl hW
                · intro a w1 live S E D C h0 hk hW
                  have dg : a.eval (.tmp 76) = .bool false := D 7 rfl _ _ rfl rfl
                  have d11 : a.eval (.tmp 80) = .agg #[.slice A1 n1 c1, .slice A2 n2 c2, .slice (some ad3) n3 c3] := D 11 rfl _ _ rfl rfl
                  have d12 : a.eval (.tmp 81) = .slice AL nl cl := D 12 rfl _ _ rfl rfl
                  refine Rgs.call rfl (Reg.wanted_if rfl rfl dg rfl) 17 #[.agg #[.slice A1 n1 c1, .slice A2 n2 c2, .slice (some ad3) n3 c3], .slice AL nl cl] (by have c := Reg.consts a; generalize a.eval = ρ at *; simp [execOp, go_sem, c.1, c.2, d11, d12]) ?_
                  refine (HC4.out w1 hW).mono ?_
                  rintro e w5 ⟨rfl, hb5⟩
                  exact ⟨_, rfl, rfl, hW.trans (hb5.mono hW.size), fun j v _ h => h⟩
                · intro a w1 live S E D C h0 hk hW
                  have dg : a.eval (.tmp 76) = .bool false := D 7 rfl _ _ rfl rfl
                  have d10 : a.eval (.tmp 79) = .int .i64 h2 := D 10 rfl _ _ rfl rfl
                  have d13 : a.eval (.tmp 82) = .int .i64 h2 := D 13 rfl _ _ rfl rfl
                  have hne := HNE.out
                  exact Rgs.val rfl (Reg.wanted_if rfl rfl dg rfl) (.bool false) (by have c := Reg.consts a; generalize a.eval = ρ at *; simp [execOp, go_sem, c.1, c.2, d10, d13, hne.2]) rfl hW
                · intro a w1 live S E D C h0 hk hW
                  have d7 : a.eval (.tmp 76) = .bool false := D 7 rfl _ _ rfl rfl
                  have d14 : a.eval (.tmp 83) = .bool false := D 14 rfl _ _ rfl rfl
                  exact Rgs.val rfl (Reg.wanted_free rfl) (.bool false) (by have c := Reg.consts a; generalize a.eval = ρ at *; simp [execOp, go_sem, c.1, c.2, d7, d14]) rfl hW
              · intro a w4 live hs hd E D Hl hW
                have e84 : a.eval (.tmp 84) = .bool false := by
                  obtain ⟨v, hv, he⟩ := D 15 _ rfl
                  exact (he 84 rfl).trans hv
                rw [Rgs.act_ws a _ _ hs hd E [69, 70, 71, 72, 73, 74, 75, 76, 77, 78, 79, 80, 81, 82, 83, 84] (by kernel_rfl)]
                simp only [List.foldl, List.setIfInBounds_toArray, List.set_cons_succ, List.set_cons_zero, e84]
                have HB9 := Lib.hid (HKV.out.trans (Below.mono hW HKV.out.size))
                clear E D Hl hW e84 HC1 HC2 HC3 HC4 HNE m0 m1 m2
                generalize a.eval = ρ
                clear a hs hd
                go_wp2_with fail
                go_roundw
                case rel => exact ⟨j + 1, by omega, by go_num, HB9.out⟩
                case measure => simp [intOf]; omega
            · have hjni : ¬ (j : Int) < (n3 : Int) := by omega
              have HB9 := Lib.hid (HB7.out.trans (HKj.out.mono HB7.out.size))
              go_wp2_with fail
              go_roundw
              case rel => exact ⟨k + 1, by omega, by go_num, HB9.out⟩
              case measure => simp [intOf]; omega
    · have hkmi : ¬ (k : Int) < (m : Int) := by omega
      have hbl := bl1 wr (.cells #[.int .i64 1, .int .i64 4096] 44)
      have HN := Lib.hid fun W => same9_any H none 0 0 [] 0 0 1 W (⟨rfl, RdV.nil⟩ : RdR W W.heap.size none 0 []) (by omega) (by omega) (by decide) (by unfold In64; omega)
      go_wp2_with fail
      refine (HN.out wr).mono ?_
      rintro e w5 ⟨rfl, hb5⟩
      have hbl5 := bl1 w5 (.cells #[.int .i64 1, .int .i64 4096] 44)
      have hr5 : RdR (w5.alloc (.cells #[.int .i64 1, .int .i64 4096] 44)) (w5.alloc (.cells #[.int .i64 1, .int .i64 4096] 44)).heap.size (some ⟨w5.heap.size, 0, none⟩) 1 [⟨1, 4096⟩] := ⟨rfl, rdV_new w5 _ _ _ rfl⟩
      have HS5 := Lib.hid (same9_any H (some ⟨w5.heap.size, 0, none⟩) 1 1 [⟨1, 4096⟩] 1 1 64 _ hr5 (by omega) (by omega) (by decide) (by unfold In64; omega))
      have HK5 := Lib.hid ((HB.out.trans (hb5.mono HB.out.size)).trans (hbl5.mono (HB.out.trans (hb5.mono HB.out.size)).size))
      clear hb5 hbl5 hr5 hbl HN
      go_wp2_with fail
      refine HS5.out.mono ?_
      rintro e w6 ⟨rfl, hb6⟩
      have k6 := HK5.out.trans (hb6.mono HK5.out.size)
      clear hb6 HS5 HK5
      go_wp2_with fail
      refine (known9_any H w6).mono ?_
      rintro e w7 ⟨rfl, hb7⟩
      go_wp2_with fail
      go_ret
      exact Ans.mk rfl (k6.trans (hb7.mono k6.size))
end Go.Proofs.Ytcmdhaieggjgcaa.boundNumbers
