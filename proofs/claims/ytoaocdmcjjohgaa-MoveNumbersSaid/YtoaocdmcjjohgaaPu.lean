/- MoveNumbers: chapter 10's runs, rows of thirty tapes, each two places, each way; a row with a number below 0 (the walk). -/
import Derived.Test.YtoaocdmcjjohgaaLow2
import Derived.Test.YtoaocdmcjjohgaaPs
import Derived.Test.YtoaocdmcjjohgaaCfg
import Derived.Test.YtoaocdmcjjohgaaLow7
import Derived.Test.YtoaocdmcjjohgaaLow6
namespace Go.Proofs.Ytoaocdmcjjohgaa.moveNumbers
open Go.ChangeShapes Go.WideShapes Go.ChangeAt Go.RowKit Tab
set_option linter.unusedSimpArgs false
set_option linter.unusedVariables false

/-- It answers a row of numbers, new, of no more than 400. -/
def TapeL (w : World) (e : Ending) (w' : World) : Prop := ∃ (A : Option Addr) (n c : Nat) (f : Nat → Int), e = .returned (.slice A n c) ∧ RdC w' w'.heap.size A n (fun j => .int .i64 (f j)) ∧ n ≤ 400 ∧ Below w.heap.size w w'
theorem TapeL.mk {w w' : World} {A : Option Addr} {n c B : Nat} {L : List Int} (h : OwnV 3 1 w' B A n c (is L)) (hn : n ≤ 400) (hb : Below w.heap.size w w') : TapeL w (.returned (.slice A n c)) w' := by
  refine ⟨A, n, c, fun j => L.getD j 0, rfl, fun h0 => ?_, hn, hb⟩
  have hl := h.len
  rw [is_length] at hl
  obtain ⟨ad, e, hlt, hc⟩ := h.rd (by rw [is_length]; omega)
  refine ⟨ad, e, hlt, fun j hj => hc j _ ?_⟩
  have hj' : j < L.length := by omega
  simp [is, hj']
set_option maxRecDepth 100000 in
set_option maxHeartbeats 4000000 in
theorem tape10_any (k : Nat) (w : World) (hk : k ≤ 100) : Calls Try.prog 8 #[.int .i64 (k : Int)] w (TapeL w) := by
  go_enter Try.func8, Try.ntmps8
  go_wp2_with fail
  obtain ⟨m, hm⟩ : ∃ m : Nat, (400 : Int) = (m : Int) := ⟨400, rfl⟩
  have hm1 : m ≤ 400 := by omega
  rw [hm]
  clear hm
  go_loopw [3, 4] (fun q s wr => ∃ (i c : Nat) (A : Option Addr) (L : List Int), i ≤ m ∧ s = .int .i64 i ∧ q = .slice A i c ∧ OwnV 3 1 wr w.heap.size A i c (is L) ∧ Below w.heap.size w wr) (fun _ s _ => m - (intOf s).toNat)
  case atStart => exact ⟨0, 0, none, [], by omega, rfl, rfl, OwnV.nil _ _ _ _, Below.refl _ _⟩
  case round =>
    obtain ⟨i, c, A, L, hi, rfl, rfl, hw, hb⟩ := hrel
    by_cases hlt : i < m
    · have hi4 : i ≤ 400 := by omega
      have h1 : i * i ≤ 400 * 400 := Nat.mul_le_mul hi4 hi4
      have h2 : i * k ≤ 400 * 100 := Nat.mul_le_mul hi4 hk
      have p1 : 0 ≤ (i : Int) * (i : Int) := by rw [← Int.natCast_mul]; omega
      have p2 : (i : Int) * (i : Int) ≤ 160000 := by rw [← Int.natCast_mul]; omega
      have p3 : 0 ≤ (i : Int) * (k : Int) := by rw [← Int.natCast_mul]; omega
      have p4 : (i : Int) * (k : Int) ≤ 40000 := by rw [← Int.natCast_mul]; omega
      clear h1 h2
      generalize hP : (i : Int) * (i : Int) = P at p1 p2
      generalize hQ : (i : Int) * (k : Int) = Q at p3 p4
      have hbs := hb.alloc hb.size (.cells #[.int .i64 ((P * 7 + (k : Int) * 53 + Q) % 211)] 3)
      have hw' := OwnV.below hw rfl (bl1 wr (.cells #[.int .i64 ((P * 7 + (k : Int) * 53 + Q) % 211)] 3))
      have hrd := rdV_new wr #[.int .i64 ((P * 7 + (k : Int) * 53 + Q) % 211)] 3 (is [(P * 7 + (k : Int) * 53 + Q) % 211]) rfl
      go_wp2_with (at_builtin; go_loud (refine wpList_appV elI rfl (.tmp 9) (.tmp 22) rfl rfl w.heap.size A i c _ rfl hw' _ 1 1 _ _ rfl hrd rfl (is_one _) (by omega) (by unfold maxLen; omega) hbs.size (i + 1) rfl (is (L ++ [(P * 7 + (k : Int) * 53 + Q) % 211])) (by rw [is_append]) ?_; intro A2 c2 w2 hw2 hb2 _))
      go_roundw
      case rel => exact ⟨i + 1, c2, A2, _, by omega, by go_num, rfl, hw2, hbs.trans hb2⟩
      case measure => simp [intOf]; omega
    · have hge : m ≤ i := by omega
      go_wp2_with fail
      go_ret
      exact TapeL.mk hw (by omega) hb
/-- The row with a number below 0. -/
def Z10 : List Zr := [⟨0, -5⟩, ⟨1, 1⟩, ⟨0, 3⟩]
theorem z10_all : allF (depW 2 (depF (P10.map ptOf) (([] : List ChV).map chOf))) [0, 1, 0] = [⟨0, 2, false⟩, ⟨0, 2, true⟩] := by kernel_rfl
theorem z10_nat : ∀ k r, Z10[k]? = some r → k ≠ 0 → k ≠ 2 → 0 ≤ r.z := fun k r hr h1 h2 => by
  match k with
  | 0 => exact absurd rfl h1
  | 1 => injection hr with hr; subst hr; decide
  | 2 => exact absurd rfl h2
  | k + 3 => cases hr
theorem P10_per : ∀ x ∈ P10, In64 x.per := by
  intro x hx
  simp [P10] at hx
  subst hx
  exact ⟨by decide, by decide⟩
set_option maxRecDepth 100000 in
set_option maxHeartbeats 4000000 in
theorem lsame_below (A1 A : Option Addr) (w : World) (hCf : CfW w w.heap.size A1 none 2 0 P10 []) (hL : RdB zcl w w.heap.size A 3 Z10) :
    Calls Try.prog 11 #[.slice A 3 3, .agg #[.slice A1 2 2, .slice none 0 0, .slice none 0 0], .agg #[.int .i64 0, .int .i64 2, .bool false]] w (Ans (.bool true) w) := by
  have hdo : ∀ (I J : Int) (rt : Bool) (W : World), (I = 0 ∧ J = 2) → Below w.heap.size w W → Calls Try.prog 18 #[.slice A 3 3, .agg #[.int .i64 I, .int .i64 J, .bool rt]] W (RowQ (tidy (mv (Z10.map clp) 0 2 rt)) W) := fun I J rt W hk hb => by
    obtain ⟨rfl, rfl⟩ := hk
    exact (mdo_any A 3 3 Z10 0 2 rt W (hL.on hb) (by omega) (by omega) (by decide) (fun _ => z10_nat)).mono fun _ _ h => h.1 rfl
  have hrd : ∀ (I J : Int) (rt : Bool) (W : World), (I = 0 ∧ J = 2) → Below w.heap.size w W → Calls Try.prog 32 #[.slice A 3 3, .agg #[.int .i64 I, .int .i64 J, .bool rt]] W (RowQ (tidy (mv (Z10.map clp) 0 2 rt)) W) := fun I J rt W hk hb => by
    obtain ⟨rfl, rfl⟩ := hk
    exact rdoz_any A 3 3 Z10 0 2 rt W (hL.on hb) (by omega) (by omega) (by decide) (by omega) (by omega) z10_nat
  have hlen : ∀ rt, (tidy (mv (Z10.map clp) 0 2 rt)).length ≤ 1048576 := fun rt => by cases rt <;> decide
  have htk : ∀ rt, ticks (tidy (mv (Z10.map clp) 0 2 rt)) ≤ 8192 := fun rt => by cases rt <;> decide
  refine lsameG_any (fun I J => I = 0 ∧ J = 2) (fun _ _ rt => tidy (mv (Z10.map clp) 0 2 rt)) (fun _ _ rt => mayZ (depW P10.length (depF (P10.map ptOf) (([] : List ChV).map chOf))) [0, 1, 0] 0 2 && decide (holdsF (wordsL (tidy (mv (Z10.map clp) 0 2 rt))) P10 [] = 0)) A1 none none A 2 0 0 3 2 0 0 3 P10 [] [0, 1, 0] 0 2 false w hCf hL.rdpz (by omega) (by omega) (by omega) (by omega) (by decide) ⟨rfl, rfl⟩ ?_ (fun _ _ rt _ => hlen rt) hdo hrd ?_ ?_
  · intro x hx
    rw [z10_all] at hx
    simp at hx
    rcases hx with rfl | rfl <;> exact ⟨rfl, rfl⟩
  · intro I J rt W hk hb
    obtain ⟨rfl, rfl⟩ := hk
    exact mfits_any A1 none none A 2 0 0 3 2 0 0 3 P10 [] [0, 1, 0] (tidy (mv (Z10.map clp) 0 2 rt)) 0 2 rt W (hCf.on hb) (hL.on hb).rdpz (by omega) (by omega) (by omega) (by omega) (hlen rt) (htk rt) P10_per (fun _ W' hb' => hdo 0 2 rt W' ⟨rfl, rfl⟩ (hb.trans (hb'.mono hb.size)))
  · intro I J rt W hk hb
    obtain ⟨rfl, rfl⟩ := hk
    exact rfitsP_any A1 none none A 2 0 0 3 2 0 0 3 P10 [] [0, 1, 0] (tidy (mv (Z10.map clp) 0 2 rt)) 0 2 rt W (hCf.on hb) (hL.on hb).rdpz (by omega) (by omega) (by omega) (by omega) (hlen rt) (htk rt) P10_per (by decide) (fun _ W' hb' => hrd 0 2 rt W' ⟨rfl, rfl⟩ (hb.trans (hb'.mono hb.size)))
set_option maxRecDepth 100000 in
set_option maxHeartbeats 8000000 in
theorem walk (w : World) : Calls Try.prog 3 #[] w (Ans (.bool true) w) := by
  go_enter Try.func3, Try.ntmps3
  go_wp2_with fail
  obtain ⟨m, hm⟩ : ∃ m : Nat, (30 : Int) = (m : Int) := ⟨30, rfl⟩
  have hm1 : m ≤ 30 := by omega
  rw [hm]
  clear hm
  go_loopw [1, 2, 3, 4, 5, 6] (fun s _ _ _ _ _ wr => ∃ k : Nat, k ≤ m ∧ s = .int .i64 k ∧ Below w.heap.size w wr) (fun s _ _ _ _ _ _ => m - (intOf s).toNat)
  case atStart => exact ⟨0, by omega, rfl, Below.refl _ _⟩
  case round =>
    obtain ⟨k, hk, rfl, hb⟩ := hrel
    have HB := Lib.hid hb
    clear hb
    by_cases hkm : k < m
    · have hkmi : (k : Int) < (m : Int) := by omega
      go_wp2_with fail
      refine (tape10_any k wr (by omega)).mono ?_
      rintro e w1 ⟨A0, n0, k0, f0, rfl, hr0, hn0, hb1⟩
      have HB1 := Lib.hid (HB.out.trans (hb1.mono HB.out.size))
      have HSZ : Hid (w.heap.size ≤ w1.heap.size) := Lib.hid HB1.out.size
      have HT0 := Lib.hid (tape_boxed A0 n0 k0 f0 w1 hr0)
      have HBT := Lib.hid (bl1 w1 (.cells #[.slice A0 n0 k0, .int .i64 0] 26))
      clear hr0 hb1 HB
      go_upto_region 5 with fail
      obtain ⟨b, hbb⟩ : ∃ b, b = w1.heap.size := ⟨_, rfl⟩
      rw [← hbb] at HT0 ⊢
      generalize w1.alloc (.cells #[.slice A0 n0 k0, .int .i64 0] 26) = wA at HT0 HBT ⊢
      have HBB := Lib.hid hbb
      clear hbb
      have HBA : Hid (b < wA.heap.size) := Lib.hid HT0.out.lt
      have HLW : Hid (w.heap.size ≤ b) := Lib.hid (by have h1 := HBB.out; have h2 := HSZ.out; omega)
      have HBA0 : Hid (Below w.heap.size w wA) := Lib.hid (HB1.out.trans (HBT.out.mono HB1.out.size))
      go_wp2_with fail
      refine (config_anyx b b A0 n0 k0 f0 (by omega) 0 wA HT0.out).mono ?_
      rintro e w2 ⟨A1, A2, A3, n1, n2, n3, c1, c2, c3, P, C, T3, at1, rfl, hCf, q1, q2, q3, q4, q5, hco, hTb, hTt, q6, q7, q8, T6, G6, hper, _, _, hPo, hCo, hd12⟩
      have hbl := bl1 w2 (.cells #[.slice A1 n1 c1, .slice A2 n2 c2, .slice A3 n3 c3] 31)
      have HPO := Lib.hid (hPo.below hbl)
      have HCO := Lib.hid (hCo.below hbl)
      have HT6 := Lib.hid (T6.below hbl T6.lt)
      have HBX := Lib.hid (box_vec w2 (.slice A1 n1 c1) (.slice A2 n2 c2) (.slice A3 n3 c3) 31)
      have HB3 : Hid (Below w.heap.size w (w2.alloc (.cells #[.slice A1 n1 c1, .slice A2 n2 c2, .slice A3 n3 c3] 31))) := Lib.hid (by
        have hx := HBA.out
        have hy := HLW.out
        have h2 : Below w.heap.size w w2 := HBA0.out.trans ⟨G6.os, G6.tape, G6.output, G6.size, fun q hq => G6.block q (Nat.lt_of_lt_of_le hq HBA0.out.size) (fun e => by injection e with e; omega)⟩
        exact h2.trans (hbl.mono h2.size))
      have HG : Hid (b < w2.heap.size) := Lib.hid (Nat.lt_of_lt_of_le HBA.out G6.size)
      have HPER := Lib.hid hper
      clear hCf hTb hTt hco T6 G6 hper hPo hCo hd12 hbl HBT HBA0 HB1
      go_upto_region 6 with fail
      generalize w2.alloc (.cells #[.slice A1 n1 c1, .slice A2 n2 c2, .slice A3 n3 c3] 31) = w3 at HPO HCO HT6 HBX HB3 ⊢
      generalize w2.heap.size = gq at HBX HG ⊢
      obtain ⟨x0, x1, x2⟩ := HBX.out.three
      go_wp2_with fail
      refine (row_any b b A0 n0 k0 f0 (by omega) n1 10 (by omega) (by omega) (by omega) (by omega) at1 w3 HT6.out).mono ?_
      rintro e w4 ⟨L, AL, nl, cl, at2, rfl, hL, hown, h1a, h1b, T1, G4⟩
      clear x0 x1 x2
      have hcl := hown.cap
      have htk : ticks L ≤ 40 := by
        have := fair_ticks hL
        rw [hown.rdr.len] at this
        omega
      have HLP : Hid (∀ r ∈ L, -1 ≤ r.p ∧ r.p ≤ 1024) := Lib.hid fun r hr => by
        have h3 := hL r hr
        unfold Fair at h3
        omega
      have HRL := Lib.hid hown.rdr
      have hx := HBA.out
      have hy := HLW.out
      have hz := HG.out
      have HB4 : Hid (Below w.heap.size w w4) := Lib.hid (HB3.out.trans ⟨G4.os, G4.tape, G4.output, G4.size, fun q hq => G4.block q (Nat.lt_of_lt_of_le hq HB3.out.size) (fun e => by injection e with e; omega)⟩)
      have HBX4 := Lib.hid (HBX.out.keep (G4.block gq HBX.out.lt (fun e => by injection e with e; omega)) G4.size)
      have HCF : Hid (CfW w4 w4.heap.size A1 A2 n1 n2 P C) := Lib.hid ⟨(HPO.out.gb G4 (by omega)).rdb, (HCO.out.gb G4 (by omega)).rdb⟩
      have S1 := Lib.hid fun (I J : Int) (rt : Bool) W (hb : Below w4.heap.size w4 W) => lsame_row A1 A2 A3 AL n1 n2 n3 nl c1 c2 c3 cl P C L I J rt W (HCF.out.on hb) (HRL.out.on hb) (by omega) (by omega) hcl (by omega) (by omega) HPER.out HLP.out
      clear hown T1 G4 hL HPO HCO HT6 HBX HB3 hx hy hz HRL HCF HLP HPER HT0 HBB HSZ htk
      go_wp2_with fail
      go_loopw [5, 6] (fun s _ wx => ∃ a : Int, s = .int .i64 a ∧ -1 ≤ a ∧ a ≤ (nl : Int) + 1 ∧ Below w4.heap.size w4 wx) (fun s _ _ => ((nl : Int) + 1 - intOf s).toNat)
      case atStart => exact ⟨-1, rfl, by omega, by omega, Below.refl _ _⟩
      case round =>
        obtain ⟨a, rfl, ha1, ha2, hb⟩ := hrel
        have HKa := Lib.hid hb
        clear hb
        by_cases ha : a ≤ (nl : Int)
        · have had : decide (a ≤ (nl : Int)) = true := decide_eq_true ha
          go_wp2_with fail
          go_loopw [6] (fun s wx => ∃ z : Int, s = .int .i64 z ∧ -1 ≤ z ∧ z ≤ (nl : Int) + 1 ∧ Below w4.heap.size w4 wx) (fun s _ => ((nl : Int) + 1 - intOf s).toNat)
          case atStart => exact ⟨-1, rfl, by omega, by omega, HKa.out⟩
          case round =>
            obtain ⟨z, rfl, hz1, hz2, hb⟩ := hrel
            have HKz := Lib.hid hb
            clear hb
            by_cases hz : z ≤ (nl : Int)
            · have hzd : decide (z ≤ (nl : Int)) = true := decide_eq_true hz
              have hw1 : IntKind.i64.wrap (a + z) = a + z := IntWalk.i64_in _ (by omega)
              have hw2 : IntKind.i64.wrap (a + z + (k : Int)) = a + z + (k : Int) := IntWalk.i64_in _ (by omega)
              obtain ⟨x0, x1, x2⟩ := (HBX4.out.on HKz.out).three
              by_cases hr : (a + z + (k : Int)).tmod 3 = 0
              · have hr0 : ((a + z + (k : Int)).tmod 3 == 0) = true := by rw [hr]; rfl
                clear hr
                go_wp2_with fail
                refine (S1.out a z _ wr HKz.out).mono ?_
                rintro e w5 ⟨rfl, hb5⟩
                have HK5 := Lib.hid (HKz.out.trans (hb5.mono HKz.out.size))
                clear hb5 x0 x1 x2
                go_wp2_with fail
                go_roundw
                case rel => exact ⟨z + 1, by go_num, by omega, by omega, HK5.out⟩
                case measure => simp [intOf]; omega
              · have hr0 : ((a + z + (k : Int)).tmod 3 == 0) = false := beq_eq_false_iff_ne.2 hr
                clear x0 x1 x2
                go_wp2_with fail
                go_roundw
                case rel => exact ⟨z + 1, by go_num, by omega, by omega, HKz.out⟩
                case measure => simp [intOf]; omega
            · have hzd : decide (z ≤ (nl : Int)) = false := decide_eq_false hz
              go_wp2_with fail
              go_roundw
              case rel => exact ⟨a + 1, by go_num, by omega, by omega, HKz.out⟩
              case measure => simp [intOf]; omega
        · have had : decide (a ≤ (nl : Int)) = false := decide_eq_false ha
          have HB9 := Lib.hid (HB4.out.trans (HKa.out.mono HB4.out.size))
          go_wp2_with fail
          go_roundw
          case rel => exact ⟨k + 1, by omega, by go_num, HB9.out⟩
          case measure => simp [intOf]; omega
    · have hkmi : ¬ (k : Int) < (m : Int) := by omega
      have hmk := make_2
      obtain ⟨Z, hZ⟩ : ∃ Z, Z = madeCells #[.string ⟨#[]⟩, .int .i64 0, .int .i64 0, .bool false, .bool false, .slice none 0 0, .int .i64 0, .int .i64 0, .int .i64 0, .int .i64 0, .int .i64 0] 22 := ⟨_, rfl⟩
      have hZl : Z.toList = P10.flatMap pcl := by rw [hZ]; exact made_2
      rw [← hZ] at hmk
      clear hZ
      obtain ⟨W0, hW0⟩ : ∃ W0, W0 = wr.alloc (.cells #[.int .i64 0, .int .i64 (-5), .int .i64 1, .int .i64 1, .int .i64 0, .int .i64 3] 39) := ⟨_, rfl⟩
      have hs0 : W0.heap.size = wr.heap.size + 1 := by rw [hW0]; simp
      have hb0 : Below wr.heap.size wr W0 := by rw [hW0]; exact bl1 wr _
      have hrl : RdB zcl W0 W0.heap.size (some ⟨wr.heap.size, 0, none⟩) 3 Z10 := by rw [hW0]; exact ⟨rfl, rdV_new wr _ _ _ rfl⟩
      have hb1 := bl1 W0 (.cells Z 64)
      have hCf : CfW (W0.alloc (.cells Z 64)) (W0.alloc (.cells Z 64)).heap.size (some ⟨W0.heap.size, 0, none⟩) none 2 0 P10 [] := ⟨⟨rfl, rdV_new W0 Z 64 _ hZl⟩, ⟨rfl, RdV.nil⟩⟩
      have HSM := Lib.hid (lsame_below (some ⟨W0.heap.size, 0, none⟩) (some ⟨wr.heap.size, 0, none⟩) _ hCf (hrl.on hb1))
      have HB2 := Lib.hid (HB.out.trans ((hb0.trans (hb1.mono hb0.size)).mono HB.out.size))
      have hmk0 := hmk W0
      rw [hs0] at HSM hmk0
      rw [hW0] at HSM HB2 hmk0
      clear hb0 hrl hb1 hCf hZl hmk hs0 hW0
      go_wp2_with fail
      refine HSM.out.mono ?_
      rintro e w5 ⟨rfl, hb5⟩
      have HB5 := Lib.hid (HB2.out.trans (hb5.mono HB2.out.size))
      clear hb5 HSM hmk0
      go_wp2_with fail
      refine (known10_any w5).mono ?_
      rintro e w7 ⟨rfl, hb7⟩
      have HB7 := Lib.hid (HB5.out.trans (hb7.mono HB5.out.size))
      clear hb7
      go_wp2_with fail
      go_ret
      exact Ans.mk rfl HB7.out
end Go.Proofs.Ytoaocdmcjjohgaa.moveNumbers
