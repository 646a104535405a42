/- MoveAll: all that may be moved are told, each way, in order; none that may not (the walk; what package move answers is a premise). -/
import Derived.Test.YtoaocdmcjjohgaaLow8
import Derived.Test.YtoaocdmcjjohgaaCfg
import Derived.Test.YtoaocdmcjjohgaaLow7
import Derived.Test.YtoaocdmcjjohgaaLow6
namespace Go.Proofs.Ytoaocdmcjjohgaa.moveAll
open Go.ChangeShapes Go.WideShapes Go.ChangeAt Go.RowKit Tab
set_option linter.unusedSimpArgs false
set_option linter.unusedVariables false

/-- What is still to be told from one place on. -/
def restJ (D : Int → Int → Bool) (ps : List Int) (i j : Nat) : List Mo := allJ D ps i (ps.length - max j (i + 1)) (max j (i + 1)) ++ allI D ps (ps.length - (i + 1)) (i + 1)
def here (D : Int → Int → Bool) (ps : List Int) (i j : Nat) : List Mo := if mayZ D ps (i : Int) (j : Int) = true then [⟨i, j, false⟩, ⟨i, j, true⟩] else []
theorem restJ_start (D : Int → Int → Bool) {ps : List Int} {i : Nat} (h : i < ps.length) : allI D ps (ps.length - i) i = restJ D ps i 0 := by
  rw [allI_step D ps h]
  unfold restJ
  rw [Nat.max_eq_right (Nat.zero_le _)]
theorem restJ_end (D : Int → Int → Bool) {ps : List Int} {i : Nat} (h : i < ps.length) : restJ D ps i ps.length = allI D ps (ps.length - (i + 1)) (i + 1) := by
  unfold restJ
  rw [Nat.max_eq_left (show i + 1 ≤ ps.length from h), Nat.sub_self]
  rfl
theorem restJ_step (D : Int → Int → Bool) {ps : List Int} {i j : Nat} (h : j < ps.length) : restJ D ps i j = here D ps i j ++ restJ D ps i (j + 1) := by
  unfold restJ here
  by_cases hij : i < j
  · rw [mayZ_nat D hij h, Nat.max_eq_left (show i + 1 ≤ j from hij), Nat.max_eq_left (show i + 1 ≤ j + 1 by omega), allJ_step D ps i h, List.append_assoc]
    rfl
  · have h0 : mayZ D ps (i : Int) (j : Int) = false := by
      unfold mayZ
      rw [decide_eq_false (show ¬ (i : Int) < (j : Int) by omega)]
      simp
    rw [h0, if_neg (by decide), List.nil_append, Nat.max_eq_right (show j ≤ i + 1 by omega), Nat.max_eq_right (show j + 1 ≤ i + 1 by omega)]
theorem here_yes {D : Int → Int → Bool} {ps : List Int} {i j : Nat} (h : mayZ D ps (i : Int) (j : Int) = true) {t : Nat} (ht : t < 2) : (here D ps i j).drop t = ⟨i, j, decide (t = 1)⟩ :: (here D ps i j).drop (t + 1) := by
  unfold here
  rw [if_pos h]
  rcases (by omega : t = 0 ∨ t = 1) with rfl | rfl <;> rfl
theorem here_no {D : Int → Int → Bool} {ps : List Int} {i j : Nat} (h : mayZ D ps (i : Int) (j : Int) = false) (t : Nat) : (here D ps i j).drop t = [] := by
  unfold here
  rw [h]
  simp
theorem here_end (D : Int → Int → Bool) (ps : List Int) (i j : Nat) : (here D ps i j).drop 2 = [] := by
  unfold here
  split <;> rfl
set_option maxRecDepth 100000 in
set_option maxHeartbeats 8000000 in
theorem walk (H : MoveW) (A0 : Option Addr) (n0 k0 : Nat) (f0 : Nat → Int) (w : World) (r0 : RdC w w.heap.size A0 n0 fun j => .int .i64 (f0 j)) (hc0 : n0 ≤ k0) (b0 : k0 ≤ 140737488351232) :
    Calls Try.prog 6 #[.slice A0 n0 k0] w (Ans (.bool true) w) := by
  have HT0 := Lib.hid (tape_boxed A0 n0 k0 f0 w r0)
  have HBT := Lib.hid (bl1 w (.cells #[.slice A0 n0 k0, .int .i64 0] 26))
  clear r0
  go_enter Try.func6, Try.ntmps6
  go_upto_region 2 with fail
  obtain ⟨b, hbb⟩ : ∃ b, b = w.heap.size := ⟨_, rfl⟩
  rw [← hbb] at HT0 ⊢
  generalize w.alloc (.cells #[.slice A0 n0 k0, .int .i64 0] 26) = wA at HT0 HBT ⊢
  have HLW : Hid (w.heap.size ≤ b) := Lib.hid (by omega)
  clear hbb
  have HBA : Hid (b < wA.heap.size) := Lib.hid HT0.out.lt
  go_wp2_with fail
  refine (config_anyx b b A0 n0 k0 f0 (by omega) 0 wA HT0.out).mono ?_
  rintro e w2 ⟨A1, A2, A3, n1, n2, n3, c1, c2, c3, P, C, T3, at1, rfl, hCf, q1, q2, q3, q4, q5, hco, hTb, hTt, q6, q7, q8, T6, G6, hper, _, _, hPo, hCo, hd12⟩
  have hbl := bl1 w2 (.cells #[.slice A1 n1 c1, .slice A2 n2 c2, .slice A3 n3 c3] 31)
  have HPO := Lib.hid (hPo.below hbl)
  have HCO := Lib.hid (hCo.below hbl)
  have HT6 := Lib.hid (T6.below hbl T6.lt)
  have HBX := Lib.hid (box_vec w2 (.slice A1 n1 c1) (.slice A2 n2 c2) (.slice A3 n3 c3) 31)
  have HB3 : Hid (Below w.heap.size w (w2.alloc (.cells #[.slice A1 n1 c1, .slice A2 n2 c2, .slice A3 n3 c3] 31))) := Lib.hid (by
    have hx := HBA.out
    have hy := HLW.out
    have h2 : Below w.heap.size w w2 := HBT.out.trans ⟨G6.os, G6.tape, G6.output, G6.size, fun q hq => G6.block q (Nat.lt_of_lt_of_le hq HBT.out.size) (fun e => by injection e with e; omega)⟩
    exact h2.trans (hbl.mono h2.size))
  have HG : Hid (b < w2.heap.size) := Lib.hid (Nat.lt_of_lt_of_le HBA.out G6.size)
  clear hCf hTb hTt hco T6 G6 hper hPo hCo hd12 hbl HT0 HBT
  go_upto_region 3 with fail
  generalize w2.alloc (.cells #[.slice A1 n1 c1, .slice A2 n2 c2, .slice A3 n3 c3] 31) = w3 at HPO HCO HT6 HBX HB3 ⊢
  generalize w2.heap.size = gq at HBX HG ⊢
  obtain ⟨x0, x1, x2⟩ := HBX.out.three
  go_wp2_with fail
  refine (row_any b b A0 n0 k0 f0 (by omega) n1 12 (by omega) (by omega) (by omega) (by omega) at1 w3 HT6.out).mono ?_
  rintro e w4 ⟨L, AL, nl, cl, at2, rfl, hL, hown, h1a, h1b, T1, G4⟩
  clear x0 x1 x2
  have hcl := hown.cap
  have hprt : ∀ q ∈ L.map Rn.p, -1 ≤ q ∧ q ≤ 1024 := fun q hq => by
    obtain ⟨r, hr, rfl⟩ := List.mem_map.1 hq
    have h3 := hL r hr
    unfold Fair at h3
    omega
  have hrp := hown.rdr.rdp
  generalize L.map Rn.p = ps at hprt hrp
  have HPL := Lib.hid hrp.len
  have HRP := Lib.hid hrp
  have HPI := Lib.hid hprt
  have hx := HBA.out
  have hy := HLW.out
  have hz := HG.out
  have HB4 : Hid (Below w.heap.size w w4) := Lib.hid (HB3.out.trans ⟨G4.os, G4.tape, G4.output, G4.size, fun q hq => G4.block q (Nat.lt_of_lt_of_le hq HB3.out.size) (fun e => by injection e with e; omega)⟩)
  have hbx4 := HBX.out.keep (G4.block gq HBX.out.lt (fun e => by injection e with e; omega)) G4.size
  have HCF : Hid (CfW w4 w4.heap.size A1 A2 n1 n2 P C) := Lib.hid ⟨(HPO.out.gb G4 (by omega)).rdb, (HCO.out.gb G4 (by omega)).rdb⟩
  obtain ⟨x0, x1, x2⟩ := hbx4.three
  clear hown T1 G4 hL hprt hrp HPO HCO HT6 HBX HB3 hx hy hz hbx4
  go_wp2_with fail
  refine (rdepends_any A1 A2 A3 n1 n2 n3 c1 c2 c3 P C w4 HCF.out (by omega) (by omega)).mono ?_
  intro e w5 hm
  obtain ⟨A7, c7, rfl, hc7, hm7, hb7⟩ := hm.m
  generalize depF (P.map ptOf) (C.map chOf) = m at hm7
  clear hm x0 x1 x2 HCF
  have HM7 := Lib.hid hm7
  have HR5 := Lib.hid (HRP.out.on hb7)
  have HB5 := Lib.hid (HB4.out.trans (hb7.mono HB4.out.size))
  clear hm7 hb7 HRP HB4
  have CM := Lib.hid fun (I J : Int) (rt : Bool) W' (hb : Below w5.heap.size w5 W') => H.may AL A7 nl cl n1 c7 ps m I J rt W' (HR5.out.on hb) (HM7.out.on hb) hcl (by omega) (by omega) HPI.out
  have CA := Lib.hid (H.all AL A7 nl cl n1 c7 ps m w5 HR5.out HM7.out hcl (by omega) (by omega) HPI.out)
  have hR1 : (allF (depW n1 m) ps).length ≤ 2097152 := allF_le (by rw [HPL.out]; omega)
  generalize depW n1 m = D at CM CA hR1
  obtain ⟨R, hR⟩ : ∃ R, R = allF D ps := ⟨_, rfl⟩
  rw [← hR] at CA hR1
  have HR := Lib.hid hR
  clear hR HM7 HR5
  go_wp2_with fail
  refine CA.out.mono ?_
  rintro e w6 ⟨A4, c4, rfl, how, hb6⟩
  have HOW := Lib.hid how.rdb
  have HK6 := Lib.hid hb6
  obtain ⟨rl, hrl⟩ : ∃ rl, rl = R.length := ⟨_, rfl⟩
  rw [← hrl] at HOW hR1 ⊢
  have HRL := Lib.hid hrl
  clear how hb6 hrl CA
  go_wp2_with fail
  go_loopw [8, 9, 10, 12, 13, 31, 36, 41] (fun a _ _ _ _ s _ _ wr => ∃ (i k : Nat) (Q : List Mo), i ≤ nl ∧ s = .int .i64 i ∧ a = .int .i64 k ∧ Q.length = k ∧ Q ++ allI D ps (nl - i) i = R ∧ Below w6.heap.size w6 wr) (fun _ _ _ _ _ s _ _ _ => nl - (intOf s).toNat)
  case atStart => exact ⟨0, 0, [], by omega, rfl, rfl, rfl, by rw [HR.out, List.nil_append, ← HPL.out]; rfl, Below.refl _ _⟩
  case round =>
    obtain ⟨i, k, Q, hi, rfl, rfl, hQl, hQ, hb⟩ := hrel
    have HB := Lib.hid hb
    clear hb
    by_cases hin : i < nl
    · have hini : (i : Int) < (nl : Int) := by omega
      have hst := restJ_start D (ps := ps) (i := i) (by rw [HPL.out]; exact hin)
      rw [HPL.out] at hst
      rw [hst] at hQ
      have HQ := Lib.hid hQ
      clear hst hQ
      go_wp2_with fail
      go_loopw [8, 10, 12, 13, 36, 41] (fun a _ _ _ s _ wx => ∃ (j k : Nat) (Q : List Mo), j ≤ nl ∧ s = .int .i64 j ∧ a = .int .i64 k ∧ Q.length = k ∧ Q ++ restJ D ps i j = R ∧ Below w6.heap.size w6 wx) (fun _ _ _ _ s _ _ => nl - (intOf s).toNat)
      case atStart => exact ⟨0, k, Q, by omega, rfl, rfl, hQl, HQ.out, HB.out⟩
      case round =>
        obtain ⟨j, k, Q, hj, rfl, rfl, hQl, hQ, hb⟩ := hrel
        clear HQ HB
        have HB := Lib.hid hb
        clear hb
        by_cases hjn : j < nl
        · have hjni : (j : Int) < (nl : Int) := by omega
          rw [restJ_step D (ps := ps) (i := i) (j := j) (by rw [HPL.out]; exact hjn)] at hQ
          have HQ : Hid (Q ++ ((here D ps i j).drop 0 ++ restJ D ps i (j + 1)) = R) := Lib.hid hQ
          have hbl := bl1 wr (.cells #[.bool false, .bool true] 4)
          have hv2 : Vec (wr.alloc (.cells #[.bool false, .bool true] 4)) wr.heap.size 2 (fun q => .bool (decide (q = 1))) := Vec.lit wr _ _ 2 _ fun q hq => by
            rcases (by omega : q = 0 ∨ q = 1) with rfl | rfl <;> rfl
          have HV2 := Lib.hid hv2
          have HB1 := Lib.hid (HB.out.trans (hbl.mono HB.out.size))
          clear hQ hbl hv2 HB
          go_wp2_with fail
          generalize wr.alloc (.cells #[.bool false, .bool true] 4) = W1 at HB1 HV2 ⊢
          generalize wr.heap.size = g2 at HV2 ⊢
          go_loopw [8, 12, 13, 41] (fun a _ _ s wx => ∃ (t k : Nat) (Q : List Mo), t ≤ 2 ∧ s = .int .i64 t ∧ a = .int .i64 k ∧ Q.length = k ∧ Q ++ ((here D ps i j).drop t ++ restJ D ps i (j + 1)) = R ∧ Below W1.heap.size W1 wx) (fun _ _ _ s _ => 2 - (intOf s).toNat)
          case atStart => exact ⟨0, k, Q, by omega, rfl, rfl, hQl, HQ.out, Below.refl _ _⟩
          case round =>
            obtain ⟨t, k, Q, ht, rfl, rfl, hQl, hQ, hb⟩ := hrel
            clear HQ
            have HB := Lib.hid hb
            have HQ := Lib.hid hQ
            clear hb hQ
            by_cases ht2 : t < 2
            · have ht2i : (t : Int) < 2 := by omega
              have y0 := (HV2.out.on HB.out).cell t ht2
              obtain ⟨rt, hrt⟩ : ∃ rt, rt = decide (t = 1) := ⟨_, rfl⟩
              rw [← hrt] at y0
              have HRT := Lib.hid hrt
              clear hrt
              have hbl := bl1 wr (.cells #[.int .i64 (i : Int), .int .i64 (j : Int), .bool rt] 37)
              have hv3 : Vec (wr.alloc (.cells #[.int .i64 (i : Int), .int .i64 (j : Int), .bool rt] 37)) wr.heap.size 3 (fun q => if q = 0 then .int .i64 (i : Int) else if q = 1 then .int .i64 (j : Int) else .bool rt) := Vec.lit wr _ _ 3 _ fun q hq => by
                rcases (by omega : q = 0 ∨ q = 1 ∨ q = 2) with rfl | rfl | rfl <;> rfl
              have HBm := Lib.hid (HB.out.trans (hbl.mono HB.out.size))
              have HV3 := Lib.hid hv3
              clear hbl hv3 HB
              go_upto_region 17 with fail
              generalize wr.alloc (.cells #[.int .i64 (i : Int), .int .i64 (j : Int), .bool rt] 37) = W2 at HBm HV3 ⊢
              generalize wr.heap.size = gm at HV3 ⊢
              clear y0
              obtain ⟨e0, e1, e2⟩ := HV3.out.three
              have hk6 : Below w6.heap.size w6 W2 := HB1.out.trans (HBm.out.mono HB1.out.size)
              have HMA := Lib.hid (CM.out (i : Int) (j : Int) rt W2 (HK6.out.trans (hk6.mono HK6.out.size)))
              clear hk6
              go_wp2_with fail
              refine HMA.out.mono ?_
              rintro e w7 ⟨rfl, hb7⟩
              clear e0 e1 e2 HMA
              have HB7 := Lib.hid hb7
              clear hb7
              by_cases hmz : mayZ D ps (i : Int) (j : Int) = true
              · rw [hmz]
                have hQ := HQ.out
                rw [here_yes hmz ht2, ← HRT.out] at hQ
                have HQ2 : Hid ((Q ++ [⟨i, j, rt⟩]) ++ ((here D ps i j).drop (t + 1) ++ restJ D ps i (j + 1)) = R) := Lib.hid (by rw [← hQ]; simp)
                have hxk : R[k]? = some ⟨i, j, rt⟩ := by
                  rw [← hQ, ← hQl]
                  simp
                have hkl : k < rl := by
                  rw [HRL.out]
                  exact (List.getElem?_eq_some_iff.1 hxk).1
                have hklZ : decide ((rl : Int) ≤ (k : Int)) = false := decide_eq_false (by omega)
                have hk7 : Below w6.heap.size w6 w7 := HB1.out.trans ((HBm.out.trans (HB7.out.mono HBm.out.size)).mono HB1.out.size)
                obtain ⟨am, x, rfl, ham, hx, d0, dk⟩ := (HOW.out.on hk7).at_ mcl_len (by omega) hkl
                rw [hxk] at hx
                injection hx with hx
                subst hx
                have e0 := d0 _ rfl
                have e1 := dk 1 _ (by omega) rfl
                have e2 := dk 2 _ (by omega) rfl
                dsimp only at e0 e1 e2
                obtain ⟨z0, z1, z2⟩ := (HV3.out.on HB7.out).three
                have hw1 : IntKind.i64.wrap ((k : Int) + 1) = (k : Int) + 1 := IntWalk.i64_in _ (by omega)
                clear d0 dk hQ hxk HQ
                go_upto_region 18 with fail
                go_quiet (fail)
                go_wp2_with fail
                go_roundw
                case rel => exact ⟨t + 1, k + 1, Q ++ [⟨i, j, rt⟩], by omega, by go_num, by go_num, by rw [List.length_append, hQl]; rfl, HQ2.out, Below.drewN (HBm.out.trans (HB7.out.mono HBm.out.size)) nq⟩
                case measure => simp [intOf]; omega
              · have hmz : mayZ D ps (i : Int) (j : Int) = false := by simpa using hmz
                rw [hmz]
                go_wp2_with fail
                go_roundw
                case rel => exact ⟨t + 1, k, Q, by omega, by go_num, rfl, hQl, by rw [here_no hmz]; have := HQ.out; rw [here_no hmz] at this; exact this, HBm.out.trans (HB7.out.mono HBm.out.size)⟩
                case measure => simp [intOf]; omega
            · have ht2i : ¬ (t : Int) < 2 := by omega
              have ht3 : t = 2 := by omega
              subst ht3
              have hQ := HQ.out
              rw [here_end, List.nil_append] at hQ
              have HQ := Lib.hid hQ
              clear hQ
              go_wp2_with fail
              go_roundw
              case rel => exact ⟨j + 1, k, Q, by omega, by go_num, rfl, hQl, HQ.out, HB1.out.trans (HB.out.mono HB1.out.size)⟩
              case measure => simp [intOf]; omega
        · have hjni : ¬ (j : Int) < (nl : Int) := by omega
          have hje : j = nl := by omega
          subst hje
          have hre := restJ_end D (ps := ps) (i := i) (by rw [HPL.out]; exact hin)
          rw [HPL.out] at hre
          rw [hre] at hQ
          have HQ := Lib.hid hQ
          clear hQ hre
          go_wp2_with fail
          go_roundw
          case rel => exact ⟨i + 1, k, Q, by omega, by go_num, rfl, hQl, HQ.out, HB.out⟩
          case measure => simp [intOf]; omega
    · have hini : ¬ (i : Int) < (nl : Int) := by omega
      have hie : i = nl := by omega
      subst hie
      rw [Nat.sub_self] at hQ
      have hkr : k = rl := by
        rw [HRL.out, ← hQ, ← hQl]
        simp [allI]
      subst hkr
      have k5 := HK6.out.trans (HB.out.mono HK6.out.size)
      have HKW := Lib.hid (HB5.out.trans (k5.mono HB5.out.size))
      clear k5 hQ HRL
      go_wp2_with fail
      refine (H.known wr).mono ?_
      rintro e w7 ⟨rfl, hb7⟩
      go_wp2_with fail
      go_ret
      exact Ans.mk rfl (HKW.out.trans (hb7.mono HKW.out.size))
end Go.Proofs.Ytoaocdmcjjohgaa.moveAll
