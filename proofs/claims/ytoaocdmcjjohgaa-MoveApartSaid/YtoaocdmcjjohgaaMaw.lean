/- MoveApart: with all that depend nothing moves across another one; idle time alone does (the walk; what package move answers is a premise). -/
import Derived.Test.YtoaocdmcjjohgaaLow8
namespace Go.Proofs.Ytoaocdmcjjohgaa.moveApart
open Go.ChangeShapes Go.WideShapes Go.ChangeAt Go.RowKit Tab
set_option linter.unusedSimpArgs false
set_option linter.unusedVariables false

def W3 (w : World) : World := (((w.alloc (.cells #[.bool true, .bool true, .bool true] 4)).alloc (.cells #[.bool true, .bool true, .bool true] 4)).alloc (.cells #[.bool true, .bool true, .bool true] 4)).alloc (.cells #[.slice (some ⟨w.heap.size, 0, none⟩) 3 3, .slice (some ⟨w.heap.size + 1, 0, none⟩) 3 3, .slice (some ⟨w.heap.size + 1 + 1, 0, none⟩) 3 3] 58)
theorem mat3 (w : World) : RdM (W3 w) (W3 w).heap.size (some ⟨w.heap.size + 1 + 1 + 1, 0, none⟩) 3 (fun _ => 3) (fun _ _ => true) ∧ Below w.heap.size w (W3 w) := by
  have hv : ∀ w : World, Vec (w.alloc (.cells #[.bool true, .bool true, .bool true] 4)) w.heap.size 3 fun _ => .bool true := fun w => Vec.lit w _ _ 3 _ fun j hj => by
    rcases (by omega : j = 0 ∨ j = 1 ∨ j = 2) with rfl | rfl | rfl <;> rfl
  have s1 : (w.alloc (.cells #[.bool true, .bool true, .bool true] 4)).heap.size = w.heap.size + 1 := by simp
  have s2 : ((w.alloc (.cells #[.bool true, .bool true, .bool true] 4)).alloc (.cells #[.bool true, .bool true, .bool true] 4)).heap.size = w.heap.size + 1 + 1 := by simp
  have s3 : (((w.alloc (.cells #[.bool true, .bool true, .bool true] 4)).alloc (.cells #[.bool true, .bool true, .bool true] 4)).alloc (.cells #[.bool true, .bool true, .bool true] 4)).heap.size = w.heap.size + 1 + 1 + 1 := by simp
  have v0 := hv w
  have v1 := hv (w.alloc (.cells #[.bool true, .bool true, .bool true] 4))
  have v2 := hv ((w.alloc (.cells #[.bool true, .bool true, .bool true] 4)).alloc (.cells #[.bool true, .bool true, .bool true] 4))
  rw [s1] at v1
  rw [s2] at v2
  have v3 := Vec.lit (((w.alloc (.cells #[.bool true, .bool true, .bool true] 4)).alloc (.cells #[.bool true, .bool true, .bool true] 4)).alloc (.cells #[.bool true, .bool true, .bool true] 4)) #[.slice (some ⟨w.heap.size, 0, none⟩) 3 3, .slice (some ⟨w.heap.size + 1, 0, none⟩) 3 3, .slice (some ⟨w.heap.size + 1 + 1, 0, none⟩) 3 3] 58 3 (fun j => .slice (some ⟨if j = 0 then w.heap.size else if j = 1 then w.heap.size + 1 else w.heap.size + 1 + 1, 0, none⟩) 3 3) fun j hj => by
    rcases (by omega : j = 0 ∨ j = 1 ∨ j = 2) with rfl | rfl | rfl <;> rfl
  rw [s3] at v3
  have b1 := bl1 w (.cells #[.bool true, .bool true, .bool true] 4)
  have b2 := bl1 (w.alloc (.cells #[.bool true, .bool true, .bool true] 4)) (.cells #[.bool true, .bool true, .bool true] 4)
  have b3 := bl1 ((w.alloc (.cells #[.bool true, .bool true, .bool true] 4)).alloc (.cells #[.bool true, .bool true, .bool true] 4)) (.cells #[.bool true, .bool true, .bool true] 4)
  have b4 := bl1 (((w.alloc (.cells #[.bool true, .bool true, .bool true] 4)).alloc (.cells #[.bool true, .bool true, .bool true] 4)).alloc (.cells #[.bool true, .bool true, .bool true] 4)) (.cells #[.slice (some ⟨w.heap.size, 0, none⟩) 3 3, .slice (some ⟨w.heap.size + 1, 0, none⟩) 3 3, .slice (some ⟨w.heap.size + 1 + 1, 0, none⟩) 3 3] 58)
  have hb : Below w.heap.size w (W3 w) := by
    have h12 := b1.trans (b2.mono b1.size)
    have h123 := h12.trans (b3.mono h12.size)
    exact h123.trans (b4.mono h123.size)
  refine ⟨⟨fun j => (some ⟨if j = 0 then w.heap.size else if j = 1 then w.heap.size + 1 else w.heap.size + 1 + 1, 0, none⟩, 3), v3.rdc, fun i hi => ⟨Nat.le_refl _, ?_⟩⟩, hb⟩
  rcases (by omega : i = 0 ∨ i = 1 ∨ i = 2) with rfl | rfl | rfl
  · exact (((v0.on b2).on b3).on b4).rdc
  · exact ((v1.on b3).on b4).rdc
  · exact (v2.on b4).rdc
set_option maxRecDepth 100000 in
set_option maxHeartbeats 4000000 in
theorem walk (H : MoveW) (A0 : Option Addr) (n0 k0 : Nat) (f0 : Nat → Int) (w : World) (r0 : RdC w w.heap.size A0 n0 fun j => .int .i64 (f0 j)) (c0 : n0 ≤ k0) (b0 : k0 ≤ 140737488351232) :
    Calls Try.prog 7 #[.slice A0 n0 k0] w (Ans (.bool true) w) := by
  have R0 := Lib.hid r0
  clear r0
  go_enter Try.func7, Try.ntmps7
  go_wp2_with fail
  refine (row_box A0 n0 k0 f0 w 3 14 3 14 rfl rfl (by omega) (by omega) (by omega) (by omega) R0.out (by omega)).mono ?_
  rintro e w1 ⟨L, B1, m1, d1, rfl, hL, hr1, hd1, h1a, h1b, k1⟩
  have htk : ticks L ≤ 56 := by
    have := fair_ticks hL
    rw [hr1.len] at this
    omega
  have hlT := tidy_le L
  rw [hr1.len] at hlT
  have hT := rtidy_any B1 m1 d1 L w1 hr1 hd1 (by omega) (by omega)
  have hprt : ∀ q ∈ (tidy L).map Rn.p, -1 ≤ q ∧ q < 3 := fun q hq => by
    obtain ⟨r, hr, rfl⟩ := List.mem_map.1 hq
    obtain ⟨x, hx, e⟩ := tidy_part hr
    have h3 := hL x hx
    unfold Fair at h3
    omega
  unfold MadeR at hT
  generalize tidy L = Z at hlT hT hprt
  have HT := Lib.hid hT
  have HPR := Lib.hid hprt
  have HK1 := Lib.hid k1
  clear hT hprt hr1 hL R0 k1
  go_wp2_with fail
  refine HT.out.mono ?_
  rintro e w2 ⟨A2, c2, rfl, hr2, hc2, hb2, _⟩
  obtain ⟨n, hn⟩ : ∃ n, n = Z.length := ⟨_, rfl⟩
  rw [← hn] at hr2 hc2 hlT ⊢
  obtain ⟨ps, hps⟩ : ∃ ps, ps = Z.map Rn.p := ⟨_, rfl⟩
  have hrp := hr2.rdp
  rw [← hps] at hrp HPR
  have hpl : ps.length = n := hrp.len
  have hmat := mat3 w2
  have HK2 := Lib.hid (HK1.out.trans (hb2.mono HK1.out.size))
  have HM3 := Lib.hid hmat.1
  have HBM := Lib.hid hmat.2
  have HRP := Lib.hid hrp
  have HPL := Lib.hid hpl
  have HPI : Hid (∀ q ∈ ps, -1 ≤ q ∧ q ≤ 1024) := Lib.hid fun q hq => by have := HPR.out q hq; omega
  clear hn hr2 hb2 HT HK1 hps hrp hpl hmat
  go_upto_region 3 with fail
  rw [show ((((w2.alloc (.cells #[.bool true, .bool true, .bool true] 4)).alloc (.cells #[.bool true, .bool true, .bool true] 4)).alloc (.cells #[.bool true, .bool true, .bool true] 4)).alloc (.cells #[.slice (some ⟨w2.heap.size, 0, none⟩) 3 3, .slice (some ⟨w2.heap.size + 1, 0, none⟩) 3 3, .slice (some ⟨w2.heap.size + 1 + 1, 0, none⟩) 3 3] 58)) = W3 w2 from rfl]
  generalize W3 w2 = W at HM3 HBM ⊢
  generalize w2.heap.size + 1 + 1 + 1 = gm3 at HM3 ⊢
  have HRW := Lib.hid fun W' (hb : Below W.heap.size W W') => HRP.out.on (HBM.out.trans (hb.mono HBM.out.size))
  have HMW := Lib.hid fun W' (hb : Below W.heap.size W W') => HM3.out.on hb
  have HKW := Lib.hid (HK2.out.trans (HBM.out.mono HK2.out.size))
  have CA := Lib.hid fun W' (hb : Below W.heap.size W W') => H.all A2 (some ⟨gm3, 0, none⟩) n c2 3 3 ps (fun _ _ => true) W' (HRW.out W' hb) (HMW.out W' hb) hc2 (by omega) (by omega) HPI.out
  have CN := Lib.hid fun W' (hb : Below W.heap.size W W') => H.all A2 none n c2 0 0 ps (fun _ _ => false) W' (HRW.out W' hb) (RdM.none _ _ _ _) hc2 (by omega) (by omega) HPI.out
  have hal := all_len ps
  have hmem : ∀ x ∈ allF (depW 3 fun _ _ => true) ps, x.i < x.j ∧ x.j < n ∧ mayP (depW 3 fun _ _ => true) ps x.i x.j = true := fun x hx => by
    have := mem_allF hx
    rw [HPL.out] at this
    exact this
  have hR1 : (allF (depW 3 fun _ _ => true) ps).length ≤ 2097152 := allF_le (by rw [HPL.out]; omega)
  generalize allF (depW 3 fun _ _ => true) ps = R at CA hal hmem hR1
  generalize allF (depW 0 fun _ _ => false) ps = Q at CN hal
  have HMEM := Lib.hid hmem
  clear hmem HRP HM3 HBM HK2
  go_wp2_with fail
  refine (CA.out W (Below.refl _ _)).mono ?_
  rintro e w3 ⟨A4, c4, rfl, how, hb3⟩
  have HOW := Lib.hid how.rdb
  have HK3 := Lib.hid hb3
  obtain ⟨rl, hrl⟩ : ∃ rl, rl = R.length := ⟨_, rfl⟩
  rw [← hrl] at HOW hal hR1 ⊢
  have HRL := Lib.hid hrl
  clear how hb3 hrl
  go_wp2_with fail
  go_loopw [6, 8, 22, 51] (fun _ _ s _ wr => ∃ t : Nat, t ≤ rl ∧ s = .int .i64 t ∧ Below w3.heap.size w3 wr) (fun _ _ s _ _ => rl - (intOf s).toNat)
  case atStart => exact ⟨0, by omega, rfl, Below.refl _ _⟩
  case round =>
    obtain ⟨t, ht, rfl, hb⟩ := hrel
    have HB := Lib.hid hb
    clear hb
    by_cases htl : t < rl
    · have htli : (t : Int) < (rl : Int) := by omega
      obtain ⟨am, x, rfl, ham, hx, d0, dk⟩ := (HOW.out.on HB.out).at_ mcl_len (by omega) htl
      have e0 := d0 _ rfl
      have e1 := dk 1 _ (by omega) rfl
      have e2 := dk 2 _ (by omega) rfl
      obtain ⟨hij, hjn, hmy⟩ := HMEM.out x (List.mem_of_getElem? hx)
      obtain ⟨i, j, rt⟩ := x
      dsimp only at e0 e1 e2 hij hjn hmy
      have HMY := Lib.hid hmy
      have hbl := bl1 wr (.cells #[.int .i64 (i : Int), .int .i64 (j : Int), .bool rt] 37)
      have hv3 : Vec (wr.alloc (.cells #[.int .i64 (i : Int), .int .i64 (j : Int), .bool rt] 37)) wr.heap.size 3 (fun q => if q = 0 then .int .i64 (i : Int) else if q = 1 then .int .i64 (j : Int) else .bool rt) := Vec.lit wr _ _ 3 _ fun q hq => by
        rcases (by omega : q = 0 ∨ q = 1 ∨ q = 2) with rfl | rfl | rfl <;> rfl
      have HB1 := Lib.hid (HB.out.trans (hbl.mono HB.out.size))
      have HV3 := Lib.hid hv3
      clear d0 dk hx hmy hbl hv3 HB
      go_upto_region 6 with fail
      generalize wr.alloc (.cells #[.int .i64 (i : Int), .int .i64 (j : Int), .bool rt] 37) = W1 at HB1 HV3 ⊢
      generalize wr.heap.size = gm at HV3 ⊢
      clear e0 e1 e2 ham
      obtain ⟨f0, f1, f2⟩ := HV3.out.three
      have u0 : decide ((i : Int) < 0) = false := decide_eq_false (by omega)
      have u1 : decide ((j : Int) ≤ (i : Int)) = false := decide_eq_false (by omega)
      have u2 : decide ((n : Int) ≤ (j : Int)) = false := decide_eq_false (by omega)
      have hk3 := HK3.out.trans (HB1.out.mono HK3.out.size)
      have hrd := HRW.out W1 hk3
      obtain ⟨ad, p, zp, hA2, had, hp, cp0, cp1⟩ := hrd.at_ i (by omega)
      subst hA2
      obtain ⟨d, hd⟩ : ∃ d, j - (i + 1) = d := ⟨_, rfl⟩
      have hmid := hrd.mid (k := i + 1) (j := j) (by omega)
      rw [hd] at hmid
      have hap : ∀ q ∈ (ps.drop (i + 1)).take d, q ≠ p ∧ (p = -1 ∨ q = -1) := fun q hq => mid_apart HPR.out HMY.out hp (by rw [hd]; exact hq)
      have HMID := Lib.hid hmid
      have HAP := Lib.hid hap
      have hw1 : IntKind.i64.wrap ((i : Int) + 1) = (i : Int) + 1 := IntWalk.i64_in _ (by omega)
      have hij1 : (i : Int) + 1 ≤ (j : Int) := by omega
      have hjc : (j : Int) ≤ (c2 : Int) := by omega
      have hci : ¬ c2 = i + 1 := by omega
      have htn : ((i : Int) + 1).toNat = i + 1 := by omega
      have hini : (i : Int) < (n : Int) := by omega
      have hin : i < n := by omega
      have HPP := Lib.hid hrd
      clear hmid hap hrd cp1
      go_wp2_with fail
      clear f0 f1 f2 cp0 u0 u1 u2
      go_loopw [8, 51] (fun _ s wx => ∃ k : Nat, k ≤ d ∧ s = .int .i64 k ∧ Below W1.heap.size W1 wx) (fun _ s _ => d - (intOf s).toNat)
      case atStart => exact ⟨0, by omega, rfl, Below.refl _ _⟩
      case round =>
        obtain ⟨k, hk, rfl, hb⟩ := hrel
        have HBk := Lib.hid hb
        clear hb
        by_cases hkd : k < d
        · have hkdi : (k : Int) < (d : Int) := by omega
          obtain ⟨am2, q, z, ea, hab, hq, g0, g1⟩ := (HMID.out.on HBk.out).at_ k hkd
          injection ea with ea
          subst ea
          have hqq := HAP.out q (List.mem_of_getElem? hq)
          have hbl := bl1 wr (.cells #[.int .i64 q, .int .i64 z] 39)
          have HB2 := Lib.hid (HBk.out.trans (hbl.mono HBk.out.size))
          have y0 : (wr.alloc (.cells #[.int .i64 q, .int .i64 z] 39)).cell? ⟨wr.heap.size, 0, none⟩ = some (.int .i64 q) := World.cell?_alloc_mark _ _ _ _ _
          clear hq hbl HBk
          go_upto_region 11 with fail
          generalize wr.alloc (.cells #[.int .i64 q, .int .i64 z] 39) = W2 at y0 HB2 ⊢
          generalize wr.heap.size = gx at y0 ⊢
          clear g0 g1 hab
          obtain ⟨f0, f1, f2⟩ := (HV3.out.on HB2.out).three
          obtain ⟨ad9, p9, z9, e9, _, hp9, cp0, _⟩ := (HPP.out.on HB2.out).at_ i hin
          injection e9 with e9
          subst e9
          rw [hp] at hp9
          injection hp9 with hp9
          subst hp9
          have v2 : (q == p) = false := beq_eq_false_iff_ne.2 hqq.1
          by_cases hp1 : p = -1
          · have v0 : (p != -1) = false := by rw [hp1]; rfl
            clear hqq hp1
            go_quiet (fail)
            go_wp2_with fail
            go_roundw
            case rel => exact ⟨k + 1, by omega, by go_num, Below.drewN HB2.out nq⟩
            case measure => simp [intOf]; omega
          · have v0 : (p != -1) = true := bne_iff_ne.2 hp1
            have hq1 : q = -1 := hqq.2.resolve_left hp1
            have v1 : (q != -1) = false := by rw [hq1]; rfl
            clear hqq hp1 hq1
            go_quiet (fail)
            go_wp2_with fail
            go_roundw
            case rel => exact ⟨k + 1, by omega, by go_num, Below.drewN HB2.out nq⟩
            case measure => simp [intOf]; omega
        · have hkdi : ¬ (k : Int) < (d : Int) := by omega
          obtain ⟨f0, f1, f2⟩ := (HV3.out.on HBk.out).three
          have hk4 := HK3.out.trans ((HB1.out.trans (HBk.out.mono HB1.out.size)).mono HK3.out.size)
          have hma := H.may (some ad) none n c2 0 0 ps (fun _ _ => false) (i : Int) (j : Int) rt wr (HRW.out wr hk4) (RdM.none _ _ _ _) hc2 (by omega) (by omega) HPI.out
          rw [mayZ_nat _ hij (by rw [HPL.out]; exact hjn), mayP_mono (fun p q h => dep_none h) HMY.out] at hma
          have HMA := Lib.hid hma
          clear hma
          go_wp2_with fail
          refine HMA.out.mono ?_
          rintro e w6 ⟨rfl, hb6⟩
          have HB6 := Lib.hid ((HB1.out.trans (HBk.out.mono HB1.out.size)).trans (hb6.mono (HB1.out.trans (HBk.out.mono HB1.out.size)).size))
          clear hb6 HMA f0 f1 f2
          go_wp2_with fail
          go_roundw
          case rel => exact ⟨t + 1, by omega, by go_num, HB6.out⟩
          case measure => simp [intOf]; omega
    · have htli : ¬ (t : Int) < (rl : Int) := by omega
      have hk4 := HK3.out.trans (HB.out.mono HK3.out.size)
      have hle : decide ((rl : Int) ≤ (Q.length : Int)) = true := decide_eq_true (by omega)
      go_wp2_with fail
      refine (CA.out wr hk4).mono ?_
      rintro e w5 ⟨A5, c5, rfl, _, hb5⟩
      have k5 := hk4.trans (hb5.mono hk4.size)
      rw [← HRL.out]
      clear hb5 hk4
      go_wp2_with fail
      refine (CN.out w5 k5).mono ?_
      rintro e w6 ⟨A6, c6, rfl, _, hb6⟩
      have k6 := k5.trans (hb6.mono k5.size)
      clear hb6 k5
      go_wp2_with fail
      refine (H.known w6).mono ?_
      rintro e w7 ⟨rfl, hb7⟩
      have k7 := k6.trans (hb7.mono k6.size)
      go_wp2_with fail
      go_ret
      exact Ans.mk rfl (HKW.out.trans (k7.mono HKW.out.size))
end Go.Proofs.Ytoaocdmcjjohgaa.moveApart
