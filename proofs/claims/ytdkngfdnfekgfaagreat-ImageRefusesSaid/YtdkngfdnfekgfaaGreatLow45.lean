import Derived.Test.YtdkngfdnfekgfaaGreatLow43
import Derived.Test.YtdkngfdnfekgfaaGreatLow44
namespace Go.Proofs.YtdkngfdnfekgfaaGreat
set_option maxRecDepth 100000
open Go.RowKit Tab
set_option linter.unusedSimpArgs false
set_option linter.unusedVariables false
section
variable {σ : Type} {R : Rdr σ} {emb : List UInt8 → σ}
theorem confG_encT (g : R.Good emb) {K : CfK} (h : KIn K) (t : List UInt8) : confG R (emb (confE K ++ t)) = (K, emb t) := by
  have e0 : confE K ++ t = Num.enc K.P.length ++ (K.P.flatMap partE ++ (Num.enc K.C.length ++ (K.C.flatMap chanE ++ (Num.enc K.T.length ++ (K.T.flatMap tabE ++ t))))) := by
    unfold confE
    simp only [List.append_assoc]
  have e1 : partsG R (emb (confE K ++ t)) = (K.P, emb (Num.enc K.C.length ++ (K.C.flatMap chanE ++ (Num.enc K.T.length ++ (K.T.flatMap tabE ++ t))))) := by
    rw [e0]
    unfold partsG
    rw [g.b _ (lo := 0) (hi := 6) (by have := h.p; omega) (by omega) (by omega)]
    dsimp only
    rw [cntG_of h.p, rowG_enc _ emb partE K.P (fun k hk t => partG_enc g (h.pp k hk) t)]
  have e2 : chansG R (emb (Num.enc K.C.length ++ (K.C.flatMap chanE ++ (Num.enc K.T.length ++ (K.T.flatMap tabE ++ t))))) = (K.C, emb (Num.enc K.T.length ++ (K.T.flatMap tabE ++ t))) := by
    unfold chansG
    rw [g.b _ (lo := 0) (hi := 8) (by have := h.c; omega) (by omega) (by omega)]
    dsimp only
    rw [cntG_of h.c, rowG_enc _ emb chanE K.C (fun x hx t => chanG_enc g (h.cc x hx) t)]
  have e3 : tabsG R (emb (Num.enc K.T.length ++ (K.T.flatMap tabE ++ t))) = (K.T, emb t) := by
    unfold tabsG
    rw [g.b _ (lo := 0) (hi := 3) (by have := h.t; omega) (by omega) (by omega)]
    dsimp only
    rw [cntG_of h.t, rowG_enc (tabG R) emb tabE K.T (fun l hl t => tabG_enc g (h.tt l hl) t) t]
  unfold confG
  rw [e1]
  dsimp only
  rw [e2]
  dsimp only
  rw [e3]
end
theorem seal_snoc {u v : List UInt8} {c : UInt8} (h : Crc.seal4 v = Crc.seal4 u ++ [c]) : ∃ d, v = u ++ [d] := by
  have hl := congrArg List.length h
  rw [List.length_append, Crc.seal4_length, Crc.seal4_length] at hl
  have hl : v.length = u.length + 1 := by simp at hl; omega
  have hs := Crc.sb_length (Crc.of u)
  unfold Crc.seal4 at h
  have e := congrArg (List.take (u.length + 1)) h
  rw [List.take_left' hl, List.append_assoc, List.take_append] at e
  match h2 : Crc.sb (Crc.of u) with
  | [] => rw [h2] at hs; cases hs
  | d :: r =>
    rw [h2] at e
    refine ⟨d, e.trans ?_⟩
    rw [List.take_of_length_le (by omega), show u.length + 1 - u.length = 1 from by omega]
    rfl
theorem Img.wax {l : List UInt8} {x : Cf} (h : Img l x) : l = Crc.seal4 (horaB ++ confE (coreX x)) := by rw [← h.is, bytesB_E h.len]
theorem img_longer {l : List UInt8} {x z : Cf} {c : UInt8} (h : Img l x) : ¬ Img (l ++ [c]) z := fun k => by
  obtain ⟨d, e⟩ := seal_snoc (u := horaB ++ confE (coreX x)) (v := horaB ++ confE (coreX z)) (c := c) (by rw [← k.wax, ← h.wax])
  have e3 : confE (coreX z) = confE (coreX x) ++ [d] := List.append_cancel_left (e.trans (List.append_assoc _ _ _))
  have h2 := confG_enc RP_good k.kin
  rw [e3, confG_encT RP_good h.kin [d]] at h2
  have := congrArg Prod.snd h2
  cases this
theorem longer_bad {l : List UInt8} {x y : Cf} {c : UInt8} {z : Int} (h : Img l x) (hr : RdOk (l ++ [c]) y z) : (z != 0) = true := by
  cases ho : Crc.ook (l ++ [c]) with
  | true => rw [(hr.bad ho fun q hq => img_longer h hq).1]; rfl
  | false => rw [(hr.no ho).1]; rfl
theorem turn_bad {l : List UInt8} {x y : Cf} {k : Nat} {b v : UInt8} {z : Int} (h : Img l x) (hb : l[k]? = some b) (hv : v ≠ b) (hr : RdOk (l.set k v) y z) : z = 13 := by
  have e := h.wax
  rw [e] at hb hr
  exact (hr.no (ook_turn _ k b v hb hv)).1
theorem img_nine {l : List UInt8} {x : Cf} (h : Img l x) : 9 ≤ l.length := by
  rw [h.wax, Crc.seal4_length, List.length_append]
  have h1 : 1 ≤ (confE (coreX x)).length := by
    unfold confE
    rw [List.length_append, Num.enc_length]
    omega
  have h2 : horaB.length = 4 := rfl
  omega
theorem img_of {w : World} {y : Cf} (h : CfR w y) (hz : (whF y).1 = 0) (hm : ∀ x ∈ y.C, 0 ≤ x.max ∧ x.max ≤ 4294967295) : Img (imB y) y := ⟨RiX.of hz, LenX.of h, hm, NbX.of h, by unfold imB; rw [if_pos hz]⟩
theorem turnedI (b : UInt8) (q : Nat) (hq : q < 8) : ∃ y : UInt8, bits .xor .u8 (b.toNat : Int) ((2 : Int) ^ q % 256) = (y.toNat : Int) ∧ y ≠ b := by
  have h : ∃ d : UInt8, ((2 : Int) ^ q % 256) = (d.toNat : Int) ∧ d ≠ 0 := by
    match q, hq with
    | 0, _ => exact ⟨1, by decide, by decide⟩
    | 1, _ => exact ⟨2, by decide, by decide⟩
    | 2, _ => exact ⟨4, by decide, by decide⟩
    | 3, _ => exact ⟨8, by decide, by decide⟩
    | 4, _ => exact ⟨16, by decide, by decide⟩
    | 5, _ => exact ⟨32, by decide, by decide⟩
    | 6, _ => exact ⟨64, by decide, by decide⟩
    | 7, _ => exact ⟨128, by decide, by decide⟩
  obtain ⟨d, hd, hne⟩ := h
  exact ⟨b ^^^ d, by rw [hd, bx8], xor_ne b d hne⟩
theorem within_row (n : Int) (m : Nat) (w : World) (hm : 1 ≤ m) (hm2 : m ≤ 140737488351232) : Calls Tryz.prog 15 #[.int .i64 n, .int .i64 0, .int .i64 ((m : Int) - 1)] w (fun e w' => ∃ k : Nat, k < m ∧ e = .returned (.int .i64 k) ∧ w = w') := by
  have h := within_any n (m - 1) w (by omega)
  rw [show ((m - 1 : Nat) : Int) = (m : Int) - 1 from by omega] at h
  exact h.mono fun e w' ⟨k, h1, h2, h3⟩ => ⟨k, by omega, h2, h3⟩
set_option maxHeartbeats 2000000 in
theorem refuses_walk (A : Option Addr) (n cap : Nat) (f : Nat → Int) (a1 a2 : Int) (w : World) (hA : RdC w w.heap.size A n fun j => .int .i64 (f j)) (hn : n ≤ 140737488351232) :
    Calls Tryz.prog 5 #[.slice A n cap, .int .i64 a1, .int .i64 a2] w (Ans (.bool true) w) := by
  obtain ⟨q, hq, hbit⟩ := low3 a2
  have HKN := Lib.hid fun V => known14_any V
  have HCF := Lib.hid (tape_rightx A n cap f w hA hn)
  clear hA hn
  go_enter Tryz.func5, Tryz.ntmps5
  go_wp2_with fail
  refine HCF.out.mono ?_
  rintro e w1 ⟨⟨A1, A2, A3, n1, n2, n3, c1, c2, c3, P, C, T⟩, rfl, hyR, hyS, hyz, _, _, hmx, hb1⟩
  have hbx := bl1 w1 (.cells #[.slice A1 n1 c1, .slice A2 n2 c2, .slice A3 n3 c3] 26)
  have HBX := Lib.hid (box_vec w1 (.slice A1 n1 c1) (.slice A2 n2 c2) (.slice A3 n3 c3) 26)
  have HIM := Lib.hid (img_of hyR hyz hmx)
  have HYR := Lib.hid (hyR.on hbx)
  have HB1 := Lib.hid (hb1.trans (hbx.mono hb1.size))
  have HYZ := Lib.hid hyz
  dsimp only [cfv]
  clear hyR hyS hyz hmx hb1 hbx HCF
  go_upto_region 2 with fail
  generalize w1.alloc (.cells #[.slice A1 n1 c1, .slice A2 n2 c2, .slice A3 n3 c3] 26) = W0 at HBX HYR HB1 ⊢
  generalize w1.heap.size = gb at HBX ⊢
  have HBY := Lib.hid (ibytes_any _ W0 HYR.out)
  rw [HYZ.out] at HBY
  have HFW := Lib.hid (img_few HIM.out)
  have HNI := Lib.hid (img_nine HIM.out)
  generalize imB ⟨A1, A2, A3, n1, n2, n3, c1, c2, c3, P, C, T⟩ = bb at HIM HBY HFW HNI
  dsimp only [cfv] at HBY
  obtain ⟨m0, m1, m2⟩ := HBX.out.three
  go_upto_region 3 with (go_at_call 17; refine HBY.out.mono ?_; rintro e w2 ⟨B, m, c, rfl, ho, hb⟩)
  have hfw := HFW.out
  have hni := HNI.out
  have hln := ho.len
  rw [hln] at hfw hni
  have HO := Lib.hid ho
  have HB2 := Lib.hid hb
  clear m0 m1 m2 ho hb hln HBY HYZ HFW HNI
  go_upto_region 4 with (go_at_call 18; refine ((iread_any B m c bb w2 HO.out.rd (by omega) HO.out.cap).mono fun _ _ h => h.out).mono ?_; rintro e w3 ⟨D1, D2, D3, m1, m2, m3, d1, d2, d3, P', C', T', z, rfl, hok, hcf, hb⟩; obtain ⟨rfl, hsm⟩ := hok.yes _ HIM.out)
  have hb3 := bl1 w3 (.cells #[.slice D1 m1 d1, .slice D2 m2 d2, .slice D3 m3 d3] 26)
  have HXD := Lib.hid (box_vec w3 (.slice D1 m1 d1) (.slice D2 m2 d2) (.slice D3 m3 d3) 26)
  have HBD := Lib.hid (HB2.out.trans ((hb.trans (hb3.mono hb.size)).mono HB2.out.size))
  have HO3 := Lib.hid (HO.out.below rfl (hb.trans (hb3.mono hb.size)))
  have HCD := Lib.hid (hcf.on hb3)
  have HSS := Lib.hid hsm
  generalize w3.alloc (.cells #[.slice D1 m1 d1, .slice D2 m2 d2, .slice D3 m3 d3] 26) = W3 at HXD HBD HCD HO3 ⊢
  generalize w3.heap.size = gd at HXD ⊢
  clear hb3 hb hok hcf hsm HO w3 HB2 w2
  have HSM : Hid (Calls Tryz.prog 19 #[.agg #[.slice A1 n1 c1, .slice A2 n2 c2, .slice A3 n3 c3], .agg #[.slice D1 m1 d1, .slice D2 m2 d2, .slice D3 m3 d3]] W3 (Ans (.bool true) W3)) := Lib.hid (by
    have h := (HYR.out.on HBD.out).rsame HCD.out
    rw [sameF_yes HSS.out.symm] at h
    exact h)
  obtain ⟨f0, f1, f2⟩ := (HBX.out.on HBD.out).three
  obtain ⟨h0, h1, h2⟩ := HXD.out.three
  have hni2 : ¬ (m : Int) < 9 := by omega
  go_upto_region 6 with (go_at_call 19; refine HSM.out.mono ?_; rintro e w4 ⟨rfl, hb4⟩)
  have HB4 := Lib.hid (HB1.out.trans ((HBD.out.trans (hb4.mono HBD.out.size)).mono HB1.out.size))
  have HO4 := Lib.hid (HO3.out.below rfl (hb4.mono (Nat.le_refl _)))
  clear f0 f1 f2 h0 h1 h2 HSM HXD HCD HSS HBX HYR HB1 hb4 HBD
  go_upto_region 7 with (go_at_call 15; refine (within_row a1 m w4 (by omega) (by omega)).mono ?_; rintro e w5 ⟨k, hk, rfl, rfl⟩)
  go_upto_region 8 with (at_builtin; refine wpList_app rfl (.tmp 54) (.tmp 55) rfl rfl w4.heap.size (some ⟨w4.heap.size, 0, none⟩) 0 0 [] rfl (own_lit w4 w4.heap.size [] #[] rfl (Nat.le_refl _) (by decide)) B m c bb w4.heap.size rfl (HO4.out.rd.alloc (Nat.le_refl _) _) m (Nat.zero_add _) bb (List.nil_append _) (by omega) (by simp) ?_; intro A5 c5 w5 ho5 hb5)
  replace hb5 := ((Below.refl w4.heap.size w4).alloc (Nat.le_refl _) (.cells #[] 5)).trans hb5
  obtain ⟨g, rfl, hg⟩ := ho5.at_ (by omega)
  obtain ⟨b, hb⟩ : ∃ b, bb[k]? = some b := ⟨_, List.getElem?_eq_getElem (by have := ho5.len; omega)⟩
  have hcell := ho5.cell hb
  have hfree := ho5.free k
  have hk2 : (k : Int) < (m : Int) := by omega
  go_upto_region 9 with fail
  obtain ⟨y, hy, hne⟩ := turnedI b q hq
  rw [hy]
  have ho6 := ho5.store k y
  have hb6 := hb5.setCell (p := ⟨g, k, none⟩) hg (.int .u8 (y.toNat : Int))
  clear hcell hfree hy
  have HTB := Lib.hid fun (x : Cf) (z : Int) (hr : RdOk (bb.set k y) x z) => turn_bad HIM.out hb hne hr
  generalize w5.setCell ⟨g, k, none⟩ (.int .u8 (y.toNat : Int)) = w6 at ho6 hb6 ⊢
  have HO6 := Lib.hid ho6
  have HB6 := Lib.hid hb6
  have HB7 := Lib.hid (HB4.out.trans (hb6.mono HB4.out.size))
  have HO7 := Lib.hid (HO4.out.below rfl hb6)
  clear ho5 hb5 hb hne hbit hq ho6 hb6 hg hk2
  go_upto_region 10 with (go_at_call 18; refine ((iread_any (some ⟨g, 0, none⟩) m c5 _ w6 HO6.out.rd (by omega) HO6.out.cap).mono fun _ _ h => h.out).mono ?_; rintro e w7 ⟨E1, E2, E3, x1, x2, x3, y1, y2, y3, P', C', T', z, rfl, hok, hcf, hb7⟩; obtain rfl := HTB.out _ _ hok)
  have hb3 := bl1 w7 (.cells #[.slice E1 x1 y1, .slice E2 x2 y2, .slice E3 x3 y3] 26)
  have hb8 := hb7.trans (hb3.mono hb7.size)
  have HB8 := Lib.hid (HB7.out.trans (hb8.mono HB7.out.size))
  have HO8 := Lib.hid (HO7.out.below rfl (hb8.mono (Nat.le_refl _)))
  generalize w7.alloc (.cells #[.slice E1 x1 y1, .slice E2 x2 y2, .slice E3 x3 y3] 26) = W7 at HB8 HO8 ⊢
  generalize w7.heap.size = ge
  clear hb3 hb7 hb8 hok hcf HO6 HB6 HB7 HO7 HTB w7
  go_upto_region 11 with (first
    | (at_builtin; refine wpList_app rfl (.tmp 73) (.tmp 74) rfl rfl W7.heap.size (some ⟨W7.heap.size, 0, none⟩) 0 0 [] rfl (own_lit W7 W7.heap.size [] #[] rfl (Nat.le_refl _) (by decide)) B m c bb W7.heap.size rfl (HO8.out.rd.alloc (Nat.le_refl _) _) m (Nat.zero_add _) bb (List.nil_append _) (by omega) (by simp) ?_; intro A8 c8 w8 ho8 hb8)
    | (at_builtin; refine wpList_app rfl (.tmp 75) (.tmp 76) rfl rfl W7.heap.size A8 m c8 bb rfl (ho8.below rfl ((Below.refl _ _).alloc (Nat.le_refl _) _)) (some ⟨w8.heap.size, 0, none⟩) 1 1 [1] _ rfl (own_lit w8 W7.heap.size [1] #[.int .u8 1] rfl (by have := hb8.size; simp at this; omega) (by decide)).rd (m + 1) rfl (bb ++ [1]) rfl (by omega) (by have := hb8.size; simp at this ⊢; omega) ?_; intro A9 c9 w9 ho9 hb9)
    | (go_at_call 18; refine ((iread_any A9 (m + 1) c9 _ w9 ho9.rd (by omega) ho9.cap).mono fun _ _ h => h.out).mono ?_; rintro e w10 ⟨F1, F2, F3, u1, u2, u3, v1, v2, v3, P', C', T', z, rfl, hok, hcf, hb10⟩; have hzi := longer_bad HIM.out hok))
  have hb3 := bl1 w10 (.cells #[.slice F1 u1 v1, .slice F2 u2 v2, .slice F3 u3 v3] 26)
  have hbw := ((Below.refl W7.heap.size W7).alloc (Nat.le_refl _) (.cells #[] 5)).trans (hb8.trans (((Below.refl W7.heap.size w8).alloc (by have := hb8.size; simp at this; omega) (.cells #[.int .u8 1] 5)).trans hb9))
  have HB10 := Lib.hid (HB8.out.trans ((hbw.trans ((hb10.trans (hb3.mono hb10.size)).mono hbw.size)).mono HB8.out.size))
  generalize w10.alloc (.cells #[.slice F1 u1 v1, .slice F2 u2 v2, .slice F3 u3 v3] 26) = W9 at HB10 ⊢
  generalize w10.heap.size = gf
  clear hb3 hbw hb10 hb9 hb8 hok hcf ho8 ho9
  go_wp2_with (go_at_call 14; refine (HKN.out W9).mono ?_; rintro e w11 ⟨rfl, hb11⟩)
  go_ret
  exact Ans.mk rfl (HB10.out.trans (hb11.mono HB10.out.size))
end Go.Proofs.YtdkngfdnfekgfaaGreat
