/- The document's own answer to who sways. -/
import Derived.Test.YtknlhhbkahollaaRdpd
import Derived.Test.YtknlhhbkahollaaGswa
namespace Go.Proofs.Ytknlhhbkahollaa
open Go.RowKit Tab
set_option linter.unusedSimpArgs false
set_option linter.unusedVariables false

def rulQ (P : List PtV) (x _y : Nat) : Bool := schedOf (P.map ptOf) x || stopOf (P.map ptOf) x
set_option maxRecDepth 100000 in
set_option maxHeartbeats 4000000 in
theorem rsways_any (A1 A2 A3 : Option Addr) (n1 n2 n3 c1 c2 c3 : Nat) (P : List PtV) (C : List ChV) (w : World) (h : CfW w w.heap.size A1 A2 n1 n2 P C) (q1 : n1 ≤ 1024) (q2 : n2 ≤ 1048576) :
    Calls Try.prog 25 #[.agg #[.slice A1 n1 c1, .slice A2 n2 c2, .slice A3 n3 c3]] w (MadG n1 (swayF (P.map ptOf) (C.map chOf)) w) := by
  have hlen : P.length = n1 := h.p.len
  have hbw := bl1 w (.cells #[.slice A1 n1 c1, .slice A2 n2 c2, .slice A3 n3 c3] 26)
  have hbox := box_vec w (.slice A1 n1 c1) (.slice A2 n2 c2) (.slice A3 n3 c3) 26
  have hCf := h.on hbw
  have hgsz : w.heap.size < (w.alloc (.cells #[.slice A1 n1 c1, .slice A2 n2 c2, .slice A3 n3 c3] 26)).heap.size := by simp
  have HB0 := Lib.hid hbw
  have HLEN := Lib.hid hlen
  clear h hbw hlen
  obtain ⟨m0, m1, m2⟩ := hbox.three
  go_enter Try.func25, Try.ntmps25
  go_upto_region 1 with fail
  generalize w.alloc (.cells #[.slice A1 n1 c1, .slice A2 n2 c2, .slice A3 n3 c3] 26) = W at HB0 hCf hbox m0 m1 m2 hgsz ⊢
  obtain ⟨gb, hgb⟩ : ∃ gb, gb = w.heap.size := ⟨_, rfl⟩
  rw [← hgb] at hbox m0 m1 m2 hgsz ⊢
  have HGB := Lib.hid hgb
  clear hgb
  go_wp2_with fail
  refine (rsquare_any n1 W q1).mono ?_
  rintro e w1 ⟨g, G, rfl, hM1, hb1⟩
  obtain ⟨B, hB⟩ : ∃ B, B = W.heap.size := ⟨_, rfl⟩
  rw [← hB] at hM1 hb1 hgsz
  have HB := Lib.hid hB
  have HCF := Lib.hid hCf
  have HBOX := Lib.hid hbox
  have HGS := Lib.hid hgsz
  have hM2 := Lib.hid (hM1.congr (m' := mQ (fun a b => decide (a = b)) (rulQ P) 0 0) fun a b _ _ => by rw [mQ_zero])
  have HB1 := Lib.hid hb1
  clear hB hCf hbox hM1 hb1 m0 m1 m2 hgsz
  go_wp2_with fail
  go_loopw [4, 5, 14, 19] (fun _ _ s _ wr => ∃ i : Nat, i ≤ n1 ∧ s = .int .i64 i ∧ Mat wr B g n1 n1 G (mQ (fun a b => decide (a = b)) (rulQ P) i 0) ∧ Below B W wr) (fun _ _ s _ _ => n1 - (intOf s).toNat)
  case atStart => exact ⟨0, by omega, rfl, hM2.out, HB1.out⟩
  case round =>
    obtain ⟨i, hi, rfl, hM, hb⟩ := hrel
    clear hM2 HB1
    by_cases hlt : i < n1
    · have hlti : (i : Int) < (n1 : Int) := by omega
      have HM := Lib.hid hM
      have HBB := Lib.hid hb
      clear hM hb
      go_wp2_with fail
      go_loopw [5, 19] (fun _ s wx => ∃ j : Nat, j ≤ n1 ∧ s = .int .i64 j ∧ Mat wx B g n1 n1 G (mQ (fun a b => decide (a = b)) (rulQ P) i j) ∧ Below B W wx) (fun _ s _ => n1 - (intOf s).toNat)
      case atStart => exact ⟨0, by omega, rfl, HM.out, HBB.out⟩
      case round =>
        obtain ⟨j, hj, rfl, hM, hb⟩ := hrel
        clear HM HBB
        by_cases hjn : j < n1
        · have hjni : (j : Int) < (n1 : Int) := by omega
          have hPw := (HCF.out.p.below (HB.out ▸ hb))
          obtain ⟨ad, u, rfl, had, hu, _, cku⟩ := hPw.at_ pcl_len (by omega) hlt
          obtain ⟨ad', v, e, _, hv, _, ckv⟩ := hPw.at_ pcl_len (by omega) hjn
          injection e with e
          subst e
          have d3 := cku 3 _ (by omega) rfl
          have d4 := cku 4 _ (by omega) rfl
          have e3 := ckv 3 _ (by omega) rfl
          have hq : (rulQ P) i j = (u.sched || u.stop) := by unfold rulQ; rw [schedOf_at hu, stopOf_at hu]
          obtain ⟨nm, bu, pe, sc, st, pa, pn, pc, h0, h1, h2, h3, h4⟩ := u
          obtain ⟨nm', bu', pe', sc', st', pa', pn', pc', h0', h1', h2', h3', h4'⟩ := v
          dsimp only at d3 d4 e3 hq
          obtain ⟨b0, b1, b2⟩ := (HBOX.out.below (HB.out ▸ hb) (HB.out ▸ (HBOX.out.lt))).three
          have hMd := hM.on (w' := wr.drew) (Below.refl _ _).drew
          obtain ⟨y, hy, hyg, hBy, hgl, hyl, f0, f1, f2, hst⟩ := hMd.at_ (i := i) (j := j) hlt (Nat.le_refl _) hjn
          have HLT : Hid (i < n1 ∧ j < n1 ∧ (i : Int) < (n1 : Int) ∧ (j : Int) < (n1 : Int)) := Lib.hid ⟨hlt, hjn, hlti, hjni⟩
          obtain ⟨bij, hbij⟩ : ∃ bij, bij = mQ (fun a b => decide (a = b)) (rulQ P) i j i j := ⟨_, rfl⟩
          rw [← hbij] at f1
          have HST : Hid (∀ V, V = (bij || (sc || st)) → Mat (wr.drew.setCell ⟨y, j, none⟩ (.bool V)) B g n1 n1 G (mQ (fun a b => decide (a = b)) (rulQ P) i (j + 1)) ∧ Below B W (wr.drew.setCell ⟨y, j, none⟩ (.bool V))) := Lib.hid fun V hV => by
            obtain ⟨s1, s2⟩ := hst V
            refine ⟨s1.congr fun a b _ _ => ?_, s2 _ hb.drew⟩
            rw [hV, ← hq, hbij]
            exact mQ_or a b
          clear hM hMd hb hPw cku ckv hu hv hst hgl hyl hBy hbij hq
          have d3 : wr.drew.cell? ⟨(ad.add (i * 11)).block, (ad.add (i * 11)).off + 3, none⟩ = some (.bool sc) := d3
          have d4 : wr.drew.cell? ⟨(ad.add (i * 11)).block, (ad.add (i * 11)).off + 4, none⟩ = some (.bool st) := d4
          have e3 : wr.drew.cell? ⟨(ad.add (j * 11)).block, (ad.add (j * 11)).off + 3, none⟩ = some (.bool sc') := e3
          have b0 : wr.drew.cell? ⟨gb, 0, none⟩ = some (.slice (some ad) n1 c1) := b0
          go_wp2_with fail
          cases bij with
          | true =>
            refine Rgs.region (by kernel_rfl) (by kernel_rfl) (fun (opn : Nat) (vl : Value) (_ : World) => match opn with | 0 => vl = .slice (some ⟨g, 0, none⟩) n1 n1 | 1 => vl = .int .i64 (i : Int) | 2 => vl = .pointer (some ⟨g, i, none⟩) | 3 => vl = .slice (some ⟨y, 0, none⟩) n1 n1 | 4 => vl = .int .i64 (j : Int) | 5 => vl = .slice (some ⟨g, 0, none⟩) n1 n1 | 6 => vl = .int .i64 (i : Int) | 7 => vl = .pointer (some ⟨g, i, none⟩) | 8 => vl = .slice (some ⟨y, 0, none⟩) n1 n1 | 9 => vl = .int .i64 (j : Int) | 10 => vl = .pointer (some ⟨y, j, none⟩) | 11 => vl = .bool true | 12 => vl = .bool true | 13 => vl = undef | 14 => vl = undef | 15 => vl = undef | 16 => vl = undef | 17 => vl = undef | 18 => vl = undef | 19 => vl = .bool true | 20 => vl = .bool true | 21 => vl = undef | 22 => vl = undef | 23 => vl = undef | 24 => vl = undef | 25 => vl = undef | 26 => vl = undef | 27 => vl = .bool true | 28 => vl = .pointer (some ⟨y, j, none⟩) | 29 => vl = undef | _ => True) (fun live _ w' => Rgs.StW wr.drew 29 ⟨y, j, none⟩ (.bool true) live w') rfl (Rgs.steps_of ?_) ?_
            · refine ⟨?_, ?_, ?_, ?_, ?_, ?_, ?_, ?_, ?_, ?_, ?_, ?_, ?_, ?_, ?_, ?_, ?_, ?_, ?_, ?_, ?_, ?_, ?_, ?_, ?_, ?_, ?_, ?_, ?_, ?_, trivial⟩
              · intro a w1 live S E D C h0 hk hW
                have e3 : a.eval (.tmp 3) = .slice (some ⟨g, 0, none⟩) n1 n1 := E 3 rfl
                exact Rgs.val rfl (Reg.wanted_free rfl) (.slice (some ⟨g, 0, none⟩) n1 n1) (by have c := Reg.consts a; generalize a.eval = ρ at *; simp [execOp, go_sem, c.1, c.2, e3]) rfl (hW.upd (by decide))
              · intro a w1 live S E D C h0 hk hW
                have e4 : a.eval (.tmp 4) = .int .i64 (i : Int) := E 4 rfl
                exact Rgs.val rfl (Reg.wanted_free rfl) (.int .i64 (i : Int)) (by have c := Reg.consts a; generalize a.eval = ρ at *; simp [execOp, go_sem, c.1, c.2, e4]) rfl (hW.upd (by decide))
              · intro a w1 live S E D C h0 hk hW
                have d0 : a.eval (.tmp 22) = .slice (some ⟨g, 0, none⟩) n1 n1 := D 0 rfl _ _ rfl rfl
                have d1 : a.eval (.tmp 23) = .int .i64 (i : Int) := D 1 rfl _ _ rfl rfl
                have i1 := HLT.out
                obtain ⟨i1, i2, i3, i4⟩ := i1
                have ead := mk_add (g) (i)
                exact Rgs.val rfl (Reg.wanted_free rfl) (.pointer (some ⟨g, i, none⟩)) (by have c := Reg.consts a; generalize a.eval = ρ at *; simp [execOp, go_sem, c.1, c.2, d0, d1, i1, i2, i3, i4, ead]) rfl (hW.upd (by decide))
              · intro a w1 live S E D C h0 hk hW
                have d2 : a.eval (.tmp 24) = .pointer (some ⟨g, i, none⟩) := D 2 rfl _ _ rfl rfl
                have l28 := Reg.not_live C h0 (j := 28) rfl rfl
                have l29 := Reg.not_live C l28 (j := 29) rfl rfl
                have hw := hW.off l29
                subst hw
                have hc0 := f0
                exact Rgs.val rfl (Reg.wanted_free rfl) (.slice (some ⟨y, 0, none⟩) n1 n1) (by have c := Reg.consts a; generalize a.eval = ρ at *; simp [execOp, go_sem, c.1, c.2, d2, hc0]) rfl (hW.upd (by decide))
              · intro a w1 live S E D C h0 hk hW
                have e5 : a.eval (.tmp 5) = .int .i64 (j : Int) := E 5 rfl
                exact Rgs.val rfl (Reg.wanted_free rfl) (.int .i64 (j : Int)) (by have c := Reg.consts a; generalize a.eval = ρ at *; simp [execOp, go_sem, c.1, c.2, e5]) rfl (hW.upd (by decide))
              · intro a w1 live S E D C h0 hk hW
                have e3 : a.eval (.tmp 3) = .slice (some ⟨g, 0, none⟩) n1 n1 := E 3 rfl
                exact Rgs.val rfl (Reg.wanted_free rfl) (.slice (some ⟨g, 0, none⟩) n1 n1) (by have c := Reg.consts a; generalize a.eval = ρ at *; simp [execOp, go_sem, c.1, c.2, e3]) rfl (hW.upd (by decide))
              · intro a w1 live S E D C h0 hk hW
                have e4 : a.eval (.tmp 4) = .int .i64 (i : Int) := E 4 rfl
                exact Rgs.val rfl (Reg.wanted_free rfl) (.int .i64 (i : Int)) (by have c := Reg.consts a; generalize a.eval = ρ at *; simp [execOp, go_sem, c.1, c.2, e4]) rfl (hW.upd (by decide))
              · intro a w1 live S E D C h0 hk hW
                have d5 : a.eval (.tmp 27) = .slice (some ⟨g, 0, none⟩) n1 n1 := D 5 rfl _ _ rfl rfl
                have d6 : a.eval (.tmp 28) = .int .i64 (i : Int) := D 6 rfl _ _ rfl rfl
                have i1 := HLT.out
                obtain ⟨i1, i2, i3, i4⟩ := i1
                have ead := mk_add (g) (i)
                exact Rgs.val rfl (Reg.wanted_free rfl) (.pointer (some ⟨g, i, none⟩)) (by have c := Reg.consts a; generalize a.eval = ρ at *; simp [execOp, go_sem, c.1, c.2, d5, d6, i1, i2, i3, i4, ead]) rfl (hW.upd (by decide))
              · intro a w1 live S E D C h0 hk hW
                have d7 : a.eval (.tmp 29) = .pointer (some ⟨g, i, none⟩) := D 7 rfl _ _ rfl rfl
                have l10 := Reg.not_live C h0 (j := 10) rfl rfl
                have l11 := Reg.not_live C l10 (j := 11) rfl rfl
                have l12 := Reg.not_live C l11 (j := 12) rfl rfl
                have l19 := Reg.not_live C l12 (j := 19) rfl rfl
                have l20 := Reg.not_live C l19 (j := 20) rfl rfl
                have l27 := Reg.not_live C l20 (j := 27) rfl rfl
                have l29 := Reg.not_live C l27 (j := 29) rfl rfl
                have hw := hW.off l29
                subst hw
                have hc0 := f0
                exact Rgs.val rfl (Reg.wanted_free rfl) (.slice (some ⟨y, 0, none⟩) n1 n1) (by have c := Reg.consts a; generalize a.eval = ρ at *; simp [execOp, go_sem, c.1, c.2, d7, hc0]) rfl (hW.upd (by decide))
              · intro a w1 live S E D C h0 hk hW
                have e5 : a.eval (.tmp 5) = .int .i64 (j : Int) := E 5 rfl
                exact Rgs.val rfl (Reg.wanted_free rfl) (.int .i64 (j : Int)) (by have c := Reg.consts a; generalize a.eval = ρ at *; simp [execOp, go_sem, c.1, c.2, e5]) rfl (hW.upd (by decide))
              · intro a w1 live S E D C h0 hk hW
                have d8 : a.eval (.tmp 30) = .slice (some ⟨y, 0, none⟩) n1 n1 := D 8 rfl _ _ rfl rfl
                have d9 : a.eval (.tmp 31) = .int .i64 (j : Int) := D 9 rfl _ _ rfl rfl
                have i1 := HLT.out
                obtain ⟨i1, i2, i3, i4⟩ := i1
                have ead := mk_add (y) (j)
                exact Rgs.val rfl (Reg.wanted_free rfl) (.pointer (some ⟨y, j, none⟩)) (by have c := Reg.consts a; generalize a.eval = ρ at *; simp [execOp, go_sem, c.1, c.2, d8, d9, i1, i2, i3, i4, ead]) rfl (hW.upd (by decide))
              · intro a w1 live S E D C h0 hk hW
                have d10 : a.eval (.tmp 32) = .pointer (some ⟨y, j, none⟩) := D 10 rfl _ _ rfl rfl
                have l12 := Reg.not_live C h0 (j := 12) rfl rfl
                have l19 := Reg.not_live C l12 (j := 19) rfl rfl
                have l20 := Reg.not_live C l19 (j := 20) rfl rfl
                have l27 := Reg.not_live C l20 (j := 27) rfl rfl
                have l29 := Reg.not_live C l27 (j := 29) rfl rfl
                have hw := hW.off l29
                subst hw
                have hc0 := f1
                exact Rgs.val rfl (Reg.wanted_free rfl) (.bool true) (by have c := Reg.consts a; generalize a.eval = ρ at *; simp [execOp, go_sem, c.1, c.2, d10, hc0]) rfl (hW.upd (by decide))
              · intro a w1 live S E D C h0 hk hW
                have d11 : a.eval (.tmp 33) = .bool true := D 11 rfl _ _ rfl rfl
                exact Rgs.val rfl (Reg.wanted_free rfl) (.bool true) (by have c := Reg.consts a; generalize a.eval = ρ at *; simp [execOp, go_sem, c.1, c.2, d11]) rfl (hW.upd (by decide))
              · intro a w1 live S E D C h0 hk hW
                have dg : a.eval (.tmp 34) = .bool true := D 12 rfl _ _ rfl rfl
                exact Rgs.skip rfl (Rgs.wanted_not rfl rfl dg rfl) rfl (hW.upd (by decide))
              · intro a w1 live S E D C h0 hk hW
                have dg : a.eval (.tmp 34) = .bool true := D 12 rfl _ _ rfl rfl
                exact Rgs.skip rfl (Rgs.wanted_not rfl rfl dg rfl) rfl (hW.upd (by decide))
              · intro a w1 live S E D C h0 hk hW
                have dg : a.eval (.tmp 34) = .bool true := D 12 rfl _ _ rfl rfl
                exact Rgs.skip rfl (Rgs.wanted_not rfl rfl dg rfl) rfl (hW.upd (by decide))
              · intro a w1 live S E D C h0 hk hW
                have dg : a.eval (.tmp 34) = .bool true := D 12 rfl _ _ rfl rfl
                exact Rgs.skip rfl (Rgs.wanted_not rfl rfl dg rfl) rfl (hW.upd (by decide))
              · intro a w1 live S E D C h0 hk hW
                have dg : a.eval (.tmp 34) = .bool true := D 12 rfl _ _ rfl rfl
                exact Rgs.skip rfl (Rgs.wanted_not rfl rfl dg rfl) rfl (hW.upd (by decide))
              · intro a w1 live S E D C h0 hk hW
                have dg : a.eval (.tmp 34) = .bool true := D 12 rfl _ _ rfl rfl
                exact Rgs.skip rfl (Rgs.wanted_not rfl rfl dg rfl) rfl (hW.upd (by decide))
              · intro a w1 live S E D C h0 hk hW
                have d12 : a.eval (.tmp 34) = .bool true := D 12 rfl _ _ rfl rfl
                exact Rgs.val rfl (Reg.wanted_free rfl) (.bool true) (by have c := Reg.consts a; generalize a.eval = ρ at *; simp [execOp, go_sem, c.1, c.2, d12]) rfl (hW.upd (by decide))
              · intro a w1 live S E D C h0 hk hW
                have d19 : a.eval (.tmp 41) = .bool true := D 19 rfl _ _ rfl rfl
                exact Rgs.val rfl (Reg.wanted_free rfl) (.bool true) (by have c := Reg.consts a; generalize a.eval = ρ at *; simp [execOp, go_sem, c.1, c.2, d19]) rfl (hW.upd (by decide))
              · intro a w1 live S E D C h0 hk hW
                have dg : a.eval (.tmp 42) = .bool true := D 20 rfl _ _ rfl rfl
                exact Rgs.skip rfl (Rgs.wanted_not rfl rfl dg rfl) rfl (hW.upd (by decide))
              · intro a w1 live S E D C h0 hk hW
                have dg : a.eval (.tmp 42) = .bool true := D 20 rfl _ _ rfl rfl
                exact Rgs.skip rfl (Rgs.wanted_not rfl rfl dg rfl) rfl (hW.upd (by decide))
              · intro a w1 live S E D C h0 hk hW
                have dg : a.eval (.tmp 42) = .bool true := D 20 rfl _ _ rfl rfl
                exact Rgs.skip rfl (Rgs.wanted_not rfl rfl dg rfl) rfl (hW.upd (by decide))
              · intro a w1 live S E D C h0 hk hW
                have dg : a.eval (.tmp 42) = .bool true := D 20 rfl _ _ rfl rfl
                exact Rgs.skip rfl (Rgs.wanted_not rfl rfl dg rfl) rfl (hW.upd (by decide))
              · intro a w1 live S E D C h0 hk hW
                have dg : a.eval (.tmp 42) = .bool true := D 20 rfl _ _ rfl rfl
                exact Rgs.skip rfl (Rgs.wanted_not rfl rfl dg rfl) rfl (hW.upd (by decide))
              · intro a w1 live S E D C h0 hk hW
                have dg : a.eval (.tmp 42) = .bool true := D 20 rfl _ _ rfl rfl
                exact Rgs.skip rfl (Rgs.wanted_not rfl rfl dg rfl) rfl (hW.upd (by decide))
              · intro a w1 live S E D C h0 hk hW
                have d20 : a.eval (.tmp 42) = .bool true := D 20 rfl _ _ rfl rfl
                exact Rgs.val rfl (Reg.wanted_free rfl) (.bool true) (by have c := Reg.consts a; generalize a.eval = ρ at *; simp [execOp, go_sem, c.1, c.2, d20]) rfl (hW.upd (by decide))
              · intro a w1 live S E D C h0 hk hW
                have d3 : a.eval (.tmp 25) = .slice (some ⟨y, 0, none⟩) n1 n1 := D 3 rfl _ _ rfl rfl
                have d4 : a.eval (.tmp 26) = .int .i64 (j : Int) := D 4 rfl _ _ rfl rfl
                have i1 := HLT.out
                obtain ⟨i1, i2, i3, i4⟩ := i1
                have ead := mk_add (y) (j)
                exact Rgs.val rfl (Reg.wanted_free rfl) (.pointer (some ⟨y, j, none⟩)) (by have c := Reg.consts a; generalize a.eval = ρ at *; simp [execOp, go_sem, c.1, c.2, d3, d4, i1, i2, i3, i4, ead]) rfl (hW.upd (by decide))
              · intro a w1 live S E D C h0 hk hW
                have d28 : a.eval (.tmp 50) = .pointer (some ⟨y, j, none⟩) := D 28 rfl _ _ rfl rfl
                have d27 : a.eval (.tmp 49) = .bool true := D 27 rfl _ _ rfl rfl
                have hw := hW.off h0
                subst hw
                have hc0 := f1
                have hfz := f2
                refine Rgs.store rfl (Reg.wanted_free rfl) _ (by have c := Reg.consts a; generalize a.eval = ρ at *; simp [execOp, go_sem, c.1, c.2, d28, d27, hc0, hfz]) rfl (Rgs.StW.put _ _ _ _ _) (fun j v _ h => h)
            · intro a w3 live hs hd E D' Hl hW
              rw [Rgs.act_ws a _ _ hs hd E [22, 23, 24, 25, 26, 27, 28, 29, 30, 31, 32, 33, 34, 35, 36, 37, 38, 39, 40, 41, 42, 43, 44, 45, 46, 47, 48, 49, 50] (by kernel_rfl)]
              simp only [List.foldl, List.setIfInBounds_toArray, List.set_cons_succ, List.set_cons_zero]
              have hw := Rgs.StW.on hW (Hl 29 (by decide))
              subst hw
              clear E D' Hl hW
              generalize a.eval = ρ
              clear a hs hd f0 f1 f2 b0 b1 b2 d3 d4 e3
              go_wp2_with fail
              go_roundw
              case rel => exact ⟨j + 1, by omega, by go_num, HST.out _ (by simp)⟩
              case measure => simp [intOf]; omega
          | false =>
            cases sc with
            | true =>
              refine Rgs.region (by kernel_rfl) (by kernel_rfl) (fun (opn : Nat) (vl : Value) (_ : World) => match opn with | 0 => vl = .slice (some ⟨g, 0, none⟩) n1 n1 | 1 => vl = .int .i64 (i : Int) | 2 => vl = .pointer (some ⟨g, i, none⟩) | 3 => vl = .slice (some ⟨y, 0, none⟩) n1 n1 | 4 => vl = .int .i64 (j : Int) | 5 => vl = .slice (some ⟨g, 0, none⟩) n1 n1 | 6 => vl = .int .i64 (i : Int) | 7 => vl = .pointer (some ⟨g, i, none⟩) | 8 => vl = .slice (some ⟨y, 0, none⟩) n1 n1 | 9 => vl = .int .i64 (j : Int) | 10 => vl = .pointer (some ⟨y, j, none⟩) | 11 => vl = .bool false | 12 => vl = .bool false | 13 => vl = .pointer (some ⟨gb, 0, none⟩) | 14 => vl = .slice (some ad) n1 c1 | 15 => vl = .int .i64 (i : Int) | 16 => vl = .pointer (some (ad.add (i * 11))) | 17 => vl = .pointer (some ⟨(ad.add (i * 11)).block, (ad.add (i * 11)).off + 3, none⟩) | 18 => vl = .bool true | 19 => vl = .bool true | 20 => vl = .bool true | 21 => vl = undef | 22 => vl = undef | 23 => vl = undef | 24 => vl = undef | 25 => vl = undef | 26 => vl = undef | 27 => vl = .bool true | 28 => vl = .pointer (some ⟨y, j, none⟩) | 29 => vl = undef | _ => True) (fun live _ w' => Rgs.StW wr.drew 29 ⟨y, j, none⟩ (.bool true) live w') rfl (Rgs.steps_of ?_) ?_
              · refine ⟨?_, ?_, ?_, ?_, ?_, ?_, ?_, ?_, ?_, ?_, ?_, ?_, ?_, ?_, ?_, ?_, ?_, ?_, ?_, ?_, ?_, ?_, ?_, ?_, ?_, ?_, ?_, ?_, ?_, ?_, trivial⟩
                · intro a w1 live S E D C h0 hk hW
                  have e3 : a.eval (.tmp 3) = .slice (some ⟨g, 0, none⟩) n1 n1 := E 3 rfl
                  exact Rgs.val rfl (Reg.wanted_free rfl) (.slice (some ⟨g, 0, none⟩) n1 n1) (by have c := Reg.consts a; generalize a.eval = ρ at *; simp [execOp, go_sem, c.1, c.2, e3]) rfl (hW.upd (by decide))
                · intro a w1 live S E D C h0 hk hW
                  have e4 : a.eval (.tmp 4) = .int .i64 (i : Int) := E 4 rfl
                  exact Rgs.val rfl (Reg.wanted_free rfl) (.int .i64 (i : Int)) (by have c := Reg.consts a; generalize a.eval = ρ at *; simp [execOp, go_sem, c.1, c.2, e4]) rfl (hW.upd (by decide))
                · intro a w1 live S E D C h0 hk hW
                  have d0 : a.eval (.tmp 22) = .slice (some ⟨g, 0, none⟩) n1 n1 := D 0 rfl _ _ rfl rfl
                  have d1 : a.eval (.tmp 23) = .int .i64 (i : Int) := D 1 rfl _ _ rfl rfl
                  have i1 := HLT.out
                  obtain ⟨i1, i2, i3, i4⟩ := i1
                  have ead := mk_add (g) (i)
                  exact Rgs.val rfl (Reg.wanted_free rfl) (.pointer (some ⟨g, i, none⟩)) (by have c := Reg.consts a; generalize a.eval = ρ at *; simp [execOp, go_sem, c.1, c.2, d0, d1, i1, i2, i3, i4, ead]) rfl (hW.upd (by decide))
                · intro a w1 live S E D C h0 hk hW
                  have d2 : a.eval (.tmp 24) = .pointer (some ⟨g, i, none⟩) := D 2 rfl _ _ rfl rfl
                  have l28 := Reg.not_live C h0 (j := 28) rfl rfl
                  have l29 := Reg.not_live C l28 (j := 29) rfl rfl
                  have hw := hW.off l29
                  subst hw
                  have hc0 := f0
                  exact Rgs.val rfl (Reg.wanted_free rfl) (.slice (some ⟨y, 0, none⟩) n1 n1) (by have c := Reg.consts a; generalize a.eval = ρ at *; simp [execOp, go_sem, c.1, c.2, d2, hc0]) rfl (hW.upd (by decide))
                · intro a w1 live S E D C h0 hk hW
                  have e5 : a.eval (.tmp 5) = .int .i64 (j : Int) := E 5 rfl
                  exact Rgs.val rfl (Reg.wanted_free rfl) (.int .i64 (j : Int)) (by have c := Reg.consts a; generalize a.eval = ρ at *; simp [execOp, go_sem, c.1, c.2, e5]) rfl (hW.upd (by decide))
                · intro a w1 live S E D C h0 hk hW
                  have e3 : a.eval (.tmp 3) = .slice (some ⟨g, 0, none⟩) n1 n1 := E 3 rfl
                  exact Rgs.val rfl (Reg.wanted_free rfl) (.slice (some ⟨g, 0, none⟩) n1 n1) (by have c := Reg.consts a; generalize a.eval = ρ at *; simp [execOp, go_sem, c.1, c.2, e3]) rfl (hW.upd (by decide))
                · intro a w1 live S E D C h0 hk hW
                  have e4 : a.eval (.tmp 4) = .int .i64 (i : Int) := E 4 rfl
                  exact Rgs.val rfl (Reg.wanted_free rfl) (.int .i64 (i : Int)) (by have c := Reg.consts a; generalize a.eval = ρ at *; simp [execOp, go_sem, c.1, c.2, e4]) rfl (hW.upd (by decide))
                · intro a w1 live S E D C h0 hk hW
                  have d5 : a.eval (.tmp 27) = .slice (some ⟨g, 0, none⟩) n1 n1 := D 5 rfl _ _ rfl rfl
                  have d6 : a.eval (.tmp 28) = .int .i64 (i : Int) := D 6 rfl _ _ rfl rfl
                  have i1 := HLT.out
                  obtain ⟨i1, i2, i3, i4⟩ := i1
                  have ead := mk_add (g) (i)
                  exact Rgs.val rfl (Reg.wanted_free rfl) (.pointer (some ⟨g, i, none⟩)) (by have c := Reg.consts a; generalize a.eval = ρ at *; simp [execOp, go_sem, c.1, c.2, d5, d6, i1, i2, i3, i4, ead]) rfl (hW.upd (by decide))
                · intro a w1 live S E D C h0 hk hW
                  have d7 : a.eval (.tmp 29) = .pointer (some ⟨g, i, none⟩) := D 7 rfl _ _ rfl rfl
                  have l10 := Reg.not_live C h0 (j := 10) rfl rfl
                  have l11 := Reg.not_live C l10 (j := 11) rfl rfl
                  have l12 := Reg.not_live C l11 (j := 12) rfl rfl
                  have l19 := Reg.not_live C l12 (j := 19) rfl rfl
                  have l20 := Reg.not_live C l19 (j := 20) rfl rfl
                  have l27 := Reg.not_live C l20 (j := 27) rfl rfl
                  have l29 := Reg.not_live C l27 (j := 29) rfl rfl
                  have hw := hW.off l29
                  subst hw
                  have hc0 := f0
                  exact Rgs.val rfl (Reg.wanted_free rfl) (.slice (some ⟨y, 0, none⟩) n1 n1) (by have c := Reg.consts a; generalize a.eval = ρ at *; simp [execOp, go_sem, c.1, c.2, d7, hc0]) rfl (hW.upd (by decide))
                · intro a w1 live S E D C h0 hk hW
                  have e5 : a.eval (.tmp 5) = .int .i64 (j : Int) := E 5 rfl
                  exact Rgs.val rfl (Reg.wanted_free rfl) (.int .i64 (j : Int)) (by have c := Reg.consts a; generalize a.eval = ρ at *; simp [execOp, go_sem, c.1, c.2, e5]) rfl (hW.upd (by decide))
                · intro a w1 live S E D C h0 hk hW
                  have d8 : a.eval (.tmp 30) = .slice (some ⟨y, 0, none⟩) n1 n1 := D 8 rfl _ _ rfl rfl
                  have d9 : a.eval (.tmp 31) = .int .i64 (j : Int) := D 9 rfl _ _ rfl rfl
                  have i1 := HLT.out
                  obtain ⟨i1, i2, i3, i4⟩ := i1
                  have ead := mk_add (y) (j)
                  exact Rgs.val rfl (Reg.wanted_free rfl) (.pointer (some ⟨y, j, none⟩)) (by have c := Reg.consts a; generalize a.eval = ρ at *; simp [execOp, go_sem, c.1, c.2, d8, d9, i1, i2, i3, i4, ead]) rfl (hW.upd (by decide))
                · intro a w1 live S E D C h0 hk hW
                  have d10 : a.eval (.tmp 32) = .pointer (some ⟨y, j, none⟩) := D 10 rfl _ _ rfl rfl
                  have l12 := Reg.not_live C h0 (j := 12) rfl rfl
                  have l19 := Reg.not_live C l12 (j := 19) rfl rfl
                  have l20 := Reg.not_live C l19 (j := 20) rfl rfl
                  have l27 := Reg.not_live C l20 (j := 27) rfl rfl
                  have l29 := Reg.not_live C l27 (j := 29) rfl rfl
                  have hw := hW.off l29
                  subst hw
                  have hc0 := f1
                  exact Rgs.val rfl (Reg.wanted_free rfl) (.bool false) (by have c := Reg.consts a; generalize a.eval = ρ at *; simp [execOp, go_sem, c.1, c.2, d10, hc0]) rfl (hW.upd (by decide))
                · intro a w1 live S E D C h0 hk hW
                  have d11 : a.eval (.tmp 33) = .bool false := D 11 rfl _ _ rfl rfl
                  exact Rgs.val rfl (Reg.wanted_free rfl) (.bool false) (by have c := Reg.consts a; generalize a.eval = ρ at *; simp [execOp, go_sem, c.1, c.2, d11]) rfl (hW.upd (by decide))
                · intro a w1 live S E D C h0 hk hW
                  have dg : a.eval (.tmp 34) = .bool false := D 12 rfl _ _ rfl rfl
                  have e1 : a.eval (.tmp 1) = .pointer (some ⟨gb, 0, none⟩) := E 1 rfl
                  exact Rgs.val rfl (Reg.wanted_if rfl rfl dg rfl) (.pointer (some ⟨gb, 0, none⟩)) (by have c := Reg.consts a; generalize a.eval = ρ at *; simp [execOp, go_sem, c.1, c.2, e1]) rfl (hW.upd (by decide))
                · intro a w1 live S E D C h0 hk hW
                  have dg : a.eval (.tmp 34) = .bool false := D 12 rfl _ _ rfl rfl
                  have d13 : a.eval (.tmp 35) = .pointer (some ⟨gb, 0, none⟩) := D 13 rfl _ _ rfl rfl
                  have l16 := Reg.not_live C h0 (j := 16) rfl rfl
                  have l17 := Reg.not_live C l16 (j := 17) rfl rfl
                  have l18 := Reg.not_live C l17 (j := 18) rfl rfl
                  have l19 := Reg.not_live C l18 (j := 19) rfl rfl
                  have l20 := Reg.not_live C l19 (j := 20) rfl rfl
                  have l27 := Reg.not_live C l20 (j := 27) rfl rfl
                  have l29 := Reg.not_live C l27 (j := 29) rfl rfl
                  have hw := hW.off l29
                  subst hw
                  have hc0 := b0
                  exact Rgs.val rfl (Reg.wanted_if rfl rfl dg rfl) (.slice (some ad) n1 c1) (by have c := Reg.consts a; generalize a.eval = ρ at *; simp [execOp, go_sem, c.1, c.2, d13, hc0]) rfl (hW.upd (by decide))
                · intro a w1 live S E D C h0 hk hW
                  have dg : a.eval (.tmp 34) = .bool false := D 12 rfl _ _ rfl rfl
                  have e4 : a.eval (.tmp 4) = .int .i64 (i : Int) := E 4 rfl
                  exact Rgs.val rfl (Reg.wanted_if rfl rfl dg rfl) (.int .i64 (i : Int)) (by have c := Reg.consts a; generalize a.eval = ρ at *; simp [execOp, go_sem, c.1, c.2, e4]) rfl (hW.upd (by decide))
                · intro a w1 live S E D C h0 hk hW
                  have dg : a.eval (.tmp 34) = .bool false := D 12 rfl _ _ rfl rfl
                  have d14 : a.eval (.tmp 36) = .slice (some ad) n1 c1 := D 14 rfl _ _ rfl rfl
                  have d15 : a.eval (.tmp 37) = .int .i64 (i : Int) := D 15 rfl _ _ rfl rfl
                  have i1 := HLT.out
                  obtain ⟨i1, i2, i3, i4⟩ := i1
                  exact Rgs.val rfl (Reg.wanted_if rfl rfl dg rfl) (.pointer (some (ad.add (i * 11)))) (by have c := Reg.consts a; generalize a.eval = ρ at *; simp [execOp, go_sem, c.1, c.2, d14, d15, i1, i2, i3, i4]) rfl (hW.upd (by decide))
                · intro a w1 live S E D C h0 hk hW
                  have dg : a.eval (.tmp 34) = .bool false := D 12 rfl _ _ rfl rfl
                  have d16 : a.eval (.tmp 38) = .pointer (some (ad.add (i * 11))) := D 16 rfl _ _ rfl rfl
                  exact Rgs.val rfl (Reg.wanted_if rfl rfl dg rfl) (.pointer (some ⟨(ad.add (i * 11)).block, (ad.add (i * 11)).off + 3, none⟩)) (by have c := Reg.consts a; generalize a.eval = ρ at *; simp [execOp, go_sem, c.1, c.2, d16]) rfl (hW.upd (by decide))
                · intro a w1 live S E D C h0 hk hW
                  have dg : a.eval (.tmp 34) = .bool false := D 12 rfl _ _ rfl rfl
                  have d17 : a.eval (.tmp 39) = .pointer (some ⟨(ad.add (i * 11)).block, (ad.add (i * 11)).off + 3, none⟩) := D 17 rfl _ _ rfl rfl
                  have l19 := Reg.not_live C h0 (j := 19) rfl rfl
                  have l20 := Reg.not_live C l19 (j := 20) rfl rfl
                  have l27 := Reg.not_live C l20 (j := 27) rfl rfl
                  have l29 := Reg.not_live C l27 (j := 29) rfl rfl
                  have hw := hW.off l29
                  subst hw
                  have hc0 := d3
                  exact Rgs.val rfl (Reg.wanted_if rfl rfl dg rfl) (.bool true) (by have c := Reg.consts a; generalize a.eval = ρ at *; simp [execOp, go_sem, c.1, c.2, d17, hc0]) rfl (hW.upd (by decide))
                · intro a w1 live S E D C h0 hk hW
                  have d12 : a.eval (.tmp 34) = .bool false := D 12 rfl _ _ rfl rfl
                  have d18 : a.eval (.tmp 40) = .bool true := D 18 rfl _ _ rfl rfl
                  exact Rgs.val rfl (Reg.wanted_free rfl) (.bool true) (by have c := Reg.consts a; generalize a.eval = ρ at *; simp [execOp, go_sem, c.1, c.2, d12, d18]) rfl (hW.upd (by decide))
                · intro a w1 live S E D C h0 hk hW
                  have d19 : a.eval (.tmp 41) = .bool true := D 19 rfl _ _ rfl rfl
                  exact Rgs.val rfl (Reg.wanted_free rfl) (.bool true) (by have c := Reg.consts a; generalize a.eval = ρ at *; simp [execOp, go_sem, c.1, c.2, d19]) rfl (hW.upd (by decide))
                · intro a w1 live S E D C h0 hk hW
                  have dg : a.eval (.tmp 42) = .bool true := D 20 rfl _ _ rfl rfl
                  exact Rgs.skip rfl (Rgs.wanted_not rfl rfl dg rfl) rfl (hW.upd (by decide))
                · intro a w1 live S E D C h0 hk hW
                  have dg : a.eval (.tmp 42) = .bool true := D 20 rfl _ _ rfl rfl
                  exact Rgs.skip rfl (Rgs.wanted_not rfl rfl dg rfl) rfl (hW.upd (by decide))
                · intro a w1 live S E D C h0 hk hW
                  have dg : a.eval (.tmp 42) = .bool true := D 20 rfl _ _ rfl rfl
                  exact Rgs.skip rfl (Rgs.wanted_not rfl rfl dg rfl) rfl (hW.upd (by decide))
                · intro a w1 live S E D C h0 hk hW
                  have dg : a.eval (.tmp 42) = .bool true := D 20 rfl _ _ rfl rfl
                  exact Rgs.skip rfl (Rgs.wanted_not rfl rfl dg rfl) rfl (hW.upd (by decide))
                · intro a w1 live S E D C h0 hk hW
                  have dg : a.eval (.tmp 42) = .bool true := D 20 rfl _ _ rfl rfl
                  exact Rgs.skip rfl (Rgs.wanted_not rfl rfl dg rfl) rfl (hW.upd (by decide))
                · intro a w1 live S E D C h0 hk hW
                  have dg : a.eval (.tmp 42) = .bool true := D 20 rfl _ _ rfl rfl
                  exact Rgs.skip rfl (Rgs.wanted_not rfl rfl dg rfl) rfl (hW.upd (by decide))
                · intro a w1 live S E D C h0 hk hW
                  have d20 : a.eval (.tmp 42) = .bool true := D 20 rfl _ _ rfl rfl
                  exact Rgs.val rfl (Reg.wanted_free rfl) (.bool true) (by have c := Reg.consts a; generalize a.eval = ρ at *; simp [execOp, go_sem, c.1, c.2, d20]) rfl (hW.upd (by decide))
                · intro a w1 live S E D C h0 hk hW
                  have d3 : a.eval (.tmp 25) = .slice (some ⟨y, 0, none⟩) n1 n1 := D 3 rfl _ _ rfl rfl
                  have d4 : a.eval (.tmp 26) = .int .i64 (j : Int) := D 4 rfl _ _ rfl rfl
                  have i1 := HLT.out
                  obtain ⟨i1, i2, i3, i4⟩ := i1
                  have ead := mk_add (y) (j)
                  exact Rgs.val rfl (Reg.wanted_free rfl) (.pointer (some ⟨y, j, none⟩)) (by have c := Reg.consts a; generalize a.eval = ρ at *; simp [execOp, go_sem, c.1, c.2, d3, d4, i1, i2, i3, i4, ead]) rfl (hW.upd (by decide))
                · intro a w1 live S E D C h0 hk hW
                  have d28 : a.eval (.tmp 50) = .pointer (some ⟨y, j, none⟩) := D 28 rfl _ _ rfl rfl
                  have d27 : a.eval (.tmp 49) = .bool true := D 27 rfl _ _ rfl rfl
                  have hw := hW.off h0
                  subst hw
                  have hc0 := f1
                  have hfz := f2
                  refine Rgs.store rfl (Reg.wanted_free rfl) _ (by have c := Reg.consts a; generalize a.eval = ρ at *; simp [execOp, go_sem, c.1, c.2, d28, d27, hc0, hfz]) rfl (Rgs.StW.put _ _ _ _ _) (fun j v _ h => h)
              · intro a w3 live hs hd E D' Hl hW
                rw [Rgs.act_ws a _ _ hs hd E [22, 23, 24, 25, 26, 27, 28, 29, 30, 31, 32, 33, 34, 35, 36, 37, 38, 39, 40, 41, 42, 43, 44, 45, 46, 47, 48, 49, 50] (by kernel_rfl)]
                simp only [List.foldl, List.setIfInBounds_toArray, List.set_cons_succ, List.set_cons_zero]
                have hw := Rgs.StW.on hW (Hl 29 (by decide))
                subst hw
                clear E D' Hl hW
                generalize a.eval = ρ
                clear a hs hd f0 f1 f2 b0 b1 b2 d3 d4 e3
                go_wp2_with fail
                go_roundw
                case rel => exact ⟨j + 1, by omega, by go_num, HST.out _ rfl⟩
                case measure => simp [intOf]; omega
            | false =>
              refine Rgs.region (by kernel_rfl) (by kernel_rfl) (fun (opn : Nat) (vl : Value) (_ : World) => match opn with | 0 => vl = .slice (some ⟨g, 0, none⟩) n1 n1 | 1 => vl = .int .i64 (i : Int) | 2 => vl = .pointer (some ⟨g, i, none⟩) | 3 => vl = .slice (some ⟨y, 0, none⟩) n1 n1 | 4 => vl = .int .i64 (j : Int) | 5 => vl = .slice (some ⟨g, 0, none⟩) n1 n1 | 6 => vl = .int .i64 (i : Int) | 7 => vl = .pointer (some ⟨g, i, none⟩) | 8 => vl = .slice (some ⟨y, 0, none⟩) n1 n1 | 9 => vl = .int .i64 (j : Int) | 10 => vl = .pointer (some ⟨y, j, none⟩) | 11 => vl = .bool false | 12 => vl = .bool false | 13 => vl = .pointer (some ⟨gb, 0, none⟩) | 14 => vl = .slice (some ad) n1 c1 | 15 => vl = .int .i64 (i : Int) | 16 => vl = .pointer (some (ad.add (i * 11))) | 17 => vl = .pointer (some ⟨(ad.add (i * 11)).block, (ad.add (i * 11)).off + 3, none⟩) | 18 => vl = .bool false | 19 => vl = .bool false | 20 => vl = .bool false | 21 => vl = .pointer (some ⟨gb, 0, none⟩) | 22 => vl = .slice (some ad) n1 c1 | 23 => vl = .int .i64 (i : Int) | 24 => vl = .pointer (some (ad.add (i * 11))) | 25 => vl = .pointer (some ⟨(ad.add (i * 11)).block, (ad.add (i * 11)).off + 4, none⟩) | 26 => vl = .bool st | 27 => vl = .bool st | 28 => vl = .pointer (some ⟨y, j, none⟩) | 29 => vl = undef | _ => True) (fun live _ w' => Rgs.StW wr.drew 29 ⟨y, j, none⟩ (.bool st) live w') rfl (Rgs.steps_of ?_) ?_
              · refine ⟨?_, ?_, ?_, ?_, ?_, ?_, ?_, ?_, ?_, ?_, ?_, ?_, ?_, ?_, ?_, ?_, ?_, ?_, ?_, ?_, ?_, ?_, ?_, ?_, ?_, ?_, ?_, ?_, ?_, ?_, trivial⟩
                · intro a w1 live S E D C h0 hk hW
                  have e3 : a.eval (.tmp 3) = .slice (some ⟨g, 0, none⟩) n1 n1 := E 3 rfl
                  exact Rgs.val rfl (Reg.wanted_free rfl) (.slice (some ⟨g, 0, none⟩) n1 n1) (by have c := Reg.consts a; generalize a.eval = ρ at *; simp [execOp, go_sem, c.1, c.2, e3]) rfl (hW.upd (by decide))
                · intro a w1 live S E D C h0 hk hW
                  have e4 : a.eval (.tmp 4) = .int .i64 (i : Int) := E 4 rfl
                  exact Rgs.val rfl (Reg.wanted_free rfl) (.int .i64 (i : Int)) (by have c := Reg.consts a; generalize a.eval = ρ at *; simp [execOp, go_sem, c.1, c.2, e4]) rfl (hW.upd (by decide))
                · intro a w1 live S E D C h0 hk hW
                  have d0 : a.eval (.tmp 22) = .slice (some ⟨g, 0, none⟩) n1 n1 := D 0 rfl _ _ rfl rfl
                  have d1 : a.eval (.tmp 23) = .int .i64 (i : Int) := D 1 rfl _ _ rfl rfl
                  have i1 := HLT.out
                  obtain ⟨i1, i2, i3, i4⟩ := i1
                  have ead := mk_add (g) (i)
                  exact Rgs.val rfl (Reg.wanted_free rfl) (.pointer (some ⟨g, i, none⟩)) (by have c := Reg.consts a; generalize a.eval = ρ at *; simp [execOp, go_sem, c.1, c.2, d0, d1, i1, i2, i3, i4, ead]) rfl (hW.upd (by decide))
                · intro a w1 live S E D C h0 hk hW
                  have d2 : a.eval (.tmp 24) = .pointer (some ⟨g, i, none⟩) := D 2 rfl _ _ rfl rfl
                  have l28 := Reg.not_live C h0 (j := 28) rfl rfl
                  have l29 := Reg.not_live C l28 (j := 29) rfl rfl
                  have hw := hW.off l29
                  subst hw
                  have hc0 := f0
                  exact Rgs.val rfl (Reg.wanted_free rfl) (.slice (some ⟨y, 0, none⟩) n1 n1) (by have c := Reg.consts a; generalize a.eval = ρ at *; simp [execOp, go_sem, c.1, c.2, d2, hc0]) rfl (hW.upd (by decide))
                · intro a w1 live S E D C h0 hk hW
                  have e5 : a.eval (.tmp 5) = .int .i64 (j : Int) := E 5 rfl
                  exact Rgs.val rfl (Reg.wanted_free rfl) (.int .i64 (j : Int)) (by have c := Reg.consts a; generalize a.eval = ρ at *; simp [execOp, go_sem, c.1, c.2, e5]) rfl (hW.upd (by decide))
                · intro a w1 live S E D C h0 hk hW
                  have e3 : a.eval (.tmp 3) = .slice (some ⟨g, 0, none⟩) n1 n1 := E 3 rfl
                  exact Rgs.val rfl (Reg.wanted_free rfl) (.slice (some ⟨g, 0, none⟩) n1 n1) (by have c := Reg.consts a; generalize a.eval = ρ at *; simp [execOp, go_sem, c.1, c.2, e3]) rfl (hW.upd (by decide))
                · intro a w1 live S E D C h0 hk hW
                  have e4 : a.eval (.tmp 4) = .int .i64 (i : Int) := E 4 rfl
                  exact Rgs.val rfl (Reg.wanted_free rfl) (.int .i64 (i : Int)) (by have c := Reg.consts a; generalize a.eval = ρ at *; simp [execOp, go_sem, c.1, c.2, e4]) rfl (hW.upd (by decide))
                · intro a w1 live S E D C h0 hk hW
                  have d5 : a.eval (.tmp 27) = .slice (some ⟨g, 0, none⟩) n1 n1 := D 5 rfl _ _ rfl rfl
                  have d6 : a.eval (.tmp 28) = .int .i64 (i : Int) := D 6 rfl _ _ rfl rfl
                  have i1 := HLT.out
                  obtain ⟨i1, i2, i3, i4⟩ := i1
                  have ead := mk_add (g) (i)
                  exact Rgs.val rfl (Reg.wanted_free rfl) (.pointer (some ⟨g, i, none⟩)) (by have c := Reg.consts a; generalize a.eval = ρ at *; simp [execOp, go_sem, c.1, c.2, d5, d6, i1, i2, i3, i4, ead]) rfl (hW.upd (by decide))
                · intro a w1 live S E D C h0 hk hW
                  have d7 : a.eval (.tmp 29) = .pointer (some ⟨g, i, none⟩) := D 7 rfl _ _ rfl rfl
                  have l10 := Reg.not_live C h0 (j := 10) rfl rfl
                  have l11 := Reg.not_live C l10 (j := 11) rfl rfl
                  have l12 := Reg.not_live C l11 (j := 12) rfl rfl
                  have l19 := Reg.not_live C l12 (j := 19) rfl rfl
                  have l20 := Reg.not_live C l19 (j := 20) rfl rfl
                  have l27 := Reg.not_live C l20 (j := 27) rfl rfl
                  have l29 := Reg.not_live C l27 (j := 29) rfl rfl
                  have hw := hW.off l29
                  subst hw
                  have hc0 := f0
                  exact Rgs.val rfl (Reg.wanted_free rfl) (.slice (some ⟨y, 0, none⟩) n1 n1) (by have c := Reg.consts a; generalize a.eval = ρ at *; simp [execOp, go_sem, c.1, c.2, d7, hc0]) rfl (hW.upd (by decide))
                · intro a w1 live S E D C h0 hk hW
                  have e5 : a.eval (.tmp 5) = .int .i64 (j : Int) := E 5 rfl
                  exact Rgs.val rfl (Reg.wanted_free rfl) (.int .i64 (j : Int)) (by have c := Reg.consts a; generalize a.eval = ρ at *; simp [execOp, go_sem, c.1, c.2, e5]) rfl (hW.upd (by decide))
                · intro a w1 live S E D C h0 hk hW
                  have d8 : a.eval (.tmp 30) = .slice (some ⟨y, 0, none⟩) n1 n1 := D 8 rfl _ _ rfl rfl
                  have d9 : a.eval (.tmp 31) = .int .i64 (j : Int) := D 9 rfl _ _ rfl rfl
                  have i1 := HLT.out
                  obtain ⟨i1, i2, i3, i4⟩ := i1
                  have ead := mk_add (y) (j)
                  exact Rgs.val rfl (Reg.wanted_free rfl) (.pointer (some ⟨y, j, none⟩)) (by have c := Reg.consts a; generalize a.eval = ρ at *; simp [execOp, go_sem, c.1, c.2, d8, d9, i1, i2, i3, i4, ead]) rfl (hW.upd (by decide))
                · intro a w1 live S E D C h0 hk hW
                  have d10 : a.eval (.tmp 32) = .pointer (some ⟨y, j, none⟩) := D 10 rfl _ _ rfl rfl
                  have l12 := Reg.not_live C h0 (j := 12) rfl rfl
                  have l19 := Reg.not_live C l12 (j := 19) rfl rfl
                  have l20 := Reg.not_live C l19 (j := 20) rfl rfl
                  have l27 := Reg.not_live C l20 (j := 27) rfl rfl
                  have l29 := Reg.not_live C l27 (j := 29) rfl rfl
                  have hw := hW.off l29
                  subst hw
                  have hc0 := f1
                  exact Rgs.val rfl (Reg.wanted_free rfl) (.bool false) (by have c := Reg.consts a; generalize a.eval = ρ at *; simp [execOp, go_sem, c.1, c.2, d10, hc0]) rfl (hW.upd (by decide))
                · intro a w1 live S E D C h0 hk hW
                  have d11 : a.eval (.tmp 33) = .bool false := D 11 rfl _ _ rfl rfl
                  exact Rgs.val rfl (Reg.wanted_free rfl) (.bool false) (by have c := Reg.consts a; generalize a.eval = ρ at *; simp [execOp, go_sem, c.1, c.2, d11]) rfl (hW.upd (by decide))
                · intro a w1 live S E D C h0 hk hW
                  have dg : a.eval (.tmp 34) = .bool false := D 12 rfl _ _ rfl rfl
                  have e1 : a.eval (.tmp 1) = .pointer (some ⟨gb, 0, none⟩) := E 1 rfl
                  exact Rgs.val rfl (Reg.wanted_if rfl rfl dg rfl) (.pointer (some ⟨gb, 0, none⟩)) (by have c := Reg.consts a; generalize a.eval = ρ at *; simp [execOp, go_sem, c.1, c.2, e1]) rfl (hW.upd (by decide))
                · intro a w1 live S E D C h0 hk hW
                  have dg : a.eval (.tmp 34) = .bool false := D 12 rfl _ _ rfl rfl
                  have d13 : a.eval (.tmp 35) = .pointer (some ⟨gb, 0, none⟩) := D 13 rfl _ _ rfl rfl
                  have l16 := Reg.not_live C h0 (j := 16) rfl rfl
                  have l17 := Reg.not_live C l16 (j := 17) rfl rfl
                  have l18 := Reg.not_live C l17 (j := 18) rfl rfl
                  have l19 := Reg.not_live C l18 (j := 19) rfl rfl
                  have l20 := Reg.not_live C l19 (j := 20) rfl rfl
                  have l27 := Reg.not_live C l20 (j := 27) rfl rfl
                  have l29 := Reg.not_live C l27 (j := 29) rfl rfl
                  have hw := hW.off l29
                  subst hw
                  have hc0 := b0
                  exact Rgs.val rfl (Reg.wanted_if rfl rfl dg rfl) (.slice (some ad) n1 c1) (by have c := Reg.consts a; generalize a.eval = ρ at *; simp [execOp, go_sem, c.1, c.2, d13, hc0]) rfl (hW.upd (by decide))
                · intro a w1 live S E D C h0 hk hW
                  have dg : a.eval (.tmp 34) = .bool false := D 12 rfl _ _ rfl rfl
                  have e4 : a.eval (.tmp 4) = .int .i64 (i : Int) := E 4 rfl
                  exact Rgs.val rfl (Reg.wanted_if rfl rfl dg rfl) (.int .i64 (i : Int)) (by have c := Reg.consts a; generalize a.eval = ρ at *; simp [execOp, go_sem, c.1, c.2, e4]) rfl (hW.upd (by decide))
                · intro a w1 live S E D C h0 hk hW
                  have dg : a.eval (.tmp 34) = .bool false := D 12 rfl _ _ rfl rfl
                  have d14 : a.eval (.tmp 36) = .slice (some ad) n1 c1 := D 14 rfl _ _ rfl rfl
                  have d15 : a.eval (.tmp 37) = .int .i64 (i : Int) := D 15 rfl _ _ rfl rfl
                  have i1 := HLT.out
                  obtain ⟨i1, i2, i3, i4⟩ := i1
                  exact Rgs.val rfl (Reg.wanted_if rfl rfl dg rfl) (.pointer (some (ad.add (i * 11)))) (by have c := Reg.consts a; generalize a.eval = ρ at *; simp [execOp, go_sem, c.1, c.2, d14, d15, i1, i2, i3, i4]) rfl (hW.upd (by decide))
                · intro a w1 live S E D C h0 hk hW
                  have dg : a.eval (.tmp 34) = .bool false := D 12 rfl _ _ rfl rfl
                  have d16 : a.eval (.tmp 38) = .pointer (some (ad.add (i * 11))) := D 16 rfl _ _ rfl rfl
                  exact Rgs.val rfl (Reg.wanted_if rfl rfl dg rfl) (.pointer (some ⟨(ad.add (i * 11)).block, (ad.add (i * 11)).off + 3, none⟩)) (by have c := Reg.consts a; generalize a.eval = ρ at *; simp [execOp, go_sem, c.1, c.2, d16]) rfl (hW.upd (by decide))
                · intro a w1 live S E D C h0 hk hW
                  have dg : a.eval (.tmp 34) = .bool false := D 12 rfl _ _ rfl rfl
                  have d17 : a.eval (.tmp 39) = .pointer (some ⟨(ad.add (i * 11)).block, (ad.add (i * 11)).off + 3, none⟩) := D 17 rfl _ _ rfl rfl
                  have l19 := Reg.not_live C h0 (j := 19) rfl rfl
                  have l20 := Reg.not_live C l19 (j := 20) rfl rfl
                  have l27 := Reg.not_live C l20 (j := 27) rfl rfl
                  have l29 := Reg.not_live C l27 (j := 29) rfl rfl
                  have hw := hW.off l29
                  subst hw
                  have hc0 := d3
                  exact Rgs.val rfl (Reg.wanted_if rfl rfl dg rfl) (.bool false) (by have c := Reg.consts a; generalize a.eval = ρ at *; simp [execOp, go_sem, c.1, c.2, d17, hc0]) rfl (hW.upd (by decide))
                · intro a w1 live S E D C h0 hk hW
                  have d12 : a.eval (.tmp 34) = .bool false := D 12 rfl _ _ rfl rfl
                  have d18 : a.eval (.tmp 40) = .bool false := D 18 rfl _ _ rfl rfl
                  exact Rgs.val rfl (Reg.wanted_free rfl) (.bool false) (by have c := Reg.consts a; generalize a.eval = ρ at *; simp [execOp, go_sem, c.1, c.2, d12, d18]) rfl (hW.upd (by decide))
                · intro a w1 live S E D C h0 hk hW
                  have d19 : a.eval (.tmp 41) = .bool false := D 19 rfl _ _ rfl rfl
                  exact Rgs.val rfl (Reg.wanted_free rfl) (.bool false) (by have c := Reg.consts a; generalize a.eval = ρ at *; simp [execOp, go_sem, c.1, c.2, d19]) rfl (hW.upd (by decide))
                · intro a w1 live S E D C h0 hk hW
                  have dg : a.eval (.tmp 42) = .bool false := D 20 rfl _ _ rfl rfl
                  have e1 : a.eval (.tmp 1) = .pointer (some ⟨gb, 0, none⟩) := E 1 rfl
                  exact Rgs.val rfl (Reg.wanted_if rfl rfl dg rfl) (.pointer (some ⟨gb, 0, none⟩)) (by have c := Reg.consts a; generalize a.eval = ρ at *; simp [execOp, go_sem, c.1, c.2, e1]) rfl (hW.upd (by decide))
                · intro a w1 live S E D C h0 hk hW
                  have dg : a.eval (.tmp 42) = .bool false := D 20 rfl _ _ rfl rfl
                  have d21 : a.eval (.tmp 43) = .pointer (some ⟨gb, 0, none⟩) := D 21 rfl _ _ rfl rfl
                  have l24 := Reg.not_live C h0 (j := 24) rfl rfl
                  have l25 := Reg.not_live C l24 (j := 25) rfl rfl
                  have l26 := Reg.not_live C l25 (j := 26) rfl rfl
                  have l27 := Reg.not_live C l26 (j := 27) rfl rfl
                  have l29 := Reg.not_live C l27 (j := 29) rfl rfl
                  have hw := hW.off l29
                  subst hw
                  have hc0 := b0
                  exact Rgs.val rfl (Reg.wanted_if rfl rfl dg rfl) (.slice (some ad) n1 c1) (by have c := Reg.consts a; generalize a.eval = ρ at *; simp [execOp, go_sem, c.1, c.2, d21, hc0]) rfl (hW.upd (by decide))
                · intro a w1 live S E D C h0 hk hW
                  have dg : a.eval (.tmp 42) = .bool false := D 20 rfl _ _ rfl rfl
                  have e4 : a.eval (.tmp 4) = .int .i64 (i : Int) := E 4 rfl
                  exact Rgs.val rfl (Reg.wanted_if rfl rfl dg rfl) (.int .i64 (i : Int)) (by have c := Reg.consts a; generalize a.eval = ρ at *; simp [execOp, go_sem, c.1, c.2, e4]) rfl (hW.upd (by decide))
                · intro a w1 live S E D C h0 hk hW
                  have dg : a.eval (.tmp 42) = .bool false := D 20 rfl _ _ rfl rfl
                  have d22 : a.eval (.tmp 44) = .slice (some ad) n1 c1 := D 22 rfl _ _ rfl rfl
                  have d23 : a.eval (.tmp 45) = .int .i64 (i : Int) := D 23 rfl _ _ rfl rfl
                  have i1 := HLT.out
                  obtain ⟨i1, i2, i3, i4⟩ := i1
                  exact Rgs.val rfl (Reg.wanted_if rfl rfl dg rfl) (.pointer (some (ad.add (i * 11)))) (by have c := Reg.consts a; generalize a.eval = ρ at *; simp [execOp, go_sem, c.1, c.2, d22, d23, i1, i2, i3, i4]) rfl (hW.upd (by decide))
                · intro a w1 live S E D C h0 hk hW
                  have dg : a.eval (.tmp 42) = .bool false := D 20 rfl _ _ rfl rfl
                  have d24 : a.eval (.tmp 46) = .pointer (some (ad.add (i * 11))) := D 24 rfl _ _ rfl rfl
                  exact Rgs.val rfl (Reg.wanted_if rfl rfl dg rfl) (.pointer (some ⟨(ad.add (i * 11)).block, (ad.add (i * 11)).off + 4, none⟩)) (by have c := Reg.consts a; generalize a.eval = ρ at *; simp [execOp, go_sem, c.1, c.2, d24]) rfl (hW.upd (by decide))
                · intro a w1 live S E D C h0 hk hW
                  have dg : a.eval (.tmp 42) = .bool false := D 20 rfl _ _ rfl rfl
                  have d25 : a.eval (.tmp 47) = .pointer (some ⟨(ad.add (i * 11)).block, (ad.add (i * 11)).off + 4, none⟩) := D 25 rfl _ _ rfl rfl
                  have l27 := Reg.not_live C h0 (j := 27) rfl rfl
                  have l29 := Reg.not_live C l27 (j := 29) rfl rfl
                  have hw := hW.off l29
                  subst hw
                  have hc0 := d4
                  exact Rgs.val rfl (Reg.wanted_if rfl rfl dg rfl) (.bool st) (by have c := Reg.consts a; generalize a.eval = ρ at *; simp [execOp, go_sem, c.1, c.2, d25, hc0]) rfl (hW.upd (by decide))
                · intro a w1 live S E D C h0 hk hW
                  have d20 : a.eval (.tmp 42) = .bool false := D 20 rfl _ _ rfl rfl
                  have d26 : a.eval (.tmp 48) = .bool st := D 26 rfl _ _ rfl rfl
                  exact Rgs.val rfl (Reg.wanted_free rfl) (.bool st) (by have c := Reg.consts a; generalize a.eval = ρ at *; simp [execOp, go_sem, c.1, c.2, d20, d26]) rfl (hW.upd (by decide))
                · intro a w1 live S E D C h0 hk hW
                  have d3 : a.eval (.tmp 25) = .slice (some ⟨y, 0, none⟩) n1 n1 := D 3 rfl _ _ rfl rfl
                  have d4 : a.eval (.tmp 26) = .int .i64 (j : Int) := D 4 rfl _ _ rfl rfl
                  have i1 := HLT.out
                  obtain ⟨i1, i2, i3, i4⟩ := i1
                  have ead := mk_add (y) (j)
                  exact Rgs.val rfl (Reg.wanted_free rfl) (.pointer (some ⟨y, j, none⟩)) (by have c := Reg.consts a; generalize a.eval = ρ at *; simp [execOp, go_sem, c.1, c.2, d3, d4, i1, i2, i3, i4, ead]) rfl (hW.upd (by decide))
                · intro a w1 live S E D C h0 hk hW
                  have d28 : a.eval (.tmp 50) = .pointer (some ⟨y, j, none⟩) := D 28 rfl _ _ rfl rfl
                  have d27 : a.eval (.tmp 49) = .bool st := D 27 rfl _ _ rfl rfl
                  have hw := hW.off h0
                  subst hw
                  have hc0 := f1
                  have hfz := f2
                  refine Rgs.store rfl (Reg.wanted_free rfl) _ (by have c := Reg.consts a; generalize a.eval = ρ at *; simp [execOp, go_sem, c.1, c.2, d28, d27, hc0, hfz]) rfl (Rgs.StW.put _ _ _ _ _) (fun j v _ h => h)
              · intro a w3 live hs hd E D' Hl hW
                rw [Rgs.act_ws a _ _ hs hd E [22, 23, 24, 25, 26, 27, 28, 29, 30, 31, 32, 33, 34, 35, 36, 37, 38, 39, 40, 41, 42, 43, 44, 45, 46, 47, 48, 49, 50] (by kernel_rfl)]
                simp only [List.foldl, List.setIfInBounds_toArray, List.set_cons_succ, List.set_cons_zero]
                have hw := Rgs.StW.on hW (Hl 29 (by decide))
                subst hw
                clear E D' Hl hW
                generalize a.eval = ρ
                clear a hs hd f0 f1 f2 b0 b1 b2 d3 d4 e3
                go_wp2_with fail
                go_roundw
                case rel => exact ⟨j + 1, by omega, by go_num, HST.out _ rfl⟩
                case measure => simp [intOf]; omega
        · have hjni : ¬ (j : Int) < (n1 : Int) := by omega
          obtain rfl : n1 = j := by omega
          have HM2 := Lib.hid (hM.congr fun a b _ hb => mQ_row hb)
          have HBX := Lib.hid hb
          clear hM hb
          go_wp2_with fail
          go_roundw
          case rel => exact ⟨i + 1, by omega, by go_num, HM2.out, HBX.out⟩
          case measure => simp [intOf]; omega
    · have hlti : ¬ (i : Int) < (n1 : Int) := by omega
      obtain rfl : n1 = i := by omega
      have HM := Lib.hid (hM.congr (m' := fun a b => mQ (fun a b => decide (a = b)) (rulQ P) n1 0 a b || sC n1 ((C.take 0).map chOf) a b) fun a b _ _ => by simp [sC])
      have HBB := Lib.hid hb
      obtain ⟨b0, b1, b2⟩ := (HBOX.out.below (HB.out ▸ hb) (HB.out ▸ (HBOX.out.lt))).three
      clear hM hb
      go_wp2_with fail
      clear b0 b1 b2
      go_loopw [7, 56] (fun _ s wx => ∃ k : Nat, k ≤ n2 ∧ s = .int .i64 k ∧ Mat wx B g n1 n1 G (fun a b => mQ (fun a b => decide (a = b)) (rulQ P) n1 0 a b || sC n1 ((C.take k).map chOf) a b) ∧ Below B W wx) (fun _ s _ => n2 - (intOf s).toNat)
      case atStart => exact ⟨0, by omega, rfl, HM.out, HBB.out⟩
      case round =>
        obtain ⟨k, hk, rfl, hM, hb⟩ := hrel
        clear HM HBB
        by_cases hkn : k < n2
        · have hkni : (k : Int) < (n2 : Int) := by omega
          obtain ⟨ad, x, rfl, had, hx, c0, ck⟩ := (HCF.out.c.below (HB.out ▸ hb)).at_ cc_len (by omega) hkn
          have d0 := c0 _ rfl
          have d1 := ck 1 _ (by omega) rfl
          have d2 := ck 2 _ (by omega) rfl
          have d3 := ck 3 _ (by omega) rfl
          have d4 := ck 4 _ (by omega) rfl
          have d5 := ck 5 _ (by omega) rfl
          have HOUT : Hid ((inP n1 (chOf x).from_ && inP n1 (chOf x).to_) = false → ∀ a b, (mQ (fun a b => decide (a = b)) (rulQ P) n1 0 a b || sC n1 ((C.take k).map chOf) a b) = (mQ (fun a b => decide (a = b)) (rulQ P) n1 0 a b || sC n1 ((C.take (k + 1)).map chOf) a b)) := Lib.hid fun h a b => sC_out hx h _ a b
          have HIN := Lib.hid fun (f t : Nat) (hf : (chOf x).from_ = (f : Int)) (ht : (chOf x).to_ = (t : Int)) (h1 : f < n1) (h2 : t < n1) => sC_in hx hf ht h1 h2 (mQ (fun a b => decide (a = b)) (rulQ P) n1 0)
          obtain ⟨xf, xt, xq, xc, xm, xl⟩ := x
          dsimp only [chOf] at d0 d1 d2 d3 d4 d5 HOUT HIN
          have hbx := bl1 wr (.cells #[.int .i64 xf, .int .i64 xt, .bool xq, .int .i64 xc, .int .u32 xm, .int .i64 xl] 36)
          have hB1 : B ≤ wr.heap.size := by have := hb.size; have := HB.out; omega
          have hb1 := hb.trans (hbx.mono hB1)
          have f0 : (wr.alloc (.cells #[.int .i64 xf, .int .i64 xt, .bool xq, .int .i64 xc, .int .u32 xm, .int .i64 xl] 36)).cell? ⟨wr.heap.size, 0, none⟩ = some (.int .i64 xf) := World.cell?_alloc_mark _ _ _ _ _
          have f1 : (wr.alloc (.cells #[.int .i64 xf, .int .i64 xt, .bool xq, .int .i64 xc, .int .u32 xm, .int .i64 xl] 36)).cell? ⟨wr.heap.size, 1, none⟩ = some (.int .i64 xt) := World.cell?_alloc_mark _ _ _ _ _
          have f2 : (wr.alloc (.cells #[.int .i64 xf, .int .i64 xt, .bool xq, .int .i64 xc, .int .u32 xm, .int .i64 xl] 36)).cell? ⟨wr.heap.size, 2, none⟩ = some (.bool xq) := World.cell?_alloc_mark _ _ _ _ _
          have hgx : wr.heap.size < (wr.alloc (.cells #[.int .i64 xf, .int .i64 xt, .bool xq, .int .i64 xc, .int .u32 xm, .int .i64 xl] 36)).heap.size := by simp
          have hne : g ≠ wr.heap.size ∧ ∀ i, i < n1 → G i ≠ wr.heap.size := by
            obtain ⟨f, hf, _⟩ := hM.outer
            have := hf.lt
            exact ⟨by omega, fun i hi => by have := (hM.rows i hi).lt; omega⟩
          have HM := Lib.hid (hM.on hbx)
          have HBB := Lib.hid hb1
          clear hM hb hx c0 ck hbx hb1 hB1
          go_upto_region 14 with fail
          generalize wr.alloc (.cells #[.int .i64 xf, .int .i64 xt, .bool xq, .int .i64 xc, .int .u32 xm, .int .i64 xl] 36) = W1 at HM HBB f0 f1 f2 hgx ⊢
          generalize wr.heap.size = gx at f0 f1 f2 hgx hne ⊢
          clear d0 d1 d2 d3 d4 d5
          obtain ⟨b0, b1, b2⟩ := (HBOX.out.below (HB.out ▸ HBB.out) (HB.out ▸ (HBOX.out.lt))).three
          go_wp2_with fail
          refine (in_any A1 (some ad) A3 n1 n2 n3 c1 c2 c3 xf W1).mono ?_
          rintro e w4 ⟨rfl, hb4⟩
          have HM4 := Lib.hid (HM.out.on hb4)
          have HB4 := Lib.hid (HBB.out.trans (hb4.mono (by have h1 := HBB.out.size; have h2 := HB.out; omega)))
          have f0 := (hb4.cell (p := ⟨gx, 0, none⟩) hgx).trans f0
          have f1 := (hb4.cell (p := ⟨gx, 1, none⟩) hgx).trans f1
          have f2 := (hb4.cell (p := ⟨gx, 2, none⟩) hgx).trans f2
          have hgx := Nat.lt_of_lt_of_le hgx hb4.size
          obtain ⟨b0, b1, b2⟩ := (HBOX.out.below (HB.out ▸ HB4.out) (HB.out ▸ (HBOX.out.lt))).three
          clear HM HBB hb4
          cases hif : inP n1 xf with
          | false =>
            rw [hif] at HOUT
            have HM5 := Lib.hid (HM4.out.congr fun a b _ _ => HOUT.out rfl a b)
            go_wp2_with fail
            go_roundw
            case rel => exact ⟨k + 1, by omega, by go_num, HM5.out, HB4.out⟩
            case measure => simp [intOf]; omega
          | true =>
            go_wp2_with fail
            refine (in_any A1 (some ad) A3 n1 n2 n3 c1 c2 c3 xt w4).mono ?_
            rintro e w5 ⟨rfl, hb5⟩
            have HM5 := Lib.hid (HM4.out.on hb5)
            have HB5 := Lib.hid (HB4.out.trans (hb5.mono (by have h1 := HB4.out.size; have h2 := HB.out; omega)))
            have f0 := (hb5.cell (p := ⟨gx, 0, none⟩) hgx).trans f0
            have f1 := (hb5.cell (p := ⟨gx, 1, none⟩) hgx).trans f1
            have f2 := (hb5.cell (p := ⟨gx, 2, none⟩) hgx).trans f2
            have hgx := Nat.lt_of_lt_of_le hgx hb5.size
            clear HM4 HB4 hb5 b0 b1 b2
            cases hit : inP n1 xt with
            | false =>
              rw [hif, hit] at HOUT
              have HM6 := Lib.hid (HM5.out.congr fun a b _ _ => HOUT.out rfl a b)
              go_wp2_with fail
              go_roundw
              case rel => exact ⟨k + 1, by omega, by go_num, HM6.out, HB5.out⟩
              case measure => simp [intOf]; omega
            | true =>
              rw [inP_iff] at hif hit
              obtain ⟨f, rfl⟩ : ∃ f : Nat, xf = f := ⟨xf.toNat, by omega⟩
              obtain ⟨t, rfl⟩ : ∃ t : Nat, xt = t := ⟨xt.toNat, by omega⟩
              have hfn : f < n1 := by omega
              have htn : t < n1 := by omega
              have hfi : (f : Int) < (n1 : Int) := by omega
              have hti : (t : Int) < (n1 : Int) := by omega
              have HIN := Lib.hid (HIN.out f t rfl rfl hfn htn)
              clear hif hit HOUT
              have HM5d := Lib.hid (HM5.out.on (w' := w5.drew) (Below.refl _ _).drew)
              obtain ⟨x, hx, hxg, hBx, hgl, hxl, e0, e1, e2, hst⟩ := HM5d.out.at_ (i := f) (j := t) hfn (Nat.le_refl _) htn
              obtain ⟨hM2, hB2⟩ := hst true
              have hxgx : x ≠ gx := by rw [← hx]; exact hne.2 f hfn
              have f12 : (w5.drew.setCell ⟨x, t, none⟩ (.bool true)).cell? ⟨gx, 0, none⟩ = some (.int .i64 (f : Int)) := by rw [World.cell?_setCell_other _ _ _ _ (fun e => by injection e with e; exact hxgx e)]; exact f0
              have f13 : (w5.drew.setCell ⟨x, t, none⟩ (.bool true)).cell? ⟨gx, 1, none⟩ = some (.int .i64 (t : Int)) := by rw [World.cell?_setCell_other _ _ _ _ (fun e => by injection e with e; exact hxgx e)]; exact f1
              have f14 : (w5.drew.setCell ⟨x, t, none⟩ (.bool true)).cell? ⟨gx, 2, none⟩ = some (.bool xq) := by rw [World.cell?_setCell_other _ _ _ _ (fun e => by injection e with e; exact hxgx e)]; exact f2
              have HM6 := Lib.hid hM2
              have HB6 := Lib.hid (hB2 _ HB5.out.drew)
              have HF12 := Lib.hid f12
              have HF13 := Lib.hid f13
              have HF14 := Lib.hid f14
              have HLT : Hid (f < n1 ∧ t < n1 ∧ (f : Int) < (n1 : Int) ∧ (t : Int) < (n1 : Int)) := Lib.hid ⟨hfn, htn, hfi, hti⟩
              clear hst hM2 hB2 hgl hxl hBx f2 f12 f13 f14
              generalize (mQ (fun a b => decide (a = b)) (rulQ P) n1 0 f t || sC n1 ((C.take k).map chOf) f t) = v1 at e1
              go_wp2_with fail
              have f0 : w5.drew.cell? ⟨gx, 0, none⟩ = some (.int .i64 (f : Int)) := f0
              have f1 : w5.drew.cell? ⟨gx, 1, none⟩ = some (.int .i64 (t : Int)) := f1
              refine Rgs.region (by kernel_rfl) (by kernel_rfl) (fun (opn : Nat) (vl : Value) (_ : World) => match opn with | 0 => vl = .slice (some ⟨g, 0, none⟩) n1 n1 | 1 => vl = .pointer (some ⟨gx, 0, none⟩) | 2 => vl = .int .i64 (f : Int) | 3 => vl = .pointer (some ⟨g, f, none⟩) | 4 => vl = .slice (some ⟨x, 0, none⟩) n1 n1 | 5 => vl = .pointer (some ⟨gx, 1, none⟩) | 6 => vl = .int .i64 (t : Int) | 7 => vl = .pointer (some ⟨x, t, none⟩) | 8 => vl = undef | _ => True) (fun live _ w' => Rgs.StW w5.drew 8 ⟨x, t, none⟩ (.bool true) live w') rfl (Rgs.steps_of ?_) ?_
              · refine ⟨?_, ?_, ?_, ?_, ?_, ?_, ?_, ?_, ?_, trivial⟩
                · intro a w1 live S E D C h0 hk hW
                  have e3 : a.eval (.tmp 3) = .slice (some ⟨g, 0, none⟩) n1 n1 := E 3 rfl
                  exact Rgs.val rfl (Reg.wanted_free rfl) (.slice (some ⟨g, 0, none⟩) n1 n1) (by have c := Reg.consts a; generalize a.eval = ρ at *; simp [execOp, go_sem, c.1, c.2, e3]) rfl (hW.upd (by decide))
                · intro a w1 live S E D C h0 hk hW
                  have e7 : a.eval (.tmp 7) = .pointer (some ⟨gx, 0, none⟩) := E 7 rfl
                  exact Rgs.val rfl (Reg.wanted_free rfl) (.pointer (some ⟨gx, 0, none⟩)) (by have c := Reg.consts a; generalize a.eval = ρ at *; simp [execOp, go_sem, c.1, c.2, e7]) rfl (hW.upd (by decide))
                · intro a w1 live S E D C h0 hk hW
                  have d1 : a.eval (.tmp 71) = .pointer (some ⟨gx, 0, none⟩) := D 1 rfl _ _ rfl rfl
                  have l3 := Reg.not_live C h0 (j := 3) rfl rfl
                  have l4 := Reg.not_live C l3 (j := 4) rfl rfl
                  have l7 := Reg.not_live C l4 (j := 7) rfl rfl
                  have l8 := Reg.not_live C l7 (j := 8) rfl rfl
                  have hw := hW.off l8
                  subst hw
                  have hc0 := f0
                  exact Rgs.val rfl (Reg.wanted_free rfl) (.int .i64 (f : Int)) (by have c := Reg.consts a; generalize a.eval = ρ at *; simp [execOp, go_sem, c.1, c.2, d1, hc0]) rfl (hW.upd (by decide))
                · intro a w1 live S E D C h0 hk hW
                  have d0 : a.eval (.tmp 70) = .slice (some ⟨g, 0, none⟩) n1 n1 := D 0 rfl _ _ rfl rfl
                  have d2 : a.eval (.tmp 72) = .int .i64 (f : Int) := D 2 rfl _ _ rfl rfl
                  have i1 := HLT.out
                  obtain ⟨i1, i2, i3, i4⟩ := i1
                  have ead := mk_add (g) (f)
                  exact Rgs.val rfl (Reg.wanted_free rfl) (.pointer (some ⟨g, f, none⟩)) (by have c := Reg.consts a; generalize a.eval = ρ at *; simp [execOp, go_sem, c.1, c.2, d0, d2, i1, i2, i3, i4, ead]) rfl (hW.upd (by decide))
                · intro a w1 live S E D C h0 hk hW
                  have d3 : a.eval (.tmp 73) = .pointer (some ⟨g, f, none⟩) := D 3 rfl _ _ rfl rfl
                  have l7 := Reg.not_live C h0 (j := 7) rfl rfl
                  have l8 := Reg.not_live C l7 (j := 8) rfl rfl
                  have hw := hW.off l8
                  subst hw
                  have hc0 := e0
                  exact Rgs.val rfl (Reg.wanted_free rfl) (.slice (some ⟨x, 0, none⟩) n1 n1) (by have c := Reg.consts a; generalize a.eval = ρ at *; simp [execOp, go_sem, c.1, c.2, d3, hc0]) rfl (hW.upd (by decide))
                · intro a w1 live S E D C h0 hk hW
                  have e7 : a.eval (.tmp 7) = .pointer (some ⟨gx, 0, none⟩) := E 7 rfl
                  exact Rgs.val rfl (Reg.wanted_free rfl) (.pointer (some ⟨gx, 1, none⟩)) (by have c := Reg.consts a; generalize a.eval = ρ at *; simp [execOp, go_sem, c.1, c.2, e7]) rfl (hW.upd (by decide))
                · intro a w1 live S E D C h0 hk hW
                  have d5 : a.eval (.tmp 75) = .pointer (some ⟨gx, 1, none⟩) := D 5 rfl _ _ rfl rfl
                  have l7 := Reg.not_live C h0 (j := 7) rfl rfl
                  have l8 := Reg.not_live C l7 (j := 8) rfl rfl
                  have hw := hW.off l8
                  subst hw
                  have hc0 := f1
                  exact Rgs.val rfl (Reg.wanted_free rfl) (.int .i64 (t : Int)) (by have c := Reg.consts a; generalize a.eval = ρ at *; simp [execOp, go_sem, c.1, c.2, d5, hc0]) rfl (hW.upd (by decide))
                · intro a w1 live S E D C h0 hk hW
                  have d4 : a.eval (.tmp 74) = .slice (some ⟨x, 0, none⟩) n1 n1 := D 4 rfl _ _ rfl rfl
                  have d6 : a.eval (.tmp 76) = .int .i64 (t : Int) := D 6 rfl _ _ rfl rfl
                  have i1 := HLT.out
                  obtain ⟨i1, i2, i3, i4⟩ := i1
                  have ead := mk_add (x) (t)
                  exact Rgs.val rfl (Reg.wanted_free rfl) (.pointer (some ⟨x, t, none⟩)) (by have c := Reg.consts a; generalize a.eval = ρ at *; simp [execOp, go_sem, c.1, c.2, d4, d6, i1, i2, i3, i4, ead]) rfl (hW.upd (by decide))
                · intro a w1 live S E D C h0 hk hW
                  have d7 : a.eval (.tmp 77) = .pointer (some ⟨x, t, none⟩) := D 7 rfl _ _ rfl rfl
                  have hw := hW.off h0
                  subst hw
                  have hc0 := e1
                  have hfz := e2
                  refine Rgs.store rfl (Reg.wanted_free rfl) _ (by have c := Reg.consts a; generalize a.eval = ρ at *; simp [execOp, go_sem, c.1, c.2, d7, hc0, hfz]) rfl (Rgs.StW.put _ _ _ _ _) (fun j v _ h => h)
              · intro a w3 live hs hd E D' Hl hW
                rw [Rgs.act_ws a _ _ hs hd E [70, 71, 72, 73, 74, 75, 76, 77] (by kernel_rfl)]
                simp only [List.foldl, List.setIfInBounds_toArray, List.set_cons_succ, List.set_cons_zero]
                have hw := Rgs.StW.on hW (Hl 8 (by decide))
                subst hw
                clear E D' Hl hW
                generalize a.eval = ρ
                clear a hs hd
                clear f0 f1
                generalize hW2 : w5.drew.setCell ⟨x, t, none⟩ (.bool true) = W2 at HM6 HB6 HF12 HF13 HF14 ⊢
                clear hW2
                clear e0 e1 e2
                go_upto_region 16 with fail
                have HM6d := HM6.out.on (w' := W2.drew) (Below.refl _ _).drew
                obtain ⟨y, hy, hyg, hBy, hgl, hyl, k0, k1, k2, hst⟩ := HM6d.at_ (i := t) (j := f) htn (Nat.le_refl _) hfn
                have f0 : W2.drew.cell? ⟨gx, 0, none⟩ = some (.int .i64 (f : Int)) := HF12.out
                have f1 : W2.drew.cell? ⟨gx, 1, none⟩ = some (.int .i64 (t : Int)) := HF13.out
                have f2 : W2.drew.cell? ⟨gx, 2, none⟩ = some (.bool xq) := HF14.out
                obtain ⟨v2, hv2⟩ : ∃ v2, v2 = put2 (fun a b => mQ (fun a b => decide (a = b)) (rulQ P) n1 0 a b || sC n1 ((C.take k).map chOf) a b) f t true t f := ⟨_, rfl⟩
                rw [← hv2] at k1
                have HST : Hid (∀ V, V = (v2 || xq) → Mat (W2.drew.setCell ⟨y, f, none⟩ (.bool V)) B g n1 n1 G (fun a b => mQ (fun a b => decide (a = b)) (rulQ P) n1 0 a b || sC n1 ((C.take (k + 1)).map chOf) a b) ∧ Below B W (W2.drew.setCell ⟨y, f, none⟩ (.bool V))) := Lib.hid fun V hV => by
                  obtain ⟨s1, s2⟩ := hst V
                  refine ⟨s1.congr fun a b _ _ => ?_, s2 _ HB6.out.drew⟩
                  rw [hV, hv2]
                  exact HIN.out a b
                clear hst hgl hyl hBy HF12 HF13 HF14 HM6 HM6d HB6 hv2
                cases v2 with
                | true =>
                  refine Rgs.region (by kernel_rfl) (by kernel_rfl) (fun (opn : Nat) (vl : Value) (_ : World) => match opn with | 0 => vl = .slice (some ⟨g, 0, none⟩) n1 n1 | 1 => vl = .pointer (some ⟨gx, 1, none⟩) | 2 => vl = .int .i64 (t : Int) | 3 => vl = .pointer (some ⟨g, t, none⟩) | 4 => vl = .slice (some ⟨y, 0, none⟩) n1 n1 | 5 => vl = .pointer (some ⟨gx, 0, none⟩) | 6 => vl = .int .i64 (f : Int) | 7 => vl = .slice (some ⟨g, 0, none⟩) n1 n1 | 8 => vl = .pointer (some ⟨gx, 1, none⟩) | 9 => vl = .int .i64 (t : Int) | 10 => vl = .pointer (some ⟨g, t, none⟩) | 11 => vl = .slice (some ⟨y, 0, none⟩) n1 n1 | 12 => vl = .pointer (some ⟨gx, 0, none⟩) | 13 => vl = .int .i64 (f : Int) | 14 => vl = .pointer (some ⟨y, f, none⟩) | 15 => vl = .bool true | 16 => vl = .bool true | 17 => vl = undef | 18 => vl = undef | 19 => vl = .bool true | 20 => vl = .pointer (some ⟨y, f, none⟩) | 21 => vl = undef | _ => True) (fun live _ w' => Rgs.StW W2.drew 21 ⟨y, f, none⟩ (.bool true) live w') rfl (Rgs.steps_of ?_) ?_
                  · refine ⟨?_, ?_, ?_, ?_, ?_, ?_, ?_, ?_, ?_, ?_, ?_, ?_, ?_, ?_, ?_, ?_, ?_, ?_, ?_, ?_, ?_, ?_, trivial⟩
                    · intro a w1 live S E D C h0 hk hW
                      have e3 : a.eval (.tmp 3) = .slice (some ⟨g, 0, none⟩) n1 n1 := E 3 rfl
                      exact Rgs.val rfl (Reg.wanted_free rfl) (.slice (some ⟨g, 0, none⟩) n1 n1) (by have c := Reg.consts a; generalize a.eval = ρ at *; simp [execOp, go_sem, c.1, c.2, e3]) rfl (hW.upd (by decide))
                    · intro a w1 live S E D C h0 hk hW
                      have e7 : a.eval (.tmp 7) = .pointer (some ⟨gx, 0, none⟩) := E 7 rfl
                      exact Rgs.val rfl (Reg.wanted_free rfl) (.pointer (some ⟨gx, 1, none⟩)) (by have c := Reg.consts a; generalize a.eval = ρ at *; simp [execOp, go_sem, c.1, c.2, e7]) rfl (hW.upd (by decide))
                    · intro a w1 live S E D C h0 hk hW
                      have d1 : a.eval (.tmp 79) = .pointer (some ⟨gx, 1, none⟩) := D 1 rfl _ _ rfl rfl
                      have l3 := Reg.not_live C h0 (j := 3) rfl rfl
                      have l4 := Reg.not_live C l3 (j := 4) rfl rfl
                      have l20 := Reg.not_live C l4 (j := 20) rfl rfl
                      have l21 := Reg.not_live C l20 (j := 21) rfl rfl
                      have hw := hW.off l21
                      subst hw
                      have hc0 := f1
                      exact Rgs.val rfl (Reg.wanted_free rfl) (.int .i64 (t : Int)) (by have c := Reg.consts a; generalize a.eval = ρ at *; simp [execOp, go_sem, c.1, c.2, d1, hc0]) rfl (hW.upd (by decide))
                    · intro a w1 live S E D C h0 hk hW
                      have d0 : a.eval (.tmp 78) = .slice (some ⟨g, 0, none⟩) n1 n1 := D 0 rfl _ _ rfl rfl
                      have d2 : a.eval (.tmp 80) = .int .i64 (t : Int) := D 2 rfl _ _ rfl rfl
                      have i1 := HLT.out
                      obtain ⟨i1, i2, i3, i4⟩ := i1
                      have ead := mk_add (g) (t)
                      exact Rgs.val rfl (Reg.wanted_free rfl) (.pointer (some ⟨g, t, none⟩)) (by have c := Reg.consts a; generalize a.eval = ρ at *; simp [execOp, go_sem, c.1, c.2, d0, d2, i1, i2, i3, i4, ead]) rfl (hW.upd (by decide))
                    · intro a w1 live S E D C h0 hk hW
                      have d3 : a.eval (.tmp 81) = .pointer (some ⟨g, t, none⟩) := D 3 rfl _ _ rfl rfl
                      have l20 := Reg.not_live C h0 (j := 20) rfl rfl
                      have l21 := Reg.not_live C l20 (j := 21) rfl rfl
                      have hw := hW.off l21
                      subst hw
                      have hc0 := k0
                      exact Rgs.val rfl (Reg.wanted_free rfl) (.slice (some ⟨y, 0, none⟩) n1 n1) (by have c := Reg.consts a; generalize a.eval = ρ at *; simp [execOp, go_sem, c.1, c.2, d3, hc0]) rfl (hW.upd (by decide))
                    · intro a w1 live S E D C h0 hk hW
                      have e7 : a.eval (.tmp 7) = .pointer (some ⟨gx, 0, none⟩) := E 7 rfl
                      exact Rgs.val rfl (Reg.wanted_free rfl) (.pointer (some ⟨gx, 0, none⟩)) (by have c := Reg.consts a; generalize a.eval = ρ at *; simp [execOp, go_sem, c.1, c.2, e7]) rfl (hW.upd (by decide))
                    · intro a w1 live S E D C h0 hk hW
                      have d5 : a.eval (.tmp 83) = .pointer (some ⟨gx, 0, none⟩) := D 5 rfl _ _ rfl rfl
                      have l20 := Reg.not_live C h0 (j := 20) rfl rfl
                      have l21 := Reg.not_live C l20 (j := 21) rfl rfl
                      have hw := hW.off l21
                      subst hw
                      have hc0 := f0
                      exact Rgs.val rfl (Reg.wanted_free rfl) (.int .i64 (f : Int)) (by have c := Reg.consts a; generalize a.eval = ρ at *; simp [execOp, go_sem, c.1, c.2, d5, hc0]) rfl (hW.upd (by decide))
                    · intro a w1 live S E D C h0 hk hW
                      have e3 : a.eval (.tmp 3) = .slice (some ⟨g, 0, none⟩) n1 n1 := E 3 rfl
                      exact Rgs.val rfl (Reg.wanted_free rfl) (.slice (some ⟨g, 0, none⟩) n1 n1) (by have c := Reg.consts a; generalize a.eval = ρ at *; simp [execOp, go_sem, c.1, c.2, e3]) rfl (hW.upd (by decide))
                    · intro a w1 live S E D C h0 hk hW
                      have e7 : a.eval (.tmp 7) = .pointer (some ⟨gx, 0, none⟩) := E 7 rfl
                      exact Rgs.val rfl (Reg.wanted_free rfl) (.pointer (some ⟨gx, 1, none⟩)) (by have c := Reg.consts a; generalize a.eval = ρ at *; simp [execOp, go_sem, c.1, c.2, e7]) rfl (hW.upd (by decide))
                    · intro a w1 live S E D C h0 hk hW
                      have d8 : a.eval (.tmp 86) = .pointer (some ⟨gx, 1, none⟩) := D 8 rfl _ _ rfl rfl
                      have l10 := Reg.not_live C h0 (j := 10) rfl rfl
                      have l11 := Reg.not_live C l10 (j := 11) rfl rfl
                      have l14 := Reg.not_live C l11 (j := 14) rfl rfl
                      have l15 := Reg.not_live C l14 (j := 15) rfl rfl
                      have l16 := Reg.not_live C l15 (j := 16) rfl rfl
                      have l19 := Reg.not_live C l16 (j := 19) rfl rfl
                      have l21 := Reg.not_live C l19 (j := 21) rfl rfl
                      have hw := hW.off l21
                      subst hw
                      have hc0 := f1
                      exact Rgs.val rfl (Reg.wanted_free rfl) (.int .i64 (t : Int)) (by have c := Reg.consts a; generalize a.eval = ρ at *; simp [execOp, go_sem, c.1, c.2, d8, hc0]) rfl (hW.upd (by decide))
                    · intro a w1 live S E D C h0 hk hW
                      have d7 : a.eval (.tmp 85) = .slice (some ⟨g, 0, none⟩) n1 n1 := D 7 rfl _ _ rfl rfl
                      have d9 : a.eval (.tmp 87) = .int .i64 (t : Int) := D 9 rfl _ _ rfl rfl
                      have i1 := HLT.out
                      obtain ⟨i1, i2, i3, i4⟩ := i1
                      have ead := mk_add (g) (t)
                      exact Rgs.val rfl (Reg.wanted_free rfl) (.pointer (some ⟨g, t, none⟩)) (by have c := Reg.consts a; generalize a.eval = ρ at *; simp [execOp, go_sem, c.1, c.2, d7, d9, i1, i2, i3, i4, ead]) rfl (hW.upd (by decide))
                    · intro a w1 live S E D C h0 hk hW
                      have d10 : a.eval (.tmp 88) = .pointer (some ⟨g, t, none⟩) := D 10 rfl _ _ rfl rfl
                      have l14 := Reg.not_live C h0 (j := 14) rfl rfl
                      have l15 := Reg.not_live C l14 (j := 15) rfl rfl
                      have l16 := Reg.not_live C l15 (j := 16) rfl rfl
                      have l19 := Reg.not_live C l16 (j := 19) rfl rfl
                      have l21 := Reg.not_live C l19 (j := 21) rfl rfl
                      have hw := hW.off l21
                      subst hw
                      have hc0 := k0
                      exact Rgs.val rfl (Reg.wanted_free rfl) (.slice (some ⟨y, 0, none⟩) n1 n1) (by have c := Reg.consts a; generalize a.eval = ρ at *; simp [execOp, go_sem, c.1, c.2, d10, hc0]) rfl (hW.upd (by decide))
                    · intro a w1 live S E D C h0 hk hW
                      have e7 : a.eval (.tmp 7) = .pointer (some ⟨gx, 0, none⟩) := E 7 rfl
                      exact Rgs.val rfl (Reg.wanted_free rfl) (.pointer (some ⟨gx, 0, none⟩)) (by have c := Reg.consts a; generalize a.eval = ρ at *; simp [execOp, go_sem, c.1, c.2, e7]) rfl (hW.upd (by decide))
                    · intro a w1 live S E D C h0 hk hW
                      have d12 : a.eval (.tmp 90) = .pointer (some ⟨gx, 0, none⟩) := D 12 rfl _ _ rfl rfl
                      have l14 := Reg.not_live C h0 (j := 14) rfl rfl
                      have l15 := Reg.not_live C l14 (j := 15) rfl rfl
                      have l16 := Reg.not_live C l15 (j := 16) rfl rfl
                      have l19 := Reg.not_live C l16 (j := 19) rfl rfl
                      have l21 := Reg.not_live C l19 (j := 21) rfl rfl
                      have hw := hW.off l21
                      subst hw
                      have hc0 := f0
                      exact Rgs.val rfl (Reg.wanted_free rfl) (.int .i64 (f : Int)) (by have c := Reg.consts a; generalize a.eval = ρ at *; simp [execOp, go_sem, c.1, c.2, d12, hc0]) rfl (hW.upd (by decide))
                    · intro a w1 live S E D C h0 hk hW
                      have d11 : a.eval (.tmp 89) = .slice (some ⟨y, 0, none⟩) n1 n1 := D 11 rfl _ _ rfl rfl
                      have d13 : a.eval (.tmp 91) = .int .i64 (f : Int) := D 13 rfl _ _ rfl rfl
                      have i1 := HLT.out
                      obtain ⟨i1, i2, i3, i4⟩ := i1
                      have ead := mk_add (y) (f)
                      exact Rgs.val rfl (Reg.wanted_free rfl) (.pointer (some ⟨y, f, none⟩)) (by have c := Reg.consts a; generalize a.eval = ρ at *; simp [execOp, go_sem, c.1, c.2, d11, d13, i1, i2, i3, i4, ead]) rfl (hW.upd (by decide))
                    · intro a w1 live S E D C h0 hk hW
                      have d14 : a.eval (.tmp 92) = .pointer (some ⟨y, f, none⟩) := D 14 rfl _ _ rfl rfl
                      have l16 := Reg.not_live C h0 (j := 16) rfl rfl
                      have l19 := Reg.not_live C l16 (j := 19) rfl rfl
                      have l21 := Reg.not_live C l19 (j := 21) rfl rfl
                      have hw := hW.off l21
                      subst hw
                      have hc0 := k1
                      exact Rgs.val rfl (Reg.wanted_free rfl) (.bool true) (by have c := Reg.consts a; generalize a.eval = ρ at *; simp [execOp, go_sem, c.1, c.2, d14, hc0]) rfl (hW.upd (by decide))
                    · intro a w1 live S E D C h0 hk hW
                      have d15 : a.eval (.tmp 93) = .bool true := D 15 rfl _ _ rfl rfl
                      exact Rgs.val rfl (Reg.wanted_free rfl) (.bool true) (by have c := Reg.consts a; generalize a.eval = ρ at *; simp [execOp, go_sem, c.1, c.2, d15]) rfl (hW.upd (by decide))
                    · intro a w1 live S E D C h0 hk hW
                      have dg : a.eval (.tmp 94) = .bool true := D 16 rfl _ _ rfl rfl
                      exact Rgs.skip rfl (Rgs.wanted_not rfl rfl dg rfl) rfl (hW.upd (by decide))
                    · intro a w1 live S E D C h0 hk hW
                      have dg : a.eval (.tmp 94) = .bool true := D 16 rfl _ _ rfl rfl
                      exact Rgs.skip rfl (Rgs.wanted_not rfl rfl dg rfl) rfl (hW.upd (by decide))
                    · intro a w1 live S E D C h0 hk hW
                      have d16 : a.eval (.tmp 94) = .bool true := D 16 rfl _ _ rfl rfl
                      exact Rgs.val rfl (Reg.wanted_free rfl) (.bool true) (by have c := Reg.consts a; generalize a.eval = ρ at *; simp [execOp, go_sem, c.1, c.2, d16]) rfl (hW.upd (by decide))
                    · intro a w1 live S E D C h0 hk hW
                      have d4 : a.eval (.tmp 82) = .slice (some ⟨y, 0, none⟩) n1 n1 := D 4 rfl _ _ rfl rfl
                      have d6 : a.eval (.tmp 84) = .int .i64 (f : Int) := D 6 rfl _ _ rfl rfl
                      have i1 := HLT.out
                      obtain ⟨i1, i2, i3, i4⟩ := i1
                      have ead := mk_add (y) (f)
                      exact Rgs.val rfl (Reg.wanted_free rfl) (.pointer (some ⟨y, f, none⟩)) (by have c := Reg.consts a; generalize a.eval = ρ at *; simp [execOp, go_sem, c.1, c.2, d4, d6, i1, i2, i3, i4, ead]) rfl (hW.upd (by decide))
                    · intro a w1 live S E D C h0 hk hW
                      have d20 : a.eval (.tmp 98) = .pointer (some ⟨y, f, none⟩) := D 20 rfl _ _ rfl rfl
                      have d19 : a.eval (.tmp 97) = .bool true := D 19 rfl _ _ rfl rfl
                      have hw := hW.off h0
                      subst hw
                      have hc0 := k1
                      have hfz := k2
                      refine Rgs.store rfl (Reg.wanted_free rfl) _ (by have c := Reg.consts a; generalize a.eval = ρ at *; simp [execOp, go_sem, c.1, c.2, d20, d19, hc0, hfz]) rfl (Rgs.StW.put _ _ _ _ _) (fun j v _ h => h)
                  · intro a w3 live hs hd E D' Hl hW
                    rw [Rgs.act_ws a _ _ hs hd E [78, 79, 80, 81, 82, 83, 84, 85, 86, 87, 88, 89, 90, 91, 92, 93, 94, 95, 96, 97, 98] (by kernel_rfl)]
                    simp only [List.foldl, List.setIfInBounds_toArray, List.set_cons_succ, List.set_cons_zero]
                    have hw := Rgs.StW.on hW (Hl 21 (by decide))
                    subst hw
                    clear E D' Hl hW
                    generalize a.eval = ρ
                    clear a hs hd
                    clear f0 f1 f2 k0 k1 k2
                    go_wp2_with fail
                    go_roundw
                    case rel => exact ⟨k + 1, by omega, by go_num, HST.out _ (by simp)⟩
                    case measure => simp [intOf]; omega
                | false =>
                  refine Rgs.region (by kernel_rfl) (by kernel_rfl) (fun (opn : Nat) (vl : Value) (_ : World) => match opn with | 0 => vl = .slice (some ⟨g, 0, none⟩) n1 n1 | 1 => vl = .pointer (some ⟨gx, 1, none⟩) | 2 => vl = .int .i64 (t : Int) | 3 => vl = .pointer (some ⟨g, t, none⟩) | 4 => vl = .slice (some ⟨y, 0, none⟩) n1 n1 | 5 => vl = .pointer (some ⟨gx, 0, none⟩) | 6 => vl = .int .i64 (f : Int) | 7 => vl = .slice (some ⟨g, 0, none⟩) n1 n1 | 8 => vl = .pointer (some ⟨gx, 1, none⟩) | 9 => vl = .int .i64 (t : Int) | 10 => vl = .pointer (some ⟨g, t, none⟩) | 11 => vl = .slice (some ⟨y, 0, none⟩) n1 n1 | 12 => vl = .pointer (some ⟨gx, 0, none⟩) | 13 => vl = .int .i64 (f : Int) | 14 => vl = .pointer (some ⟨y, f, none⟩) | 15 => vl = .bool false | 16 => vl = .bool false | 17 => vl = .pointer (some ⟨gx, 2, none⟩) | 18 => vl = .bool xq | 19 => vl = .bool xq | 20 => vl = .pointer (some ⟨y, f, none⟩) | 21 => vl = undef | _ => True) (fun live _ w' => Rgs.StW W2.drew 21 ⟨y, f, none⟩ (.bool xq) live w') rfl (Rgs.steps_of ?_) ?_
                  · refine ⟨?_, ?_, ?_, ?_, ?_, ?_, ?_, ?_, ?_, ?_, ?_, ?_, ?_, ?_, ?_, ?_, ?_, ?_, ?_, ?_, ?_, ?_, trivial⟩
                    · intro a w1 live S E D C h0 hk hW
                      have e3 : a.eval (.tmp 3) = .slice (some ⟨g, 0, none⟩) n1 n1 := E 3 rfl
                      exact Rgs.val rfl (Reg.wanted_free rfl) (.slice (some ⟨g, 0, none⟩) n1 n1) (by have c := Reg.consts a; generalize a.eval = ρ at *; simp [execOp, go_sem, c.1, c.2, e3]) rfl (hW.upd (by decide))
                    · intro a w1 live S E D C h0 hk hW
                      have e7 : a.eval (.tmp 7) = .pointer (some ⟨gx, 0, none⟩) := E 7 rfl
                      exact Rgs.val rfl (Reg.wanted_free rfl) (.pointer (some ⟨gx, 1, none⟩)) (by have c := Reg.consts a; generalize a.eval = ρ at *; simp [execOp, go_sem, c.1, c.2, e7]) rfl (hW.upd (by decide))
                    · intro a w1 live S E D C h0 hk hW
                      have d1 : a.eval (.tmp 79) = .pointer (some ⟨gx, 1, none⟩) := D 1 rfl _ _ rfl rfl
                      have l3 := Reg.not_live C h0 (j := 3) rfl rfl
                      have l4 := Reg.not_live C l3 (j := 4) rfl rfl
                      have l20 := Reg.not_live C l4 (j := 20) rfl rfl
                      have l21 := Reg.not_live C l20 (j := 21) rfl rfl
                      have hw := hW.off l21
                      subst hw
                      have hc0 := f1
                      exact Rgs.val rfl (Reg.wanted_free rfl) (.int .i64 (t : Int)) (by have c := Reg.consts a; generalize a.eval = ρ at *; simp [execOp, go_sem, c.1, c.2, d1, hc0]) rfl (hW.upd (by decide))
                    · intro a w1 live S E D C h0 hk hW
                      have d0 : a.eval (.tmp 78) = .slice (some ⟨g, 0, none⟩) n1 n1 := D 0 rfl _ _ rfl rfl
                      have d2 : a.eval (.tmp 80) = .int .i64 (t : Int) := D 2 rfl _ _ rfl rfl
                      have i1 := HLT.out
                      obtain ⟨i1, i2, i3, i4⟩ := i1
                      have ead := mk_add (g) (t)
                      exact Rgs.val rfl (Reg.wanted_free rfl) (.pointer (some ⟨g, t, none⟩)) (by have c := Reg.consts a; generalize a.eval = ρ at *; simp [execOp, go_sem, c.1, c.2, d0, d2, i1, i2, i3, i4, ead]) rfl (hW.upd (by decide))
                    · intro a w1 live S E D C h0 hk hW
                      have d3 : a.eval (.tmp 81) = .pointer (some ⟨g, t, none⟩) := D 3 rfl _ _ rfl rfl
                      have l20 := Reg.not_live C h0 (j := 20) rfl rfl
                      have l21 := Reg.not_live C l20 (j := 21) rfl rfl
                      have hw := hW.off l21
                      subst hw
                      have hc0 := k0
                      exact Rgs.val rfl (Reg.wanted_free rfl) (.slice (some ⟨y, 0, none⟩) n1 n1) (by have c := Reg.consts a; generalize a.eval = ρ at *; simp [execOp, go_sem, c.1, c.2, d3, hc0]) rfl (hW.upd (by decide))
                    · intro a w1 live S E D C h0 hk hW
                      have e7 : a.eval (.tmp 7) = .pointer (some ⟨gx, 0, none⟩) := E 7 rfl
                      exact Rgs.val rfl (Reg.wanted_free rfl) (.pointer (some ⟨gx, 0, none⟩)) (by have c := Reg.consts a; generalize a.eval = ρ at *; simp [execOp, go_sem, c.1, c.2, e7]) rfl (hW.upd (by decide))
                    · intro a w1 live S E D C h0 hk hW
                      have d5 : a.eval (.tmp 83) = .pointer (some ⟨gx, 0, none⟩) := D 5 rfl _ _ rfl rfl
                      have l20 := Reg.not_live C h0 (j := 20) rfl rfl
                      have l21 := Reg.not_live C l20 (j := 21) rfl rfl
                      have hw := hW.off l21
                      subst hw
                      have hc0 := f0
                      exact Rgs.val rfl (Reg.wanted_free rfl) (.int .i64 (f : Int)) (by have c := Reg.consts a; generalize a.eval = ρ at *; simp [execOp, go_sem, c.1, c.2, d5, hc0]) rfl (hW.upd (by decide))
                    · intro a w1 live S E D C h0 hk hW
                      have e3 : a.eval (.tmp 3) = .slice (some ⟨g, 0, none⟩) n1 n1 := E 3 rfl
                      exact Rgs.val rfl (Reg.wanted_free rfl) (.slice (some ⟨g, 0, none⟩) n1 n1) (by have c := Reg.consts a; generalize a.eval = ρ at *; simp [execOp, go_sem, c.1, c.2, e3]) rfl (hW.upd (by decide))
                    · intro a w1 live S E D C h0 hk hW
                      have e7 : a.eval (.tmp 7) = .pointer (some ⟨gx, 0, none⟩) := E 7 rfl
                      exact Rgs.val rfl (Reg.wanted_free rfl) (.pointer (some ⟨gx, 1, none⟩)) (by have c := Reg.consts a; generalize a.eval = ρ at *; simp [execOp, go_sem, c.1, c.2, e7]) rfl (hW.upd (by decide))
                    · intro a w1 live S E D C h0 hk hW
                      have d8 : a.eval (.tmp 86) = .pointer (some ⟨gx, 1, none⟩) := D 8 rfl _ _ rfl rfl
                      have l10 := Reg.not_live C h0 (j := 10) rfl rfl
                      have l11 := Reg.not_live C l10 (j := 11) rfl rfl
                      have l14 := Reg.not_live C l11 (j := 14) rfl rfl
                      have l15 := Reg.not_live C l14 (j := 15) rfl rfl
                      have l16 := Reg.not_live C l15 (j := 16) rfl rfl
                      have l19 := Reg.not_live C l16 (j := 19) rfl rfl
                      have l21 := Reg.not_live C l19 (j := 21) rfl rfl
                      have hw := hW.off l21
                      subst hw
                      have hc0 := f1
                      exact Rgs.val rfl (Reg.wanted_free rfl) (.int .i64 (t : Int)) (by have c := Reg.consts a; generalize a.eval = ρ at *; simp [execOp, go_sem, c.1, c.2, d8, hc0]) rfl (hW.upd (by decide))
                    · intro a w1 live S E D C h0 hk hW
                      have d7 : a.eval (.tmp 85) = .slice (some ⟨g, 0, none⟩) n1 n1 := D 7 rfl _ _ rfl rfl
                      have d9 : a.eval (.tmp 87) = .int .i64 (t : Int) := D 9 rfl _ _ rfl rfl
                      have i1 := HLT.out
                      obtain ⟨i1, i2, i3, i4⟩ := i1
                      have ead := mk_add (g) (t)
                      exact Rgs.val rfl (Reg.wanted_free rfl) (.pointer (some ⟨g, t, none⟩)) (by have c := Reg.consts a; generalize a.eval = ρ at *; simp [execOp, go_sem, c.1, c.2, d7, d9, i1, i2, i3, i4, ead]) rfl (hW.upd (by decide))
                    · intro a w1 live S E D C h0 hk hW
                      have d10 : a.eval (.tmp 88) = .pointer (some ⟨g, t, none⟩) := D 10 rfl _ _ rfl rfl
                      have l14 := Reg.not_live C h0 (j := 14) rfl rfl
                      have l15 := Reg.not_live C l14 (j := 15) rfl rfl
                      have l16 := Reg.not_live C l15 (j := 16) rfl rfl
                      have l19 := Reg.not_live C l16 (j := 19) rfl rfl
                      have l21 := Reg.not_live C l19 (j := 21) rfl rfl
                      have hw := hW.off l21
                      subst hw
                      have hc0 := k0
                      exact Rgs.val rfl (Reg.wanted_free rfl) (.slice (some ⟨y, 0, none⟩) n1 n1) (by have c := Reg.consts a; generalize a.eval = ρ at *; simp [execOp, go_sem, c.1, c.2, d10, hc0]) rfl (hW.upd (by decide))
                    · intro a w1 live S E D C h0 hk hW
                      have e7 : a.eval (.tmp 7) = .pointer (some ⟨gx, 0, none⟩) := E 7 rfl
                      exact Rgs.val rfl (Reg.wanted_free rfl) (.pointer (some ⟨gx, 0, none⟩)) (by have c := Reg.consts a; generalize a.eval = ρ at *; simp [execOp, go_sem, c.1, c.2, e7]) rfl (hW.upd (by decide))
                    · intro a w1 live S E D C h0 hk hW
                      have d12 : a.eval (.tmp 90) = .pointer (some ⟨gx, 0, none⟩) := D 12 rfl _ _ rfl rfl
                      have l14 := Reg.not_live C h0 (j := 14) rfl rfl
                      have l15 := Reg.not_live C l14 (j := 15) rfl rfl
                      have l16 := Reg.not_live C l15 (j := 16) rfl rfl
                      have l19 := Reg.not_live C l16 (j := 19) rfl rfl
                      have l21 := Reg.not_live C l19 (j := 21) rfl rfl
                      have hw := hW.off l21
                      subst hw
                      have hc0 := f0
                      exact Rgs.val rfl (Reg.wanted_free rfl) (.int .i64 (f : Int)) (by have c := Reg.consts a; generalize a.eval = ρ at *; simp [execOp, go_sem, c.1, c.2, d12, hc0]) rfl (hW.upd (by decide))
                    · intro a w1 live S E D C h0 hk hW
                      have d11 : a.eval (.tmp 89) = .slice (some ⟨y, 0, none⟩) n1 n1 := D 11 rfl _ _ rfl rfl
                      have d13 : a.eval (.tmp 91) = .int .i64 (f : Int) := D 13 rfl _ _ rfl rfl
                      have i1 := HLT.out
                      obtain ⟨i1, i2, i3, i4⟩ := i1
                      have ead := mk_add (y) (f)
                      exact Rgs.val rfl (Reg.wanted_free rfl) (.pointer (some ⟨y, f, none⟩)) (by have c := Reg.consts a; generalize a.eval = ρ at *; simp [execOp, go_sem, c.1, c.2, d11, d13, i1, i2, i3, i4, ead]) rfl (hW.upd (by decide))
                    · intro a w1 live S E D C h0 hk hW
                      have d14 : a.eval (.tmp 92) = .pointer (some ⟨y, f, none⟩) := D 14 rfl _ _ rfl rfl
                      have l16 := Reg.not_live C h0 (j := 16) rfl rfl
                      have l19 := Reg.not_live C l16 (j := 19) rfl rfl
                      have l21 := Reg.not_live C l19 (j := 21) rfl rfl
                      have hw := hW.off l21
                      subst hw
                      have hc0 := k1
                      exact Rgs.val rfl (Reg.wanted_free rfl) (.bool false) (by have c := Reg.consts a; generalize a.eval = ρ at *; simp [execOp, go_sem, c.1, c.2, d14, hc0]) rfl (hW.upd (by decide))
                    · intro a w1 live S E D C h0 hk hW
                      have d15 : a.eval (.tmp 93) = .bool false := D 15 rfl _ _ rfl rfl
                      exact Rgs.val rfl (Reg.wanted_free rfl) (.bool false) (by have c := Reg.consts a; generalize a.eval = ρ at *; simp [execOp, go_sem, c.1, c.2, d15]) rfl (hW.upd (by decide))
                    · intro a w1 live S E D C h0 hk hW
                      have dg : a.eval (.tmp 94) = .bool false := D 16 rfl _ _ rfl rfl
                      have e7 : a.eval (.tmp 7) = .pointer (some ⟨gx, 0, none⟩) := E 7 rfl
                      exact Rgs.val rfl (Reg.wanted_if rfl rfl dg rfl) (.pointer (some ⟨gx, 2, none⟩)) (by have c := Reg.consts a; generalize a.eval = ρ at *; simp [execOp, go_sem, c.1, c.2, e7]) rfl (hW.upd (by decide))
                    · intro a w1 live S E D C h0 hk hW
                      have dg : a.eval (.tmp 94) = .bool false := D 16 rfl _ _ rfl rfl
                      have d17 : a.eval (.tmp 95) = .pointer (some ⟨gx, 2, none⟩) := D 17 rfl _ _ rfl rfl
                      have l19 := Reg.not_live C h0 (j := 19) rfl rfl
                      have l21 := Reg.not_live C l19 (j := 21) rfl rfl
                      have hw := hW.off l21
                      subst hw
                      have hc0 := f2
                      exact Rgs.val rfl (Reg.wanted_if rfl rfl dg rfl) (.bool xq) (by have c := Reg.consts a; generalize a.eval = ρ at *; simp [execOp, go_sem, c.1, c.2, d17, hc0]) rfl (hW.upd (by decide))
                    · intro a w1 live S E D C h0 hk hW
                      have d16 : a.eval (.tmp 94) = .bool false := D 16 rfl _ _ rfl rfl
                      have d18 : a.eval (.tmp 96) = .bool xq := D 18 rfl _ _ rfl rfl
                      exact Rgs.val rfl (Reg.wanted_free rfl) (.bool xq) (by have c := Reg.consts a; generalize a.eval = ρ at *; simp [execOp, go_sem, c.1, c.2, d16, d18]) rfl (hW.upd (by decide))
                    · intro a w1 live S E D C h0 hk hW
                      have d4 : a.eval (.tmp 82) = .slice (some ⟨y, 0, none⟩) n1 n1 := D 4 rfl _ _ rfl rfl
                      have d6 : a.eval (.tmp 84) = .int .i64 (f : Int) := D 6 rfl _ _ rfl rfl
                      have i1 := HLT.out
                      obtain ⟨i1, i2, i3, i4⟩ := i1
                      have ead := mk_add (y) (f)
                      exact Rgs.val rfl (Reg.wanted_free rfl) (.pointer (some ⟨y, f, none⟩)) (by have c := Reg.consts a; generalize a.eval = ρ at *; simp [execOp, go_sem, c.1, c.2, d4, d6, i1, i2, i3, i4, ead]) rfl (hW.upd (by decide))
                    · intro a w1 live S E D C h0 hk hW
                      have d20 : a.eval (.tmp 98) = .pointer (some ⟨y, f, none⟩) := D 20 rfl _ _ rfl rfl
                      have d19 : a.eval (.tmp 97) = .bool xq := D 19 rfl _ _ rfl rfl
                      have hw := hW.off h0
                      subst hw
                      have hc0 := k1
                      have hfz := k2
                      refine Rgs.store rfl (Reg.wanted_free rfl) _ (by have c := Reg.consts a; generalize a.eval = ρ at *; simp [execOp, go_sem, c.1, c.2, d20, d19, hc0, hfz]) rfl (Rgs.StW.put _ _ _ _ _) (fun j v _ h => h)
                  · intro a w3 live hs hd E D' Hl hW
                    rw [Rgs.act_ws a _ _ hs hd E [78, 79, 80, 81, 82, 83, 84, 85, 86, 87, 88, 89, 90, 91, 92, 93, 94, 95, 96, 97, 98] (by kernel_rfl)]
                    simp only [List.foldl, List.setIfInBounds_toArray, List.set_cons_succ, List.set_cons_zero]
                    have hw := Rgs.StW.on hW (Hl 21 (by decide))
                    subst hw
                    clear E D' Hl hW
                    generalize a.eval = ρ
                    clear a hs hd
                    clear f0 f1 f2 k0 k1 k2
                    go_wp2_with fail
                    go_roundw
                    case rel => exact ⟨k + 1, by omega, by go_num, HST.out _ (by simp)⟩
                    case measure => simp [intOf]; omega
        · have hkni : ¬ (k : Int) < (n2 : Int) := by omega
          have hk2 : n2 ≤ k := by omega
          have hfin := (hM.congr (m' := swayF (P.map ptOf) (C.map chOf)) fun a b ha _ => by
            rw [mQ_all ha, List.take_of_length_le (by rw [HCF.out.c.len]; exact hk2)]
            unfold swayF sC rulQ
            rw [List.length_map, HLEN.out]
            simp only [Bool.or_assoc]).weak (B' := w.heap.size) (by rw [HB.out]; exact HB0.out.size)
          have hbf := HB0.out.trans (hb.mono (by rw [HB.out]; exact HB0.out.size))
          have HFIN := Lib.hid hfin
          clear hM hb hfin
          go_wp2_with fail
          go_ret
          exact ⟨g, G, rfl, HFIN.out, hbf⟩
end Go.Proofs.Ytknlhhbkahollaa
