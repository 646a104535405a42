/- WordNumbers: chapter 8's runs: rows of forty tapes, turned about at each place, by many dependences (the walk). -/
import Derived.Test.YtcdgofdnafbacaaLow1
import Derived.Test.YtcdgofdnafbacaaWtap
import Derived.Test.YtcdgofdnafbacaaWkno
import Derived.Test.YtcdgofdnafbacaaWtur
import Derived.Test.YtcdgofdnafbacaaWpar
namespace Go.Proofs.Ytcdgofdnafbacaa.wordNumbers
open Go.ChangeShapes Go.WideShapes Go.ChangeAt Go.RowKit Tab
open wordParts (front)
set_option linter.unusedSimpArgs false
set_option linter.unusedVariables false

set_option maxRecDepth 100000 in
set_option maxHeartbeats 8000000 in
theorem walk (H : WordW) (w : World) : Calls Try.prog 3 #[] w (Ans (.bool true) w) := by
  go_enter Try.func3, Try.ntmps3
  go_wp2_with fail
  obtain ⟨m, hm⟩ : ∃ m : Nat, (40 : Int) = (m : Int) := ⟨40, rfl⟩
  have hm1 : m ≤ 40 := by omega
  rw [hm]
  clear hm
  go_loopw [1, 2, 3, 4, 5] (fun s _ _ _ _ wr => ∃ i : Nat, i ≤ m ∧ s = .int .i64 i ∧ Below w.heap.size w wr) (fun s _ _ _ _ _ => m - (intOf s).toNat)
  case atStart => exact ⟨0, by omega, rfl, Below.refl _ _⟩
  case round =>
    obtain ⟨i, hi, rfl, hb⟩ := hrel
    have HB := Lib.hid hb
    clear hb
    by_cases him : i < m
    · have himi : (i : Int) < (m : Int) := by omega
      go_wp2_with fail
      refine (tape8_any i wr (by omega)).mono ?_
      rintro e w1 ⟨A0, n0, k0, f0, rfl, hr0, hn0, hb1⟩
      have HB1 := Lib.hid (HB.out.trans (hb1.mono HB.out.size))
      have HR0 := Lib.hid hr0
      clear hr0 hb1 HB
      go_wp2_with fail
      refine (row_box A0 n0 k0 f0 w1 4 14 4 14 rfl rfl (by omega) (by omega) (by omega) (by omega) HR0.out (by omega)).mono ?_
      rintro e w2 ⟨L, A1, n, c, rfl, hL, hr2, hc, h1a, h1b, hb2⟩
      have htk : ticks L ≤ 56 := by
        have := fair_ticks hL
        rw [hr2.len] at this
        omega
      obtain ⟨ad, _, rfl, _⟩ := hr2.at_ (i := 0) (by omega)
      have HLN := Lib.hid hr2.len
      have HRL := Lib.hid fun W (hb : Below w2.heap.size w2 W) => hr2.on hb
      have HB2 := Lib.hid (HB1.out.trans (hb2.mono HB1.out.size))
      clear hr2 hb2 hL HB1 HR0
      obtain ⟨d, hd⟩ : ∃ d, d = n - 1 := ⟨_, rfl⟩
      have htd : ticks (L.take d) ≤ 56 := Nat.le_trans (take_ticks L d) htk
      go_wp2_with fail
      go_loopw [3, 4, 5] (fun s _ _ wx => ∃ at_ : Int, s = .int .i64 at_ ∧ -1 ≤ at_ ∧ at_ ≤ (n : Int) + 1 ∧ Below w2.heap.size w2 wx) (fun s _ _ _ => ((n : Int) + 1 - intOf s).toNat)
      case atStart => exact ⟨-1, rfl, by omega, by omega, Below.refl _ _⟩
      case round =>
        obtain ⟨at_, rfl, ha1, ha2, hb⟩ := hrel
        have HBr := Lib.hid hb
        clear hb
        by_cases ha : at_ ≤ (n : Int)
        · have had : decide (at_ ≤ (n : Int)) = true := decide_eq_true ha
          have HSW := Lib.hid (H.swap (some ad) n c L at_ wr (HRL.out wr HBr.out) hc (by omega) (by omega) (by omega))
          obtain ⟨Z, hZ⟩ : ∃ Z, Z = swZ L at_ := ⟨_, rfl⟩
          have hzl : Z.length = n := by
            rw [hZ]
            unfold swZ
            split
            · rw [swap_len]; exact HLN.out
            · exact HLN.out
          have htz : ticks Z ≤ 56 := by
            rw [hZ]
            unfold swZ
            split
            · rw [ticks_perm (swap_perm _ _)]; exact htk
            · exact htk
          rw [← hZ] at HSW
          have HZ := Lib.hid hZ
          clear hZ
          go_wp2_with fail
          refine HSW.out.mono ?_
          rintro e w3 ⟨AY, cY, rfl, hrY, hcY, hb3⟩
          rw [hzl] at hrY hcY ⊢
          have HB3 := Lib.hid (HBr.out.trans (hb3.mono HBr.out.size))
          have hbe := bl1 w3 (.cells #[] 31)
          have hown0 : OwnV 31 2 (w3.alloc (.cells #[] 31)) w3.heap.size (some ⟨w3.heap.size, 0, none⟩) 0 0 [] := ownV_lit w3 _ 2 w3.heap.size #[] 0 rfl (Nat.le_refl _) (by unfold maxLen; omega)
          have hrL := (HRL.out w3 HB3.out).on hbe
          have hrd := hrL.rd
          have hle : w3.heap.size ≤ (w3.alloc (.cells #[] 31)).heap.size := hbe.size
          have HBE := Lib.hid hbe
          have HRY3 := Lib.hid hrY
          clear hbe hrL hb3 HSW hrY
          go_upto_region 10 with (at_builtin; go_loud (refine wpList_appV elR rfl (.tmp 24) (.tmp 25) rfl rfl w3.heap.size (some ⟨w3.heap.size, 0, none⟩) 0 0 [] rfl hown0 (some ad) n c (rs L) _ rfl hrd (by rw [rs_length, HLN.out]) (rs_one _) (by omega) (by unfold maxLen; omega) hle n (Nat.zero_add _) (rs L) (List.nil_append _) ?_; intro AV c4 wq hw4 hb4 hot4))
          have HBQ := Lib.hid (HBE.out.trans hb4)
          have hOB : OwnB 31 2 rcl wq w3.heap.size AV n c4 L := ⟨HLN.out, by rw [← rs_flat]; exact hw4⟩
          have HOB := Lib.hid hOB
          have hcW := hw4.cap
          clear hw4 hb4 hot4 hOB hown0 hrd hle HBE
          obtain ⟨cW, rfl⟩ : ∃ c, c = c4 := ⟨_, rfl⟩
          have HRY := Lib.hid fun W (hb : Below w3.heap.size w3 W) => HRY3.out.on hb
          have HRL3 := Lib.hid fun W (hb : Below w3.heap.size w3 W) => HRL.out W (HB3.out.trans (hb.mono HB3.out.size))
          have HDA : Hid (∀ W : World, Calls Try.prog 14 #[.int .i64 4, .int .i64 ((i : Int) * 37 + at_ * 5)] W (MadG 4 (depF ((i : Int) * 37 + at_ * 5)) W)) := Lib.hid fun W => dependence_any 4 ((i : Int) * 37 + at_ * 5) W (by omega) (by omega) (by omega)
          have HDB : Hid (∀ W : World, Calls Try.prog 14 #[.int .i64 3, .int .i64 (i : Int)] W (MadG 3 (depF (i : Int)) W)) := Lib.hid fun W => dependence_any 3 (i : Int) W (by omega) (by omega) (by omega)
          have hm4 := Int.lt_tmod_of_pos at_ (show (0 : Int) < 4 by decide)
          have hm5 := Int.tmod_lt_of_pos at_ (show (0 : Int) < 4 by decide)
          have hm6 := Int.lt_tmod_of_pos (i : Int) (show (0 : Int) < 4 by decide)
          have hm7 := Int.tmod_lt_of_pos (i : Int) (show (0 : Int) < 4 by decide)
          have HWRP : Hid (IntKind.i64.wrap ((i : Int) * 37) = (i : Int) * 37 ∧ IntKind.i64.wrap (at_ * 5) = at_ * 5 ∧ IntKind.i64.wrap ((i : Int) * 37 + at_ * 5) = (i : Int) * 37 + at_ * 5 ∧ IntKind.i64.wrap ((i : Int).tmod 4) = (i : Int).tmod 4 ∧ IntKind.i64.wrap (at_.tmod 4) = at_.tmod 4 ∧ (n : Int) - 1 = (d : Int) ∧ IntKind.i64.wrap (d : Int) = (d : Int)) :=
            Lib.hid ⟨IntWalk.i64_in _ (by omega), IntWalk.i64_in _ (by omega), IntWalk.i64_in _ (by omega), IntWalk.i64_in _ (by omega), IntWalk.i64_in _ (by omega), by omega, IntWalk.i64_in _ (by omega)⟩
          have HSF : Hid ((d : Int) ≤ (c : Int) ∧ d ≤ c ∧ ¬ c = 0 ∧ ad.add 0 = ad) := Lib.hid ⟨by omega, by omega, by omega, by simp [Addr.add]⟩
          clear hm4 hm5 hm6 hm7
          have hat1 : IntKind.i64.wrap (at_ + 1) = at_ + 1 := IntWalk.i64_in _ (by omega)
          by_cases h0 : (0 : Int) ≤ at_
          · have h0d : decide ((0 : Int) ≤ at_) = true := decide_eq_true h0
            by_cases h1 : at_ + 1 < (n : Int)
            · have h1d : decide (at_ + 1 < (n : Int)) = true := decide_eq_true h1
              obtain ⟨k, hk⟩ : ∃ k : Nat, at_ = (k : Int) := ⟨at_.toNat, by omega⟩
              subst hk
              have hkn : k + 1 < n := by omega
              obtain ⟨g, rfl, hBg, hgl⟩ := HOB.out.block (by omega)
              have hXl := HOB.out.len
              obtain ⟨x, hx⟩ : ∃ x, L[k]? = some x := ⟨_, List.getElem?_eq_getElem (by omega)⟩
              obtain ⟨y, hy⟩ : ∃ y, L[k + 1]? = some y := ⟨_, List.getElem?_eq_getElem (by omega)⟩
              have hXd : OwnB 31 2 rcl wq.drew w3.heap.size (some ⟨g, 0, none⟩) n cW L := HOB.out.below (Below.refl _ _).drew
              obtain ⟨cx0, cx1, fx0, fx1⟩ := hXd.cellR hx
              obtain ⟨cy0, cy1, _, _⟩ := hXd.cellR hy
              have hX1 := hXd.putR hx y
              have hy1 : (L.set k y)[k + 1]? = some y := by rw [List.getElem?_set_ne (by omega)]; exact hy
              obtain ⟨ez0, ez1, fz0, fz1⟩ := hX1.cellR hy1
              have hX2 := hX1.putR hy1 x
              rw [← swap_set hx hy] at hX2
              have hsw : swZ L (k : Int) = swapAt L k := by
                unfold swZ
                rw [if_pos (by omega)]
                rfl
              rw [← hsw, ← HZ.out] at hX2
              have hbz : Below w3.heap.size w3 ((((wq.drew.setCell ⟨g, k * 2, none⟩ (.int .i64 y.p)).setCell ⟨g, k * 2 + 1, none⟩ (.int .i64 (y.n : Int))).setCell ⟨g, (k + 1) * 2, none⟩ (.int .i64 x.p)).setCell ⟨g, (k + 1) * 2 + 1, none⟩ (.int .i64 (x.n : Int))) := (((HBQ.out.drew.setCell (p := ⟨g, k * 2, none⟩) hBg _).setCell (p := ⟨g, k * 2 + 1, none⟩) hBg _).setCell (p := ⟨g, (k + 1) * 2, none⟩) hBg _).setCell (p := ⟨g, (k + 1) * 2 + 1, none⟩) hBg _
              have HRW : Hid (RdR ((((wq.drew.setCell ⟨g, k * 2, none⟩ (.int .i64 y.p)).setCell ⟨g, k * 2 + 1, none⟩ (.int .i64 (y.n : Int))).setCell ⟨g, (k + 1) * 2, none⟩ (.int .i64 x.p)).setCell ⟨g, (k + 1) * 2 + 1, none⟩ (.int .i64 (x.n : Int))) ((((wq.drew.setCell ⟨g, k * 2, none⟩ (.int .i64 y.p)).setCell ⟨g, k * 2 + 1, none⟩ (.int .i64 (y.n : Int))).setCell ⟨g, (k + 1) * 2, none⟩ (.int .i64 x.p)).setCell ⟨g, (k + 1) * 2 + 1, none⟩ (.int .i64 (x.n : Int))).heap.size (some ⟨g, 0, none⟩) n Z) := Lib.hid ⟨hX2.len, by rw [rs_flat]; exact hX2.own.rd⟩
              have HBW := Lib.hid hbz
              have HLT : Hid (k < n ∧ k + 1 < n ∧ (k : Int) < (n : Int) ∧ (k : Int) + 1 < (n : Int) ∧ (0 : Int) ≤ (k : Int) + 1 ∧ ((k : Int) + 1).toNat = k + 1) := Lib.hid ⟨by omega, hkn, by omega, by omega, by omega, by omega⟩
              have HWR : Hid (IntKind.i64.wrap ((k : Int) + 1) = (k : Int) + 1) := Lib.hid (wrap_small _ (by omega) (by omega))
              clear hX1 hX2 hXd hy1 hbz hx hy hXl hsw HOB HBQ
              go_wp2_with fail
              refine Rgs.region (by kernel_rfl) (by kernel_rfl) (fun (opn : Nat) (vl : Value) (_ : World) => match opn with | 0 => vl = .slice (some ⟨g, 0, none⟩) n cW | 1 => vl = .int .i64 (k : Int) | 2 => vl = .slice (some ⟨g, 0, none⟩) n cW | 3 => vl = .int .i64 (k : Int) | 4 => vl = .int .i64 ((k : Int) + 1) | 5 => vl = .slice (some ⟨g, 0, none⟩) n cW | 6 => vl = .int .i64 (k : Int) | 7 => vl = .int .i64 ((k : Int) + 1) | 8 => vl = .pointer (some ⟨g, (k + 1) * 2, none⟩) | 9 => vl = .agg #[.int .i64 y.p, .int .i64 (y.n : Int)] | 10 => vl = .slice (some ⟨g, 0, none⟩) n cW | 11 => vl = .int .i64 (k : Int) | 12 => vl = .pointer (some ⟨g, k * 2, none⟩) | 13 => vl = .agg #[.int .i64 x.p, .int .i64 (x.n : Int)] | 14 => vl = .pointer (some ⟨g, k * 2, none⟩) | 15 => vl = undef | 16 => vl = .pointer (some ⟨g, (k + 1) * 2, none⟩) | 17 => vl = undef | _ => True) (fun live _ w' => Rgs.StG wq.drew ((wq.drew.setCell ⟨g, k * 2, none⟩ (.int .i64 y.p)).setCell ⟨g, k * 2 + 1, none⟩ (.int .i64 (y.n : Int))) ((((wq.drew.setCell ⟨g, k * 2, none⟩ (.int .i64 y.p)).setCell ⟨g, k * 2 + 1, none⟩ (.int .i64 (y.n : Int))).setCell ⟨g, (k + 1) * 2, none⟩ (.int .i64 x.p)).setCell ⟨g, (k + 1) * 2 + 1, none⟩ (.int .i64 (x.n : Int))) 15 17 live w') rfl (Rgs.steps_of ?_) ?_
              · refine ⟨?_, ?_, ?_, ?_, ?_, ?_, ?_, ?_, ?_, ?_, ?_, ?_, ?_, ?_, ?_, ?_, ?_, ?_, trivial⟩
                · intro a w1 live S E D C h0 hk hW
                  have e5 : a.eval (.tmp 5) = .slice (some ⟨g, 0, none⟩) n cW := E 5 rfl
                  exact Rgs.val rfl (Reg.wanted_free rfl) (.slice (some ⟨g, 0, none⟩) n cW) (by have c := Reg.consts a; generalize a.eval = ρ at *; simp [execOp, go_sem, c.1, c.2, e5]) rfl (hW.upd (by decide) (by decide))
                · intro a w1 live S E D C h0 hk hW
                  have e3 : a.eval (.tmp 3) = .int .i64 (k : Int) := E 3 rfl
                  exact Rgs.val rfl (Reg.wanted_free rfl) (.int .i64 (k : Int)) (by have c := Reg.consts a; generalize a.eval = ρ at *; simp [execOp, go_sem, c.1, c.2, e3]) rfl (hW.upd (by decide) (by decide))
                · intro a w1 live S E D C h0 hk hW
                  have e5 : a.eval (.tmp 5) = .slice (some ⟨g, 0, none⟩) n cW := E 5 rfl
                  exact Rgs.val rfl (Reg.wanted_free rfl) (.slice (some ⟨g, 0, none⟩) n cW) (by have c := Reg.consts a; generalize a.eval = ρ at *; simp [execOp, go_sem, c.1, c.2, e5]) rfl (hW.upd (by decide) (by decide))
                · intro a w1 live S E D C h0 hk hW
                  have e3 : a.eval (.tmp 3) = .int .i64 (k : Int) := E 3 rfl
                  exact Rgs.val rfl (Reg.wanted_free rfl) (.int .i64 (k : Int)) (by have c := Reg.consts a; generalize a.eval = ρ at *; simp [execOp, go_sem, c.1, c.2, e3]) rfl (hW.upd (by decide) (by decide))
                · intro a w1 live S E D C h0 hk hW
                  have d3 : a.eval (.tmp 39) = .int .i64 (k : Int) := D 3 rfl _ _ rfl rfl
                  have hwr := HWR.out
                  exact Rgs.val rfl (Reg.wanted_free rfl) (.int .i64 ((k : Int) + 1)) (by have c := Reg.consts a; generalize a.eval = ρ at *; simp [execOp, go_sem, c.1, c.2, d3, hwr]) rfl (hW.upd (by decide) (by decide))
                · intro a w1 live S E D C h0 hk hW
                  have e5 : a.eval (.tmp 5) = .slice (some ⟨g, 0, none⟩) n cW := E 5 rfl
                  exact Rgs.val rfl (Reg.wanted_free rfl) (.slice (some ⟨g, 0, none⟩) n cW) (by have c := Reg.consts a; generalize a.eval = ρ at *; simp [execOp, go_sem, c.1, c.2, e5]) rfl (hW.upd (by decide) (by decide))
                · intro a w1 live S E D C h0 hk hW
                  have e3 : a.eval (.tmp 3) = .int .i64 (k : Int) := E 3 rfl
                  exact Rgs.val rfl (Reg.wanted_free rfl) (.int .i64 (k : Int)) (by have c := Reg.consts a; generalize a.eval = ρ at *; simp [execOp, go_sem, c.1, c.2, e3]) rfl (hW.upd (by decide) (by decide))
                · intro a w1 live S E D C h0 hk hW
                  have d6 : a.eval (.tmp 42) = .int .i64 (k : Int) := D 6 rfl _ _ rfl rfl
                  have hwr := HWR.out
                  exact Rgs.val rfl (Reg.wanted_free rfl) (.int .i64 ((k : Int) + 1)) (by have c := Reg.consts a; generalize a.eval = ρ at *; simp [execOp, go_sem, c.1, c.2, d6, hwr]) rfl (hW.upd (by decide) (by decide))
                · intro a w1 live S E D C h0 hk hW
                  have d5 : a.eval (.tmp 41) = .slice (some ⟨g, 0, none⟩) n cW := D 5 rfl _ _ rfl rfl
                  have d7 : a.eval (.tmp 43) = .int .i64 ((k : Int) + 1) := D 7 rfl _ _ rfl rfl
                  have i1 := HLT.out
                  obtain ⟨i1, i2, i3, i4, i5, i6⟩ := i1
                  have ead := mk_add (g) ((k + 1) * 2)
                  exact Rgs.val rfl (Reg.wanted_free rfl) (.pointer (some ⟨g, (k + 1) * 2, none⟩)) (by have c := Reg.consts a; generalize a.eval = ρ at *; simp [execOp, go_sem, c.1, c.2, d5, d7, i1, i2, i3, i4, i5, i6, ead]) rfl (hW.upd (by decide) (by decide))
                · intro a w1 live S E D C h0 hk hW
                  have d8 : a.eval (.tmp 44) = .pointer (some ⟨g, (k + 1) * 2, none⟩) := D 8 rfl _ _ rfl rfl
                  have l15 := Reg.not_live C h0 (j := 15) rfl rfl
                  have l17 := Reg.not_live C l15 (j := 17) rfl rfl
                  have hw := hW.off l15 l17
                  subst hw
                  exact Rgs.val rfl (Reg.wanted_free rfl) (.agg #[.int .i64 y.p, .int .i64 (y.n : Int)]) (by have c := Reg.consts a; generalize a.eval = ρ at *; simp [execOp, go_sem, c.1, c.2, d8, cy0, cy1]) rfl (hW.upd (by decide) (by decide))
                · intro a w1 live S E D C h0 hk hW
                  have e5 : a.eval (.tmp 5) = .slice (some ⟨g, 0, none⟩) n cW := E 5 rfl
                  exact Rgs.val rfl (Reg.wanted_free rfl) (.slice (some ⟨g, 0, none⟩) n cW) (by have c := Reg.consts a; generalize a.eval = ρ at *; simp [execOp, go_sem, c.1, c.2, e5]) rfl (hW.upd (by decide) (by decide))
                · intro a w1 live S E D C h0 hk hW
                  have e3 : a.eval (.tmp 3) = .int .i64 (k : Int) := E 3 rfl
                  exact Rgs.val rfl (Reg.wanted_free rfl) (.int .i64 (k : Int)) (by have c := Reg.consts a; generalize a.eval = ρ at *; simp [execOp, go_sem, c.1, c.2, e3]) rfl (hW.upd (by decide) (by decide))
                · intro a w1 live S E D C h0 hk hW
                  have d10 : a.eval (.tmp 46) = .slice (some ⟨g, 0, none⟩) n cW := D 10 rfl _ _ rfl rfl
                  have d11 : a.eval (.tmp 47) = .int .i64 (k : Int) := D 11 rfl _ _ rfl rfl
                  have i1 := HLT.out
                  obtain ⟨i1, i2, i3, i4, i5, i6⟩ := i1
                  have ead := mk_add (g) (k * 2)
                  exact Rgs.val rfl (Reg.wanted_free rfl) (.pointer (some ⟨g, k * 2, none⟩)) (by have c := Reg.consts a; generalize a.eval = ρ at *; simp [execOp, go_sem, c.1, c.2, d10, d11, i1, i2, i3, i4, i5, i6, ead]) rfl (hW.upd (by decide) (by decide))
                · intro a w1 live S E D C h0 hk hW
                  have d12 : a.eval (.tmp 48) = .pointer (some ⟨g, k * 2, none⟩) := D 12 rfl _ _ rfl rfl
                  have l15 := Reg.not_live C h0 (j := 15) rfl rfl
                  have l17 := Reg.not_live C l15 (j := 17) rfl rfl
                  have hw := hW.off l15 l17
                  subst hw
                  exact Rgs.val rfl (Reg.wanted_free rfl) (.agg #[.int .i64 x.p, .int .i64 (x.n : Int)]) (by have c := Reg.consts a; generalize a.eval = ρ at *; simp [execOp, go_sem, c.1, c.2, d12, cx0, cx1]) rfl (hW.upd (by decide) (by decide))
                · intro a w1 live S E D C h0 hk hW
                  have d0 : a.eval (.tmp 36) = .slice (some ⟨g, 0, none⟩) n cW := D 0 rfl _ _ rfl rfl
                  have d1 : a.eval (.tmp 37) = .int .i64 (k : Int) := D 1 rfl _ _ rfl rfl
                  have i1 := HLT.out
                  obtain ⟨i1, i2, i3, i4, i5, i6⟩ := i1
                  have ead := mk_add (g) (k * 2)
                  exact Rgs.val rfl (Reg.wanted_free rfl) (.pointer (some ⟨g, k * 2, none⟩)) (by have c := Reg.consts a; generalize a.eval = ρ at *; simp [execOp, go_sem, c.1, c.2, d0, d1, i1, i2, i3, i4, i5, i6, ead]) rfl (hW.upd (by decide) (by decide))
                · intro a w1 live S E D C h0 hk hW
                  have d14 : a.eval (.tmp 50) = .pointer (some ⟨g, k * 2, none⟩) := D 14 rfl _ _ rfl rfl
                  have d9 : a.eval (.tmp 45) = .agg #[.int .i64 y.p, .int .i64 (y.n : Int)] := D 9 rfl _ _ rfl rfl
                  have l17 := Reg.not_live C h0 (j := 17) rfl rfl
                  have hw := hW.off h0 l17
                  subst hw
                  refine Rgs.store rfl (Reg.wanted_free rfl) ((wq.drew.setCell ⟨g, k * 2, none⟩ (.int .i64 y.p)).setCell ⟨g, k * 2 + 1, none⟩ (.int .i64 (y.n : Int))) ?_ rfl (Rgs.StG.put1 _ _ _ (by decide) _ l17) (fun j v _ h => h)
                  generalize wq.drew = wd at cx0 cx1 fx0 fx1 ⊢
                  have c := Reg.consts a; generalize a.eval = ρ at *; simp [execOp, go_sem, c.1, c.2, d14, d9, cx0, cx1, fx0, fx1]
                · intro a w1 live S E D C h0 hk hW
                  have d2 : a.eval (.tmp 38) = .slice (some ⟨g, 0, none⟩) n cW := D 2 rfl _ _ rfl rfl
                  have d4 : a.eval (.tmp 40) = .int .i64 ((k : Int) + 1) := D 4 rfl _ _ rfl rfl
                  have i1 := HLT.out
                  obtain ⟨i1, i2, i3, i4, i5, i6⟩ := i1
                  have ead := mk_add (g) ((k + 1) * 2)
                  exact Rgs.val rfl (Reg.wanted_free rfl) (.pointer (some ⟨g, (k + 1) * 2, none⟩)) (by have c := Reg.consts a; generalize a.eval = ρ at *; simp [execOp, go_sem, c.1, c.2, d2, d4, i1, i2, i3, i4, i5, i6, ead]) rfl (hW.upd (by decide) (by decide))
                · intro a w1 live S E D C h0 hk hW
                  have d16 : a.eval (.tmp 51) = .pointer (some ⟨g, (k + 1) * 2, none⟩) := D 16 rfl _ _ rfl rfl
                  have d13 : a.eval (.tmp 49) = .agg #[.int .i64 x.p, .int .i64 (x.n : Int)] := D 13 rfl _ _ rfl rfl
                  have hw := hW.mid (hk 15 rfl) h0
                  subst hw
                  refine Rgs.store rfl (Reg.wanted_free rfl) _ ?_ rfl (Rgs.StG.put2 _ _ _ _ _ _) (fun j v _ h => h)
                  generalize (wq.drew.setCell ⟨g, k * 2, none⟩ (.int .i64 y.p)).setCell ⟨g, k * 2 + 1, none⟩ (.int .i64 (y.n : Int)) = wz at ez0 ez1 fz0 fz1 ⊢
                  have c := Reg.consts a
                  generalize a.eval = ρ at *
                  simp [execOp, go_sem, c.1, c.2, d16, d13, ez0, ez1, fz0, fz1]
              · intro a w3 live hs hd E D' Hl hW
                rw [Rgs.act_ws a _ _ hs hd E [36, 37, 38, 39, 40, 41, 42, 43, 44, 45, 46, 47, 48, 49, 50, 51] (by kernel_rfl)]
                simp only [List.foldl, List.setIfInBounds_toArray, List.set_cons_succ, List.set_cons_zero]
                have hw := Rgs.StG.on hW (Hl 17 (by decide))
                subst hw
                clear E D' Hl hW cx0 cx1 cy0 cy1 ez0 ez1 fx0 fx1 fz0 fz1
                generalize a.eval = ρ
                clear a hs hd
                generalize ((((wq.drew.setCell ⟨g, k * 2, none⟩ (.int .i64 y.p)).setCell ⟨g, k * 2 + 1, none⟩ (.int .i64 (y.n : Int))).setCell ⟨g, (k + 1) * 2, none⟩ (.int .i64 x.p)).setCell ⟨g, (k + 1) * 2 + 1, none⟩ (.int .i64 (x.n : Int))) = wv at HRW HBW ⊢
                go_wp2_with fail
                have HBV := Lib.hid HBW.out
                have HB3V := Lib.hid (HB3.out.trans (HBV.out.mono HB3.out.size))
                clear HBW
                have HSA : Hid (∀ W, Below wv.heap.size wv W → Calls Try.prog 12 #[.slice AY n cY, .slice (some ⟨g, 0, none⟩) n cW] W (Qui (.bool true) W)) := Lib.hid fun W hb => by
                  have h := xsame_any AY (some ⟨g, 0, none⟩) n n cY cW Z Z W (HRY.out W (HBV.out.trans (hb.mono HBV.out.size))) (HRW.out.on hb) (by omega)
                  rw [(sameR_iff Z Z).2 rfl] at h
                  exact h
                have HS1 := Lib.hid fun W (hb : Below wv.heap.size wv W) X y (hm : RdM W W.heap.size X 4 (fun _ => 4) (depF ((i : Int) * 37 + (k : Int) * 5))) => sam8_any H (some ad) (some ⟨g, 0, none⟩) X n n 4 c cW y L Z (depF ((i : Int) * 37 + (k : Int) * 5)) ((i : Int).tmod 4) ((k : Int).tmod 4) W (HRL3.out W (HBV.out.trans (hb.mono HBV.out.size))) (HRW.out.on hb) hm (by omega) (by omega) (by omega) (by omega) (by omega) (by omega) (by omega)
                have HS2 := Lib.hid fun W (hb : Below wv.heap.size wv W) X y (hm : RdM W W.heap.size X 3 (fun _ => 3) (depF (i : Int))) => sam8_any H (some ⟨g, 0, none⟩) (some ad) X n d 3 cW c y Z (L.take d) (depF (i : Int)) 0 1 W (HRW.out.on hb) (front (HRL3.out W (HBV.out.trans (hb.mono HBV.out.size))) d (by omega)) hm (by omega) (by omega) (by omega) (by omega) (by omega) (by omega) (by omega)
                refine Rgs.region (by kernel_rfl) (by kernel_rfl) (fun (opn : Nat) (vl : Value) (wo : World) => match opn with | 0 => vl = .slice AY n cY | 1 => vl = .slice (some ⟨g, 0, none⟩) n cW | 2 => vl = .bool true | 3 => vl = .bool false | 4 => vl = .bool false | 5 => vl = .slice (some ad) n c | 6 => vl = .slice (some ⟨g, 0, none⟩) n cW | 7 => vl = .int .i64 (i : Int) | 8 => vl = .int .i64 ((i : Int) * 37) | 9 => vl = .int .i64 (k : Int) | 10 => vl = .int .i64 ((k : Int) * 5) | 11 => vl = .int .i64 ((i : Int) * 37 + (k : Int) * 5) | 12 => MtW 4 (depF ((i : Int) * 37 + (k : Int) * 5)) vl wo | 13 => vl = .int .i64 (i : Int) | 14 => vl = .int .i64 ((i : Int).tmod 4) | 15 => vl = .int .i64 (k : Int) | 16 => vl = .int .i64 ((k : Int).tmod 4) | 17 => vl = .bool true | 18 => vl = .bool false | 19 => vl = .bool false | 20 => vl = .bool false | 21 => vl = .slice (some ⟨g, 0, none⟩) n cW | 22 => vl = .slice (some ad) n c | 23 => vl = .slice (some ad) n c | 24 => vl = .int .i64 (n : Int) | 25 => vl = .int .i64 (d : Int) | 26 => vl = .slice (some ad) d c | 27 => vl = .int .i64 (i : Int) | 28 => MtW 3 (depF (i : Int)) vl wo | 29 => vl = .bool true | 30 => vl = .bool false | 31 => vl = .bool false | _ => True) (fun _ _ w' => Below wv.heap.size wv w') (Below.refl _ _).drew (Rgs.steps_of ?_) ?_
                · refine ⟨?_, ?_, ?_, ?_, ?_, ?_, ?_, ?_, ?_, ?_, ?_, ?_, ?_, ?_, ?_, ?_, ?_, ?_, ?_, ?_, ?_, ?_, ?_, ?_, ?_, ?_, ?_, ?_, ?_, ?_, ?_, ?_, trivial⟩
                  · intro a w1 live S E D C h0 hk hW
                    have e4 : a.eval (.tmp 4) = .slice AY n cY := E 4 rfl
                    exact Rgs.val rfl (Reg.wanted_free rfl) (.slice AY n cY) (by have c := Reg.consts a; generalize a.eval = ρ at *; simp [execOp, go_sem, c.1, c.2, e4]) rfl hW
                  · intro a w1 live S E D C h0 hk hW
                    have e5 : a.eval (.tmp 5) = .slice (some ⟨g, 0, none⟩) n cW := E 5 rfl
                    exact Rgs.val rfl (Reg.wanted_free rfl) (.slice (some ⟨g, 0, none⟩) n cW) (by have c := Reg.consts a; generalize a.eval = ρ at *; simp [execOp, go_sem, c.1, c.2, e5]) rfl hW
                  · intro a w1 live S E D C h0 hk hW
                    have d0 : a.eval (.tmp 52) = .slice AY n cY := D 0 rfl _ _ rfl rfl
                    have d1 : a.eval (.tmp 53) = .slice (some ⟨g, 0, none⟩) n cW := D 1 rfl _ _ rfl rfl
                    refine Rgs.call rfl (Reg.wanted_free rfl) 12 #[.slice AY n cY, .slice (some ⟨g, 0, none⟩) n cW] (by have c := Reg.consts a; generalize a.eval = ρ at *; simp [execOp, go_sem, c.1, c.2, d0, d1]) ?_
                    refine (HSA.out w1 hW).mono ?_
                    rintro e w5 ⟨rfl, q, rfl⟩
                    have hb5 : Below w1.heap.size w1 (w1.drewN q) := Below.drewN (Below.refl _ _) q
                    exact ⟨_, rfl, rfl, hW.trans (hb5.mono hW.size), fun j v _ hv => by
                        revert hv
                        match j with
                        | 12 => exact fun h => h.on hb5
                        | 28 => exact fun h => h.on hb5
                        | 0 | 1 | 2 | 3 | 4 | 5 | 6 | 7 | 8 | 9 | 10 | 11 | 13 | 14 | 15 | 16 | 17 | 18 | 19 | 20 | 21 | 22 | 23 | 24 | 25 | 26 | 27 | 29 | 30 | 31 | _ + 32 => exact fun h => h⟩
                  · intro a w1 live S E D C h0 hk hW
                    have d2 : a.eval (.tmp 54) = .bool true := D 2 rfl _ _ rfl rfl
                    exact Rgs.val rfl (Reg.wanted_free rfl) (.bool false) (by have c := Reg.consts a; generalize a.eval = ρ at *; simp [execOp, go_sem, c.1, c.2, d2]) rfl hW
                  · intro a w1 live S E D C h0 hk hW
                    have d3 : a.eval (.tmp 55) = .bool false := D 3 rfl _ _ rfl rfl
                    exact Rgs.val rfl (Reg.wanted_free rfl) (.bool false) (by have c := Reg.consts a; generalize a.eval = ρ at *; simp [execOp, go_sem, c.1, c.2, d3]) rfl hW
                  · intro a w1 live S E D C h0 hk hW
                    have dg : a.eval (.tmp 56) = .bool false := D 4 rfl _ _ rfl rfl
                    have e2 : a.eval (.tmp 2) = .slice (some ad) n c := E 2 rfl
                    exact Rgs.val rfl (Reg.wanted_if rfl rfl dg rfl) (.slice (some ad) n c) (by have c := Reg.consts a; generalize a.eval = ρ at *; simp [execOp, go_sem, c.1, c.2, e2]) rfl hW
                  · intro a w1 live S E D C h0 hk hW
                    have dg : a.eval (.tmp 56) = .bool false := D 4 rfl _ _ rfl rfl
                    have e5 : a.eval (.tmp 5) = .slice (some ⟨g, 0, none⟩) n cW := E 5 rfl
                    exact Rgs.val rfl (Reg.wanted_if rfl rfl dg rfl) (.slice (some ⟨g, 0, none⟩) n cW) (by have c := Reg.consts a; generalize a.eval = ρ at *; simp [execOp, go_sem, c.1, c.2, e5]) rfl hW
                  · intro a w1 live S E D C h0 hk hW
                    have dg : a.eval (.tmp 56) = .bool false := D 4 rfl _ _ rfl rfl
                    have e1 : a.eval (.tmp 1) = .int .i64 (i : Int) := E 1 rfl
                    exact Rgs.val rfl (Reg.wanted_if rfl rfl dg rfl) (.int .i64 (i : Int)) (by have c := Reg.consts a; generalize a.eval = ρ at *; simp [execOp, go_sem, c.1, c.2, e1]) rfl hW
                  · intro a w1 live S E D C h0 hk hW
                    have dg : a.eval (.tmp 56) = .bool false := D 4 rfl _ _ rfl rfl
                    have d7 : a.eval (.tmp 59) = .int .i64 (i : Int) := D 7 rfl _ _ rfl rfl
                    obtain ⟨u1, u2, u3, u4, u5, u6, u8⟩ := HWRP.out
                    exact Rgs.val rfl (Reg.wanted_if rfl rfl dg rfl) (.int .i64 ((i : Int) * 37)) (by have c := Reg.consts a; generalize a.eval = ρ at *; simp [execOp, go_sem, c.1, c.2, d7, u1]) rfl hW
                  · intro a w1 live S E D C h0 hk hW
                    have dg : a.eval (.tmp 56) = .bool false := D 4 rfl _ _ rfl rfl
                    have e3 : a.eval (.tmp 3) = .int .i64 (k : Int) := E 3 rfl
                    exact Rgs.val rfl (Reg.wanted_if rfl rfl dg rfl) (.int .i64 (k : Int)) (by have c := Reg.consts a; generalize a.eval = ρ at *; simp [execOp, go_sem, c.1, c.2, e3]) rfl hW
                  · intro a w1 live S E D C h0 hk hW
                    have dg : a.eval (.tmp 56) = .bool false := D 4 rfl _ _ rfl rfl
                    have d9 : a.eval (.tmp 61) = .int .i64 (k : Int) := D 9 rfl _ _ rfl rfl
                    obtain ⟨u1, u2, u3, u4, u5, u6, u8⟩ := HWRP.out
                    exact Rgs.val rfl (Reg.wanted_if rfl rfl dg rfl) (.int .i64 ((k : Int) * 5)) (by have c := Reg.consts a; generalize a.eval = ρ at *; simp [execOp, go_sem, c.1, c.2, d9, u2]) rfl hW
                  · intro a w1 live S E D C h0 hk hW
                    have dg : a.eval (.tmp 56) = .bool false := D 4 rfl _ _ rfl rfl
                    have d8 : a.eval (.tmp 60) = .int .i64 ((i : Int) * 37) := D 8 rfl _ _ rfl rfl
                    have d10 : a.eval (.tmp 62) = .int .i64 ((k : Int) * 5) := D 10 rfl _ _ rfl rfl
                    obtain ⟨u1, u2, u3, u4, u5, u6, u8⟩ := HWRP.out
                    exact Rgs.val rfl (Reg.wanted_if rfl rfl dg rfl) (.int .i64 ((i : Int) * 37 + (k : Int) * 5)) (by have c := Reg.consts a; generalize a.eval = ρ at *; simp [execOp, go_sem, c.1, c.2, d8, d10, u3]) rfl hW
                  · intro a w1 live S E D C h0 hk hW
                    have dg : a.eval (.tmp 56) = .bool false := D 4 rfl _ _ rfl rfl
                    have d11 : a.eval (.tmp 63) = .int .i64 ((i : Int) * 37 + (k : Int) * 5) := D 11 rfl _ _ rfl rfl
                    refine Rgs.call rfl (Reg.wanted_if rfl rfl dg rfl) 14 #[.int .i64 4, .int .i64 ((i : Int) * 37 + (k : Int) * 5)] (by have c := Reg.consts a; generalize a.eval = ρ at *; simp [execOp, go_sem, c.1, c.2, d11]) ?_
                    refine (HDA.out w1).mono ?_
                    intro e w5 hdep
                    obtain ⟨A9, c9, rfl, hc9, hm9, hb5⟩ := hdep.m
                    exact ⟨_, rfl, ⟨A9, c9, rfl, hc9, hm9⟩, hW.trans (hb5.mono hW.size), fun j v _ hv => by
                        revert hv
                        match j with
                        | 12 => exact fun h => h.on hb5
                        | 28 => exact fun h => h.on hb5
                        | 0 | 1 | 2 | 3 | 4 | 5 | 6 | 7 | 8 | 9 | 10 | 11 | 13 | 14 | 15 | 16 | 17 | 18 | 19 | 20 | 21 | 22 | 23 | 24 | 25 | 26 | 27 | 29 | 30 | 31 | _ + 32 => exact fun h => h⟩
                  · intro a w1 live S E D C h0 hk hW
                    have dg : a.eval (.tmp 56) = .bool false := D 4 rfl _ _ rfl rfl
                    have e1 : a.eval (.tmp 1) = .int .i64 (i : Int) := E 1 rfl
                    exact Rgs.val rfl (Reg.wanted_if rfl rfl dg rfl) (.int .i64 (i : Int)) (by have c := Reg.consts a; generalize a.eval = ρ at *; simp [execOp, go_sem, c.1, c.2, e1]) rfl hW
                  · intro a w1 live S E D C h0 hk hW
                    have dg : a.eval (.tmp 56) = .bool false := D 4 rfl _ _ rfl rfl
                    have d13 : a.eval (.tmp 65) = .int .i64 (i : Int) := D 13 rfl _ _ rfl rfl
                    obtain ⟨u1, u2, u3, u4, u5, u6, u8⟩ := HWRP.out
                    exact Rgs.val rfl (Reg.wanted_if rfl rfl dg rfl) (.int .i64 ((i : Int).tmod 4)) (by have c := Reg.consts a; generalize a.eval = ρ at *; simp [execOp, go_sem, c.1, c.2, d13, u4]) rfl hW
                  · intro a w1 live S E D C h0 hk hW
                    have dg : a.eval (.tmp 56) = .bool false := D 4 rfl _ _ rfl rfl
                    have e3 : a.eval (.tmp 3) = .int .i64 (k : Int) := E 3 rfl
                    exact Rgs.val rfl (Reg.wanted_if rfl rfl dg rfl) (.int .i64 (k : Int)) (by have c := Reg.consts a; generalize a.eval = ρ at *; simp [execOp, go_sem, c.1, c.2, e3]) rfl hW
                  · intro a w1 live S E D C h0 hk hW
                    have dg : a.eval (.tmp 56) = .bool false := D 4 rfl _ _ rfl rfl
                    have d15 : a.eval (.tmp 67) = .int .i64 (k : Int) := D 15 rfl _ _ rfl rfl
                    obtain ⟨u1, u2, u3, u4, u5, u6, u8⟩ := HWRP.out
                    exact Rgs.val rfl (Reg.wanted_if rfl rfl dg rfl) (.int .i64 ((k : Int).tmod 4)) (by have c := Reg.consts a; generalize a.eval = ρ at *; simp [execOp, go_sem, c.1, c.2, d15, u5]) rfl hW
                  · intro a w1 live S E D C h0 hk hW
                    have dg : a.eval (.tmp 56) = .bool false := D 4 rfl _ _ rfl rfl
                    have d5 : a.eval (.tmp 57) = .slice (some ad) n c := D 5 rfl _ _ rfl rfl
                    have d6 : a.eval (.tmp 58) = .slice (some ⟨g, 0, none⟩) n cW := D 6 rfl _ _ rfl rfl
                    obtain ⟨X12, y12, d12, q12, m12⟩ : MtW 4 (depF ((i : Int) * 37 + (k : Int) * 5)) (a.eval (.tmp 64)) w1 := D 12 rfl _ _ rfl rfl
                    have d14 : a.eval (.tmp 66) = .int .i64 ((i : Int).tmod 4) := D 14 rfl _ _ rfl rfl
                    have d16 : a.eval (.tmp 68) = .int .i64 ((k : Int).tmod 4) := D 16 rfl _ _ rfl rfl
                    refine Rgs.call rfl (Reg.wanted_if rfl rfl dg rfl) 13 #[.slice (some ad) n c, .slice (some ⟨g, 0, none⟩) n cW, .slice X12 4 y12, .int .i64 ((i : Int).tmod 4), .int .i64 ((k : Int).tmod 4)] (by have c := Reg.consts a; generalize a.eval = ρ at *; simp [execOp, go_sem, c.1, c.2, d5, d6, d12, d14, d16]) ?_
                    refine (HS1.out w1 hW X12 y12 m12).mono ?_
                    rintro e w5 ⟨rfl, hb5⟩
                    exact ⟨_, rfl, rfl, hW.trans (hb5.mono hW.size), fun j v _ hv => by
                        revert hv
                        match j with
                        | 12 => exact fun h => h.on hb5
                        | 28 => exact fun h => h.on hb5
                        | 0 | 1 | 2 | 3 | 4 | 5 | 6 | 7 | 8 | 9 | 10 | 11 | 13 | 14 | 15 | 16 | 17 | 18 | 19 | 20 | 21 | 22 | 23 | 24 | 25 | 26 | 27 | 29 | 30 | 31 | _ + 32 => exact fun h => h⟩
                  · intro a w1 live S E D C h0 hk hW
                    have dg : a.eval (.tmp 56) = .bool false := D 4 rfl _ _ rfl rfl
                    have d17 : a.eval (.tmp 69) = .bool true := D 17 rfl _ _ rfl rfl
                    exact Rgs.val rfl (Reg.wanted_if rfl rfl dg rfl) (.bool false) (by have c := Reg.consts a; generalize a.eval = ρ at *; simp [execOp, go_sem, c.1, c.2, d17]) rfl hW
                  · intro a w1 live S E D C h0 hk hW
                    have d4 : a.eval (.tmp 56) = .bool false := D 4 rfl _ _ rfl rfl
                    have d18 : a.eval (.tmp 70) = .bool false := D 18 rfl _ _ rfl rfl
                    exact Rgs.val rfl (Reg.wanted_free rfl) (.bool false) (by have c := Reg.consts a; generalize a.eval = ρ at *; simp [execOp, go_sem, c.1, c.2, d4, d18]) rfl hW
                  · intro a w1 live S E D C h0 hk hW
                    have d19 : a.eval (.tmp 71) = .bool false := D 19 rfl _ _ rfl rfl
                    exact Rgs.val rfl (Reg.wanted_free rfl) (.bool false) (by have c := Reg.consts a; generalize a.eval = ρ at *; simp [execOp, go_sem, c.1, c.2, d19]) rfl hW
                  · intro a w1 live S E D C h0 hk hW
                    have dg : a.eval (.tmp 72) = .bool false := D 20 rfl _ _ rfl rfl
                    have e5 : a.eval (.tmp 5) = .slice (some ⟨g, 0, none⟩) n cW := E 5 rfl
                    exact Rgs.val rfl (Reg.wanted_if rfl rfl dg rfl) (.slice (some ⟨g, 0, none⟩) n cW) (by have c := Reg.consts a; generalize a.eval = ρ at *; simp [execOp, go_sem, c.1, c.2, e5]) rfl hW
                  · intro a w1 live S E D C h0 hk hW
                    have dg : a.eval (.tmp 72) = .bool false := D 20 rfl _ _ rfl rfl
                    have e2 : a.eval (.tmp 2) = .slice (some ad) n c := E 2 rfl
                    exact Rgs.val rfl (Reg.wanted_if rfl rfl dg rfl) (.slice (some ad) n c) (by have c := Reg.consts a; generalize a.eval = ρ at *; simp [execOp, go_sem, c.1, c.2, e2]) rfl hW
                  · intro a w1 live S E D C h0 hk hW
                    have dg : a.eval (.tmp 72) = .bool false := D 20 rfl _ _ rfl rfl
                    have e2 : a.eval (.tmp 2) = .slice (some ad) n c := E 2 rfl
                    exact Rgs.val rfl (Reg.wanted_if rfl rfl dg rfl) (.slice (some ad) n c) (by have c := Reg.consts a; generalize a.eval = ρ at *; simp [execOp, go_sem, c.1, c.2, e2]) rfl hW
                  · intro a w1 live S E D C h0 hk hW
                    have dg : a.eval (.tmp 72) = .bool false := D 20 rfl _ _ rfl rfl
                    have d23 : a.eval (.tmp 75) = .slice (some ad) n c := D 23 rfl _ _ rfl rfl
                    exact Rgs.val rfl (Reg.wanted_if rfl rfl dg rfl) (.int .i64 (n : Int)) (by have c := Reg.consts a; generalize a.eval = ρ at *; simp [execOp, go_sem, c.1, c.2, d23]) rfl hW
                  · intro a w1 live S E D C h0 hk hW
                    have dg : a.eval (.tmp 72) = .bool false := D 20 rfl _ _ rfl rfl
                    have d24 : a.eval (.tmp 76) = .int .i64 (n : Int) := D 24 rfl _ _ rfl rfl
                    obtain ⟨u1, u2, u3, u4, u5, u6, u8⟩ := HWRP.out
                    exact Rgs.val rfl (Reg.wanted_if rfl rfl dg rfl) (.int .i64 (d : Int)) (by have c := Reg.consts a; generalize a.eval = ρ at *; simp [execOp, go_sem, c.1, c.2, d24, u6, u8]) rfl hW
                  · intro a w1 live S E D C h0 hk hW
                    have dg : a.eval (.tmp 72) = .bool false := D 20 rfl _ _ rfl rfl
                    have d22 : a.eval (.tmp 74) = .slice (some ad) n c := D 22 rfl _ _ rfl rfl
                    have d25 : a.eval (.tmp 77) = .int .i64 (d : Int) := D 25 rfl _ _ rfl rfl
                    obtain ⟨s1, s2, s3, s4⟩ := HSF.out
                    exact Rgs.val rfl (Reg.wanted_if rfl rfl dg rfl) (.slice (some ad) d c) (by have c := Reg.consts a; generalize a.eval = ρ at *; simp [execOp, go_sem, c.1, c.2, d22, d25, s1, s2, s3, s4]) rfl hW
                  · intro a w1 live S E D C h0 hk hW
                    have dg : a.eval (.tmp 72) = .bool false := D 20 rfl _ _ rfl rfl
                    have e1 : a.eval (.tmp 1) = .int .i64 (i : Int) := E 1 rfl
                    exact Rgs.val rfl (Reg.wanted_if rfl rfl dg rfl) (.int .i64 (i : Int)) (by have c := Reg.consts a; generalize a.eval = ρ at *; simp [execOp, go_sem, c.1, c.2, e1]) rfl hW
                  · intro a w1 live S E D C h0 hk hW
                    have dg : a.eval (.tmp 72) = .bool false := D 20 rfl _ _ rfl rfl
                    have d27 : a.eval (.tmp 79) = .int .i64 (i : Int) := D 27 rfl _ _ rfl rfl
                    refine Rgs.call rfl (Reg.wanted_if rfl rfl dg rfl) 14 #[.int .i64 3, .int .i64 ((i : Int))] (by have c := Reg.consts a; generalize a.eval = ρ at *; simp [execOp, go_sem, c.1, c.2, d27]) ?_
                    refine (HDB.out w1).mono ?_
                    intro e w5 hdep
                    obtain ⟨A9, c9, rfl, hc9, hm9, hb5⟩ := hdep.m
                    exact ⟨_, rfl, ⟨A9, c9, rfl, hc9, hm9⟩, hW.trans (hb5.mono hW.size), fun j v _ hv => by
                        revert hv
                        match j with
                        | 12 => exact fun h => h.on hb5
                        | 28 => exact fun h => h.on hb5
                        | 0 | 1 | 2 | 3 | 4 | 5 | 6 | 7 | 8 | 9 | 10 | 11 | 13 | 14 | 15 | 16 | 17 | 18 | 19 | 20 | 21 | 22 | 23 | 24 | 25 | 26 | 27 | 29 | 30 | 31 | _ + 32 => exact fun h => h⟩
                  · intro a w1 live S E D C h0 hk hW
                    have dg : a.eval (.tmp 72) = .bool false := D 20 rfl _ _ rfl rfl
                    have d21 : a.eval (.tmp 73) = .slice (some ⟨g, 0, none⟩) n cW := D 21 rfl _ _ rfl rfl
                    have d26 : a.eval (.tmp 78) = .slice (some ad) d c := D 26 rfl _ _ rfl rfl
                    obtain ⟨X28, y28, d28, q28, m28⟩ : MtW 3 (depF (i : Int)) (a.eval (.tmp 80)) w1 := D 28 rfl _ _ rfl rfl
                    refine Rgs.call rfl (Reg.wanted_if rfl rfl dg rfl) 13 #[.slice (some ⟨g, 0, none⟩) n cW, .slice (some ad) d c, .slice X28 3 y28, .int .i64 0, .int .i64 1] (by have c := Reg.consts a; generalize a.eval = ρ at *; simp [execOp, go_sem, c.1, c.2, d21, d26, d28]) ?_
                    refine (HS2.out w1 hW X28 y28 m28).mono ?_
                    rintro e w5 ⟨rfl, hb5⟩
                    exact ⟨_, rfl, rfl, hW.trans (hb5.mono hW.size), fun j v _ hv => by
                        revert hv
                        match j with
                        | 12 => exact fun h => h.on hb5
                        | 28 => exact fun h => h.on hb5
                        | 0 | 1 | 2 | 3 | 4 | 5 | 6 | 7 | 8 | 9 | 10 | 11 | 13 | 14 | 15 | 16 | 17 | 18 | 19 | 20 | 21 | 22 | 23 | 24 | 25 | 26 | 27 | 29 | 30 | 31 | _ + 32 => exact fun h => h⟩
                  · intro a w1 live S E D C h0 hk hW
                    have dg : a.eval (.tmp 72) = .bool false := D 20 rfl _ _ rfl rfl
                    have d29 : a.eval (.tmp 81) = .bool true := D 29 rfl _ _ rfl rfl
                    exact Rgs.val rfl (Reg.wanted_if rfl rfl dg rfl) (.bool false) (by have c := Reg.consts a; generalize a.eval = ρ at *; simp [execOp, go_sem, c.1, c.2, d29]) rfl hW
                  · intro a w1 live S E D C h0 hk hW
                    have d20 : a.eval (.tmp 72) = .bool false := D 20 rfl _ _ rfl rfl
                    have d30 : a.eval (.tmp 82) = .bool false := D 30 rfl _ _ rfl rfl
                    exact Rgs.val rfl (Reg.wanted_free rfl) (.bool false) (by have c := Reg.consts a; generalize a.eval = ρ at *; simp [execOp, go_sem, c.1, c.2, d20, d30]) rfl hW
                · intro a w4 live hs hd E D Hl hW
                  have e83 : a.eval (.tmp 83) = .bool false := by
                    obtain ⟨v, hv, he⟩ := D 31 _ rfl
                    exact (he 83 rfl).trans hv
                  rw [Rgs.act_ws a _ _ hs hd E [52, 53, 54, 55, 56, 57, 58, 59, 60, 61, 62, 63, 64, 65, 66, 67, 68, 69, 70, 71, 72, 73, 74, 75, 76, 77, 78, 79, 80, 81, 82, 83] (by kernel_rfl)]
                  simp only [List.foldl, List.setIfInBounds_toArray, List.set_cons_succ, List.set_cons_zero, e83]
                  have HB9 := Lib.hid (HB3V.out.trans (Below.mono hW HB3V.out.size))
                  clear E D Hl hW e83 HSA HS1 HS2 HRW
                  generalize a.eval = ρ
                  clear a hs hd
                  go_wp2_with fail
                  go_roundw
                  case rel => exact ⟨(k : Int) + 1, by go_num, by omega, by omega, HB9.out⟩
                  case measure => simp [intOf]; omega
            · have h1d : decide (at_ + 1 < (n : Int)) = false := decide_eq_false h1
              have hsw : swZ L at_ = L := by
                unfold swZ
                rw [if_neg (by have := HLN.out; omega)]
              have hZL : Z = L := HZ.out.trans hsw
              have HRW : Hid (RdR wq wq.heap.size AV n Z) := Lib.hid (by rw [hZL]; exact ⟨HLN.out, by rw [rs_flat]; exact HOB.out.own.rd⟩)
              have HBW := Lib.hid HBQ.out
              clear hsw hZL HOB HBQ
              obtain ⟨wv, hwv⟩ : ∃ wv, wv = wq := ⟨_, rfl⟩
              subst hwv
              go_wp2_with fail
              have HBV := Lib.hid HBW.out
              have HB3V := Lib.hid (HB3.out.trans (HBV.out.mono HB3.out.size))
              clear HBW
              have HSA : Hid (∀ W, Below wv.heap.size wv W → Calls Try.prog 12 #[.slice AY n cY, .slice AV n cW] W (Qui (.bool true) W)) := Lib.hid fun W hb => by
                have h := xsame_any AY AV n n cY cW Z Z W (HRY.out W (HBV.out.trans (hb.mono HBV.out.size))) (HRW.out.on hb) (by omega)
                rw [(sameR_iff Z Z).2 rfl] at h
                exact h
              have HS1 := Lib.hid fun W (hb : Below wv.heap.size wv W) X y (hm : RdM W W.heap.size X 4 (fun _ => 4) (depF ((i : Int) * 37 + at_ * 5))) => sam8_any H (some ad) AV X n n 4 c cW y L Z (depF ((i : Int) * 37 + at_ * 5)) ((i : Int).tmod 4) (at_.tmod 4) W (HRL3.out W (HBV.out.trans (hb.mono HBV.out.size))) (HRW.out.on hb) hm (by omega) (by omega) (by omega) (by omega) (by omega) (by omega) (by omega)
              have HS2 := Lib.hid fun W (hb : Below wv.heap.size wv W) X y (hm : RdM W W.heap.size X 3 (fun _ => 3) (depF (i : Int))) => sam8_any H AV (some ad) X n d 3 cW c y Z (L.take d) (depF (i : Int)) 0 1 W (HRW.out.on hb) (front (HRL3.out W (HBV.out.trans (hb.mono HBV.out.size))) d (by omega)) hm (by omega) (by omega) (by omega) (by omega) (by omega) (by omega) (by omega)
              refine Rgs.region (by kernel_rfl) (by kernel_rfl) (fun (opn : Nat) (vl : Value) (wo : World) => match opn with | 0 => vl = .slice AY n cY | 1 => vl = .slice AV n cW | 2 => vl = .bool true | 3 => vl = .bool false | 4 => vl = .bool false | 5 => vl = .slice (some ad) n c | 6 => vl = .slice AV n cW | 7 => vl = .int .i64 (i : Int) | 8 => vl = .int .i64 ((i : Int) * 37) | 9 => vl = .int .i64 at_ | 10 => vl = .int .i64 (at_ * 5) | 11 => vl = .int .i64 ((i : Int) * 37 + at_ * 5) | 12 => MtW 4 (depF ((i : Int) * 37 + at_ * 5)) vl wo | 13 => vl = .int .i64 (i : Int) | 14 => vl = .int .i64 ((i : Int).tmod 4) | 15 => vl = .int .i64 at_ | 16 => vl = .int .i64 (at_.tmod 4) | 17 => vl = .bool true | 18 => vl = .bool false | 19 => vl = .bool false | 20 => vl = .bool false | 21 => vl = .slice AV n cW | 22 => vl = .slice (some ad) n c | 23 => vl = .slice (some ad) n c | 24 => vl = .int .i64 (n : Int) | 25 => vl = .int .i64 (d : Int) | 26 => vl = .slice (some ad) d c | 27 => vl = .int .i64 (i : Int) | 28 => MtW 3 (depF (i : Int)) vl wo | 29 => vl = .bool true | 30 => vl = .bool false | 31 => vl = .bool false | _ => True) (fun _ _ w' => Below wv.heap.size wv w') (Below.refl _ _).drew (Rgs.steps_of ?_) ?_
              · refine ⟨?_, ?_, ?_, ?_, ?_, ?_, ?_, ?_, ?_, ?_, ?_, ?_, ?_, ?_, ?_, ?_, ?_, ?_, ?_, ?_, ?_, ?_, ?_, ?_, ?_, ?_, ?_, ?_, ?_, ?_, ?_, ?_, trivial⟩
                · intro a w1 live S E D C h0 hk hW
                  have e4 : a.eval (.tmp 4) = .slice AY n cY := E 4 rfl
                  exact Rgs.val rfl (Reg.wanted_free rfl) (.slice AY n cY) (by have c := Reg.consts a; generalize a.eval = ρ at *; simp [execOp, go_sem, c.1, c.2, e4]) rfl hW
                · intro a w1 live S E D C h0 hk hW
                  have e5 : a.eval (.tmp 5) = .slice AV n cW := E 5 rfl
                  exact Rgs.val rfl (Reg.wanted_free rfl) (.slice AV n cW) (by have c := Reg.consts a; generalize a.eval = ρ at *; simp [execOp, go_sem, c.1, c.2, e5]) rfl hW
                · intro a w1 live S E D C h0 hk hW
                  have d0 : a.eval (.tmp 52) = .slice AY n cY := D 0 rfl _ _ rfl rfl
                  have d1 : a.eval (.tmp 53) = .slice AV n cW := D 1 rfl _ _ rfl rfl
                  refine Rgs.call rfl (Reg.wanted_free rfl) 12 #[.slice AY n cY, .slice AV n cW] (by have c := Reg.consts a; generalize a.eval = ρ at *; simp [execOp, go_sem, c.1, c.2, d0, d1]) ?_
                  refine (HSA.out w1 hW).mono ?_
                  rintro e w5 ⟨rfl, q, rfl⟩
                  have hb5 : Below w1.heap.size w1 (w1.drewN q) := Below.drewN (Below.refl _ _) q
                  exact ⟨_, rfl, rfl, hW.trans (hb5.mono hW.size), fun j v _ hv => by
                      revert hv
                      match j with
                      | 12 => exact fun h => h.on hb5
                      | 28 => exact fun h => h.on hb5
                      | 0 | 1 | 2 | 3 | 4 | 5 | 6 | 7 | 8 | 9 | 10 | 11 | 13 | 14 | 15 | 16 | 17 | 18 | 19 | 20 | 21 | 22 | 23 | 24 | 25 | 26 | 27 | 29 | 30 | 31 | _ + 32 => exact fun h => h⟩
                · intro a w1 live S E D C h0 hk hW
                  have d2 : a.eval (.tmp 54) = .bool true := D 2 rfl _ _ rfl rfl
                  exact Rgs.val rfl (Reg.wanted_free rfl) (.bool false) (by have c := Reg.consts a; generalize a.eval = ρ at *; simp [execOp, go_sem, c.1, c.2, d2]) rfl hW
                · intro a w1 live S E D C h0 hk hW
                  have d3 : a.eval (.tmp 55) = .bool false := D 3 rfl _ _ rfl rfl
                  exact Rgs.val rfl (Reg.wanted_free rfl) (.bool false) (by have c := Reg.consts a; generalize a.eval = ρ at *; simp [execOp, go_sem, c.1, c.2, d3]) rfl hW
                · intro a w1 live S E D C h0 hk hW
                  have dg : a.eval (.tmp 56) = .bool false := D 4 rfl _ _ rfl rfl
                  have e2 : a.eval (.tmp 2) = .slice (some ad) n c := E 2 rfl
                  exact Rgs.val rfl (Reg.wanted_if rfl rfl dg rfl) (.slice (some ad) n c) (by have c := Reg.consts a; generalize a.eval = ρ at *; simp [execOp, go_sem, c.1, c.2, e2]) rfl hW
                · intro a w1 live S E D C h0 hk hW
                  have dg : a.eval (.tmp 56) = .bool false := D 4 rfl _ _ rfl rfl
                  have e5 : a.eval (.tmp 5) = .slice AV n cW := E 5 rfl
                  exact Rgs.val rfl (Reg.wanted_if rfl rfl dg rfl) (.slice AV n cW) (by have c := Reg.consts a; generalize a.eval = ρ at *; simp [execOp, go_sem, c.1, c.2, e5]) rfl hW
                · intro a w1 live S E D C h0 hk hW
                  have dg : a.eval (.tmp 56) = .bool false := D 4 rfl _ _ rfl rfl
                  have e1 : a.eval (.tmp 1) = .int .i64 (i : Int) := E 1 rfl
                  exact Rgs.val rfl (Reg.wanted_if rfl rfl dg rfl) (.int .i64 (i : Int)) (by have c := Reg.consts a; generalize a.eval = ρ at *; simp [execOp, go_sem, c.1, c.2, e1]) rfl hW
                · intro a w1 live S E D C h0 hk hW
                  have dg : a.eval (.tmp 56) = .bool false := D 4 rfl _ _ rfl rfl
                  have d7 : a.eval (.tmp 59) = .int .i64 (i : Int) := D 7 rfl _ _ rfl rfl
                  obtain ⟨u1, u2, u3, u4, u5, u6, u8⟩ := HWRP.out
                  exact Rgs.val rfl (Reg.wanted_if rfl rfl dg rfl) (.int .i64 ((i : Int) * 37)) (by have c := Reg.consts a; generalize a.eval = ρ at *; simp [execOp, go_sem, c.1, c.2, d7, u1]) rfl hW
                · intro a w1 live S E D C h0 hk hW
                  have dg : a.eval (.tmp 56) = .bool false := D 4 rfl _ _ rfl rfl
                  have e3 : a.eval (.tmp 3) = .int .i64 at_ := E 3 rfl
                  exact Rgs.val rfl (Reg.wanted_if rfl rfl dg rfl) (.int .i64 at_) (by have c := Reg.consts a; generalize a.eval = ρ at *; simp [execOp, go_sem, c.1, c.2, e3]) rfl hW
                · intro a w1 live S E D C h0 hk hW
                  have dg : a.eval (.tmp 56) = .bool false := D 4 rfl _ _ rfl rfl
                  have d9 : a.eval (.tmp 61) = .int .i64 at_ := D 9 rfl _ _ rfl rfl
                  obtain ⟨u1, u2, u3, u4, u5, u6, u8⟩ := HWRP.out
                  exact Rgs.val rfl (Reg.wanted_if rfl rfl dg rfl) (.int .i64 (at_ * 5)) (by have c := Reg.consts a; generalize a.eval = ρ at *; simp [execOp, go_sem, c.1, c.2, d9, u2]) rfl hW
                · intro a w1 live S E D C h0 hk hW
                  have dg : a.eval (.tmp 56) = .bool false := D 4 rfl _ _ rfl rfl
                  have d8 : a.eval (.tmp 60) = .int .i64 ((i : Int) * 37) := D 8 rfl _ _ rfl rfl
                  have d10 : a.eval (.tmp 62) = .int .i64 (at_ * 5) := D 10 rfl _ _ rfl rfl
                  obtain ⟨u1, u2, u3, u4, u5, u6, u8⟩ := HWRP.out
                  exact Rgs.val rfl (Reg.wanted_if rfl rfl dg rfl) (.int .i64 ((i : Int) * 37 + at_ * 5)) (by have c := Reg.consts a; generalize a.eval = ρ at *; simp [execOp, go_sem, c.1, c.2, d8, d10, u3]) rfl hW
                · intro a w1 live S E D C h0 hk hW
                  have dg : a.eval (.tmp 56) = .bool false := D 4 rfl _ _ rfl rfl
                  have d11 : a.eval (.tmp 63) = .int .i64 ((i : Int) * 37 + at_ * 5) := D 11 rfl _ _ rfl rfl
                  refine Rgs.call rfl (Reg.wanted_if rfl rfl dg rfl) 14 #[.int .i64 4, .int .i64 ((i : Int) * 37 + at_ * 5)] (by have c := Reg.consts a; generalize a.eval = ρ at *; simp [execOp, go_sem, c.1, c.2, d11]) ?_
                  refine (HDA.out w1).mono ?_
                  intro e w5 hdep
                  obtain ⟨A9, c9, rfl, hc9, hm9, hb5⟩ := hdep.m
                  exact ⟨_, rfl, ⟨A9, c9, rfl, hc9, hm9⟩, hW.trans (hb5.mono hW.size), fun j v _ hv => by
                      revert hv
                      match j with
                      | 12 => exact fun h => h.on hb5
                      | 28 => exact fun h => h.on hb5
                      | 0 | 1 | 2 | 3 | 4 | 5 | 6 | 7 | 8 | 9 | 10 | 11 | 13 | 14 | 15 | 16 | 17 | 18 | 19 | 20 | 21 | 22 | 23 | 24 | 25 | 26 | 27 | 29 | 30 | 31 | _ + 32 => exact fun h => h⟩
                · intro a w1 live S E D C h0 hk hW
                  have dg : a.eval (.tmp 56) = .bool false := D 4 rfl _ _ rfl rfl
                  have e1 : a.eval (.tmp 1) = .int .i64 (i : Int) := E 1 rfl
                  exact Rgs.val rfl (Reg.wanted_if rfl rfl dg rfl) (.int .i64 (i : Int)) (by have c := Reg.consts a; generalize a.eval = ρ at *; simp [execOp, go_sem, c.1, c.2, e1]) rfl hW
                · intro a w1 live S E D C h0 hk hW
                  have dg : a.eval (.tmp 56) = .bool false := D 4 rfl _ _ rfl rfl
                  have d13 : a.eval (.tmp 65) = .int .i64 (i : Int) := D 13 rfl _ _ rfl rfl
                  obtain ⟨u1, u2, u3, u4, u5, u6, u8⟩ := HWRP.out
                  exact Rgs.val rfl (Reg.wanted_if rfl rfl dg rfl) (.int .i64 ((i : Int).tmod 4)) (by have c := Reg.consts a; generalize a.eval = ρ at *; simp [execOp, go_sem, c.1, c.2, d13, u4]) rfl hW
                · intro a w1 live S E D C h0 hk hW
                  have dg : a.eval (.tmp 56) = .bool false := D 4 rfl _ _ rfl rfl
                  have e3 : a.eval (.tmp 3) = .int .i64 at_ := E 3 rfl
                  exact Rgs.val rfl (Reg.wanted_if rfl rfl dg rfl) (.int .i64 at_) (by have c := Reg.consts a; generalize a.eval = ρ at *; simp [execOp, go_sem, c.1, c.2, e3]) rfl hW
                · intro a w1 live S E D C h0 hk hW
                  have dg : a.eval (.tmp 56) = .bool false := D 4 rfl _ _ rfl rfl
                  have d15 : a.eval (.tmp 67) = .int .i64 at_ := D 15 rfl _ _ rfl rfl
                  obtain ⟨u1, u2, u3, u4, u5, u6, u8⟩ := HWRP.out
                  exact Rgs.val rfl (Reg.wanted_if rfl rfl dg rfl) (.int .i64 (at_.tmod 4)) (by have c := Reg.consts a; generalize a.eval = ρ at *; simp [execOp, go_sem, c.1, c.2, d15, u5]) rfl hW
                · intro a w1 live S E D C h0 hk hW
                  have dg : a.eval (.tmp 56) = .bool false := D 4 rfl _ _ rfl rfl
                  have d5 : a.eval (.tmp 57) = .slice (some ad) n c := D 5 rfl _ _ rfl rfl
                  have d6 : a.eval (.tmp 58) = .slice AV n cW := D 6 rfl _ _ rfl rfl
                  obtain ⟨X12, y12, d12, q12, m12⟩ : MtW 4 (depF ((i : Int) * 37 + at_ * 5)) (a.eval (.tmp 64)) w1 := D 12 rfl _ _ rfl rfl
                  have d14 : a.eval (.tmp 66) = .int .i64 ((i : Int).tmod 4) := D 14 rfl _ _ rfl rfl
                  have d16 : a.eval (.tmp 68) = .int .i64 (at_.tmod 4) := D 16 rfl _ _ rfl rfl
                  refine Rgs.call rfl (Reg.wanted_if rfl rfl dg rfl) 13 #[.slice (some ad) n c, .slice AV n cW, .slice X12 4 y12, .int .i64 ((i : Int).tmod 4), .int .i64 (at_.tmod 4)] (by have c := Reg.consts a; generalize a.eval = ρ at *; simp [execOp, go_sem, c.1, c.2, d5, d6, d12, d14, d16]) ?_
                  refine (HS1.out w1 hW X12 y12 m12).mono ?_
                  rintro e w5 ⟨rfl, hb5⟩
                  exact ⟨_, rfl, rfl, hW.trans (hb5.mono hW.size), fun j v _ hv => by
                      revert hv
                      match j with
                      | 12 => exact fun h => h.on hb5
                      | 28 => exact fun h => h.on hb5
                      | 0 | 1 | 2 | 3 | 4 | 5 | 6 | 7 | 8 | 9 | 10 | 11 | 13 | 14 | 15 | 16 | 17 | 18 | 19 | 20 | 21 | 22 | 23 | 24 | 25 | 26 | 27 | 29 | 30 | 31 | _ + 32 => exact fun h => h⟩
                · intro a w1 live S E D C h0 hk hW
                  have dg : a.eval (.tmp 56) = .bool false := D 4 rfl _ _ rfl rfl
                  have d17 : a.eval (.tmp 69) = .bool true := D 17 rfl _ _ rfl rfl
                  exact Rgs.val rfl (Reg.wanted_if rfl rfl dg rfl) (.bool false) (by have c := Reg.consts a; generalize a.eval = ρ at *; simp [execOp, go_sem, c.1, c.2, d17]) rfl hW
                · intro a w1 live S E D C h0 hk hW
                  have d4 : a.eval (.tmp 56) = .bool false := D 4 rfl _ _ rfl rfl
                  have d18 : a.eval (.tmp 70) = .bool false := D 18 rfl _ _ rfl rfl
                  exact Rgs.val rfl (Reg.wanted_free rfl) (.bool false) (by have c := Reg.consts a; generalize a.eval = ρ at *; simp [execOp, go_sem, c.1, c.2, d4, d18]) rfl hW
                · intro a w1 live S E D C h0 hk hW
                  have d19 : a.eval (.tmp 71) = .bool false := D 19 rfl _ _ rfl rfl
                  exact Rgs.val rfl (Reg.wanted_free rfl) (.bool false) (by have c := Reg.consts a; generalize a.eval = ρ at *; simp [execOp, go_sem, c.1, c.2, d19]) rfl hW
                · intro a w1 live S E D C h0 hk hW
                  have dg : a.eval (.tmp 72) = .bool false := D 20 rfl _ _ rfl rfl
                  have e5 : a.eval (.tmp 5) = .slice AV n cW := E 5 rfl
                  exact Rgs.val rfl (Reg.wanted_if rfl rfl dg rfl) (.slice AV n cW) (by have c := Reg.consts a; generalize a.eval = ρ at *; simp [execOp, go_sem, c.1, c.2, e5]) rfl hW
                · intro a w1 live S E D C h0 hk hW
                  have dg : a.eval (.tmp 72) = .bool false := D 20 rfl _ _ rfl rfl
                  have e2 : a.eval (.tmp 2) = .slice (some ad) n c := E 2 rfl
                  exact Rgs.val rfl (Reg.wanted_if rfl rfl dg rfl) (.slice (some ad) n c) (by have c := Reg.consts a; generalize a.eval = ρ at *; simp [execOp, go_sem, c.1, c.2, e2]) rfl hW
                · intro a w1 live S E D C h0 hk hW
                  have dg : a.eval (.tmp 72) = .bool false := D 20 rfl _ _ rfl rfl
                  have e2 : a.eval (.tmp 2) = .slice (some ad) n c := E 2 rfl
                  exact Rgs.val rfl (Reg.wanted_if rfl rfl dg rfl) (.slice (some ad) n c) (by have c := Reg.consts a; generalize a.eval = ρ at *; simp [execOp, go_sem, c.1, c.2, e2]) rfl hW
                · intro a w1 live S E D C h0 hk hW
                  have dg : a.eval (.tmp 72) = .bool false := D 20 rfl _ _ rfl rfl
                  have d23 : a.eval (.tmp 75) = .slice (some ad) n c := D 23 rfl _ _ rfl rfl
                  exact Rgs.val rfl (Reg.wanted_if rfl rfl dg rfl) (.int .i64 (n : Int)) (by have c := Reg.consts a; generalize a.eval = ρ at *; simp [execOp, go_sem, c.1, c.2, d23]) rfl hW
                · intro a w1 live S E D C h0 hk hW
                  have dg : a.eval (.tmp 72) = .bool false := D 20 rfl _ _ rfl rfl
                  have d24 : a.eval (.tmp 76) = .int .i64 (n : Int) := D 24 rfl _ _ rfl rfl
                  obtain ⟨u1, u2, u3, u4, u5, u6, u8⟩ := HWRP.out
                  exact Rgs.val rfl (Reg.wanted_if rfl rfl dg rfl) (.int .i64 (d : Int)) (by have c := Reg.consts a; generalize a.eval = ρ at *; simp [execOp, go_sem, c.1, c.2, d24, u6, u8]) rfl hW
                · intro a w1 live S E D C h0 hk hW
                  have dg : a.eval (.tmp 72) = .bool false := D 20 rfl _ _ rfl rfl
                  have d22 : a.eval (.tmp 74) = .slice (some ad) n c := D 22 rfl _ _ rfl rfl
                  have d25 : a.eval (.tmp 77) = .int .i64 (d : Int) := D 25 rfl _ _ rfl rfl
                  obtain ⟨s1, s2, s3, s4⟩ := HSF.out
                  exact Rgs.val rfl (Reg.wanted_if rfl rfl dg rfl) (.slice (some ad) d c) (by have c := Reg.consts a; generalize a.eval = ρ at *; simp [execOp, go_sem, c.1, c.2, d22, d25, s1, s2, s3, s4]) rfl hW
                · intro a w1 live S E D C h0 hk hW
                  have dg : a.eval (.tmp 72) = .bool false := D 20 rfl _ _ rfl rfl
                  have e1 : a.eval (.tmp 1) = .int .i64 (i : Int) := E 1 rfl
                  exact Rgs.val rfl (Reg.wanted_if rfl rfl dg rfl) (.int .i64 (i : Int)) (by have c := Reg.consts a; generalize a.eval = ρ at *; simp [execOp, go_sem, c.1, c.2, e1]) rfl hW
                · intro a w1 live S E D C h0 hk hW
                  have dg : a.eval (.tmp 72) = .bool false := D 20 rfl _ _ rfl rfl
                  have d27 : a.eval (.tmp 79) = .int .i64 (i : Int) := D 27 rfl _ _ rfl rfl
                  refine Rgs.call rfl (Reg.wanted_if rfl rfl dg rfl) 14 #[.int .i64 3, .int .i64 ((i : Int))] (by have c := Reg.consts a; generalize a.eval = ρ at *; simp [execOp, go_sem, c.1, c.2, d27]) ?_
                  refine (HDB.out w1).mono ?_
                  intro e w5 hdep
                  obtain ⟨A9, c9, rfl, hc9, hm9, hb5⟩ := hdep.m
                  exact ⟨_, rfl, ⟨A9, c9, rfl, hc9, hm9⟩, hW.trans (hb5.mono hW.size), fun j v _ hv => by
                      revert hv
                      match j with
                      | 12 => exact fun h => h.on hb5
                      | 28 => exact fun h => h.on hb5
                      | 0 | 1 | 2 | 3 | 4 | 5 | 6 | 7 | 8 | 9 | 10 | 11 | 13 | 14 | 15 | 16 | 17 | 18 | 19 | 20 | 21 | 22 | 23 | 24 | 25 | 26 | 27 | 29 | 30 | 31 | _ + 32 => exact fun h => h⟩
                · intro a w1 live S E D C h0 hk hW
                  have dg : a.eval (.tmp 72) = .bool false := D 20 rfl _ _ rfl rfl
                  have d21 : a.eval (.tmp 73) = .slice AV n cW := D 21 rfl _ _ rfl rfl
                  have d26 : a.eval (.tmp 78) = .slice (some ad) d c := D 26 rfl _ _ rfl rfl
                  obtain ⟨X28, y28, d28, q28, m28⟩ : MtW 3 (depF (i : Int)) (a.eval (.tmp 80)) w1 := D 28 rfl _ _ rfl rfl
                  refine Rgs.call rfl (Reg.wanted_if rfl rfl dg rfl) 13 #[.slice AV n cW, .slice (some ad) d c, .slice X28 3 y28, .int .i64 0, .int .i64 1] (by have c := Reg.consts a; generalize a.eval = ρ at *; simp [execOp, go_sem, c.1, c.2, d21, d26, d28]) ?_
                  refine (HS2.out w1 hW X28 y28 m28).mono ?_
                  rintro e w5 ⟨rfl, hb5⟩
                  exact ⟨_, rfl, rfl, hW.trans (hb5.mono hW.size), fun j v _ hv => by
                      revert hv
                      match j with
                      | 12 => exact fun h => h.on hb5
                      | 28 => exact fun h => h.on hb5
                      | 0 | 1 | 2 | 3 | 4 | 5 | 6 | 7 | 8 | 9 | 10 | 11 | 13 | 14 | 15 | 16 | 17 | 18 | 19 | 20 | 21 | 22 | 23 | 24 | 25 | 26 | 27 | 29 | 30 | 31 | _ + 32 => exact fun h => h⟩
                · intro a w1 live S E D C h0 hk hW
                  have dg : a.eval (.tmp 72) = .bool false := D 20 rfl _ _ rfl rfl
                  have d29 : a.eval (.tmp 81) = .bool true := D 29 rfl _ _ rfl rfl
                  exact Rgs.val rfl (Reg.wanted_if rfl rfl dg rfl) (.bool false) (by have c := Reg.consts a; generalize a.eval = ρ at *; simp [execOp, go_sem, c.1, c.2, d29]) rfl hW
                · intro a w1 live S E D C h0 hk hW
                  have d20 : a.eval (.tmp 72) = .bool false := D 20 rfl _ _ rfl rfl
                  have d30 : a.eval (.tmp 82) = .bool false := D 30 rfl _ _ rfl rfl
                  exact Rgs.val rfl (Reg.wanted_free rfl) (.bool false) (by have c := Reg.consts a; generalize a.eval = ρ at *; simp [execOp, go_sem, c.1, c.2, d20, d30]) rfl hW
              · intro a w4 live hs hd E D Hl hW
                have e83 : a.eval (.tmp 83) = .bool false := by
                  obtain ⟨v, hv, he⟩ := D 31 _ rfl
                  exact (he 83 rfl).trans hv
                rw [Rgs.act_ws a _ _ hs hd E [52, 53, 54, 55, 56, 57, 58, 59, 60, 61, 62, 63, 64, 65, 66, 67, 68, 69, 70, 71, 72, 73, 74, 75, 76, 77, 78, 79, 80, 81, 82, 83] (by kernel_rfl)]
                simp only [List.foldl, List.setIfInBounds_toArray, List.set_cons_succ, List.set_cons_zero, e83]
                have HB9 := Lib.hid (HB3V.out.trans (Below.mono hW HB3V.out.size))
                clear E D Hl hW e83 HSA HS1 HS2 HRW
                generalize a.eval = ρ
                clear a hs hd
                go_wp2_with fail
                go_roundw
                case rel => exact ⟨at_ + 1, by go_num, by omega, by omega, HB9.out⟩
                case measure => simp [intOf]; omega
          · have h0d : decide ((0 : Int) ≤ at_) = false := decide_eq_false h0
            have hsw : swZ L at_ = L := by
              unfold swZ
              rw [if_neg (by omega)]
            have hZL : Z = L := HZ.out.trans hsw
            have HRW : Hid (RdR wq wq.heap.size AV n Z) := Lib.hid (by rw [hZL]; exact ⟨HLN.out, by rw [rs_flat]; exact HOB.out.own.rd⟩)
            have HBW := Lib.hid HBQ.out
            clear hsw hZL HOB HBQ
            obtain ⟨wv, hwv⟩ : ∃ wv, wv = wq := ⟨_, rfl⟩
            subst hwv
            go_wp2_with fail
            have HBV := Lib.hid HBW.out
            have HB3V := Lib.hid (HB3.out.trans (HBV.out.mono HB3.out.size))
            clear HBW
            have HSA : Hid (∀ W, Below wv.heap.size wv W → Calls Try.prog 12 #[.slice AY n cY, .slice AV n cW] W (Qui (.bool true) W)) := Lib.hid fun W hb => by
              have h := xsame_any AY AV n n cY cW Z Z W (HRY.out W (HBV.out.trans (hb.mono HBV.out.size))) (HRW.out.on hb) (by omega)
              rw [(sameR_iff Z Z).2 rfl] at h
              exact h
            have HS1 := Lib.hid fun W (hb : Below wv.heap.size wv W) X y (hm : RdM W W.heap.size X 4 (fun _ => 4) (depF ((i : Int) * 37 + at_ * 5))) => sam8_any H (some ad) AV X n n 4 c cW y L Z (depF ((i : Int) * 37 + at_ * 5)) ((i : Int).tmod 4) (at_.tmod 4) W (HRL3.out W (HBV.out.trans (hb.mono HBV.out.size))) (HRW.out.on hb) hm (by omega) (by omega) (by omega) (by omega) (by omega) (by omega) (by omega)
            have HS2 := Lib.hid fun W (hb : Below wv.heap.size wv W) X y (hm : RdM W W.heap.size X 3 (fun _ => 3) (depF (i : Int))) => sam8_any H AV (some ad) X n d 3 cW c y Z (L.take d) (depF (i : Int)) 0 1 W (HRW.out.on hb) (front (HRL3.out W (HBV.out.trans (hb.mono HBV.out.size))) d (by omega)) hm (by omega) (by omega) (by omega) (by omega) (by omega) (by omega) (by omega)
            refine Rgs.region (by kernel_rfl) (by kernel_rfl) (fun (opn : Nat) (vl : Value) (wo : World) => match opn with | 0 => vl = .slice AY n cY | 1 => vl = .slice AV n cW | 2 => vl = .bool true | 3 => vl = .bool false | 4 => vl = .bool false | 5 => vl = .slice (some ad) n c | 6 => vl = .slice AV n cW | 7 => vl = .int .i64 (i : Int) | 8 => vl = .int .i64 ((i : Int) * 37) | 9 => vl = .int .i64 at_ | 10 => vl = .int .i64 (at_ * 5) | 11 => vl = .int .i64 ((i : Int) * 37 + at_ * 5) | 12 => MtW 4 (depF ((i : Int) * 37 + at_ * 5)) vl wo | 13 => vl = .int .i64 (i : Int) | 14 => vl = .int .i64 ((i : Int).tmod 4) | 15 => vl = .int .i64 at_ | 16 => vl = .int .i64 (at_.tmod 4) | 17 => vl = .bool true | 18 => vl = .bool false | 19 => vl = .bool false | 20 => vl = .bool false | 21 => vl = .slice AV n cW | 22 => vl = .slice (some ad) n c | 23 => vl = .slice (some ad) n c | 24 => vl = .int .i64 (n : Int) | 25 => vl = .int .i64 (d : Int) | 26 => vl = .slice (some ad) d c | 27 => vl = .int .i64 (i : Int) | 28 => MtW 3 (depF (i : Int)) vl wo | 29 => vl = .bool true | 30 => vl = .bool false | 31 => vl = .bool false | _ => True) (fun _ _ w' => Below wv.heap.size wv w') (Below.refl _ _).drew (Rgs.steps_of ?_) ?_
            · refine ⟨?_, ?_, ?_, ?_, ?_, ?_, ?_, ?_, ?_, ?_, ?_, ?_, ?_, ?_, ?_, ?_, ?_, ?_, ?_, ?_, ?_, ?_, ?_, ?_, ?_, ?_, ?_, ?_, ?_, ?_, ?_, ?_, trivial⟩
              · intro a w1 live S E D C h0 hk hW
                have e4 : a.eval (.tmp 4) = .slice AY n cY := E 4 rfl
                exact Rgs.val rfl (Reg.wanted_free rfl) (.slice AY n cY) (by have c := Reg.consts a; generalize a.eval = ρ at *; simp [execOp, go_sem, c.1, c.2, e4]) rfl hW
              · intro a w1 live S E D C h0 hk hW
                have e5 : a.eval (.tmp 5) = .slice AV n cW := E 5 rfl
                exact Rgs.val rfl (Reg.wanted_free rfl) (.slice AV n cW) (by have c := Reg.consts a; generalize a.eval = ρ at *; simp [execOp, go_sem, c.1, c.2, e5]) rfl hW
              · intro a w1 live S E D C h0 hk hW
                have d0 : a.eval (.tmp 52) = .slice AY n cY := D 0 rfl _ _ rfl rfl
                have d1 : a.eval (.tmp 53) = .slice AV n cW := D 1 rfl _ _ rfl rfl
                refine Rgs.call rfl (Reg.wanted_free rfl) 12 #[.slice AY n cY, .slice AV n cW] (by have c := Reg.consts a; generalize a.eval = ρ at *; simp [execOp, go_sem, c.1, c.2, d0, d1]) ?_
                refine (HSA.out w1 hW).mono ?_
                rintro e w5 ⟨rfl, q, rfl⟩
                have hb5 : Below w1.heap.size w1 (w1.drewN q) := Below.drewN (Below.refl _ _) q
                exact ⟨_, rfl, rfl, hW.trans (hb5.mono hW.size), fun j v _ hv => by
                    revert hv
                    match j with
                    | 12 => exact fun h => h.on hb5
                    | 28 => exact fun h => h.on hb5
                    | 0 | 1 | 2 | 3 | 4 | 5 | 6 | 7 | 8 | 9 | 10 | 11 | 13 | 14 | 15 | 16 | 17 | 18 | 19 | 20 | 21 | 22 | 23 | 24 | 25 | 26 | 27 | 29 | 30 | 31 | _ + 32 => exact fun h => h⟩
              · intro a w1 live S E D C h0 hk hW
                have d2 : a.eval (.tmp 54) = .bool true := D 2 rfl _ _ rfl rfl
                exact Rgs.val rfl (Reg.wanted_free rfl) (.bool false) (by have c := Reg.consts a; generalize a.eval = ρ at *; simp [execOp, go_sem, c.1, c.2, d2]) rfl hW
              · intro a w1 live S E D C h0 hk hW
                have d3 : a.eval (.tmp 55) = .bool false := D 3 rfl _ _ rfl rfl
                exact Rgs.val rfl (Reg.wanted_free rfl) (.bool false) (by have c := Reg.consts a; generalize a.eval = ρ at *; simp [execOp, go_sem, c.1, c.2, d3]) rfl hW
              · intro a w1 live S E D C h0 hk hW
                have dg : a.eval (.tmp 56) = .bool false := D 4 rfl _ _ rfl rfl
                have e2 : a.eval (.tmp 2) = .slice (some ad) n c := E 2 rfl
                exact Rgs.val rfl (Reg.wanted_if rfl rfl dg rfl) (.slice (some ad) n c) (by have c := Reg.consts a; generalize a.eval = ρ at *; simp [execOp, go_sem, c.1, c.2, e2]) rfl hW
              · intro a w1 live S E D C h0 hk hW
                have dg : a.eval (.tmp 56) = .bool false := D 4 rfl _ _ rfl rfl
                have e5 : a.eval (.tmp 5) = .slice AV n cW := E 5 rfl
                exact Rgs.val rfl (Reg.wanted_if rfl rfl dg rfl) (.slice AV n cW) (by have c := Reg.consts a; generalize a.eval = ρ at *; simp [execOp, go_sem, c.1, c.2, e5]) rfl hW
              · intro a w1 live S E D C h0 hk hW
                have dg : a.eval (.tmp 56) = .bool false := D 4 rfl _ _ rfl rfl
                have e1 : a.eval (.tmp 1) = .int .i64 (i : Int) := E 1 rfl
                exact Rgs.val rfl (Reg.wanted_if rfl rfl dg rfl) (.int .i64 (i : Int)) (by have c := Reg.consts a; generalize a.eval = ρ at *; simp [execOp, go_sem, c.1, c.2, e1]) rfl hW
              · intro a w1 live S E D C h0 hk hW
                have dg : a.eval (.tmp 56) = .bool false := D 4 rfl _ _ rfl rfl
                have d7 : a.eval (.tmp 59) = .int .i64 (i : Int) := D 7 rfl _ _ rfl rfl
                obtain ⟨u1, u2, u3, u4, u5, u6, u8⟩ := HWRP.out
                exact Rgs.val rfl (Reg.wanted_if rfl rfl dg rfl) (.int .i64 ((i : Int) * 37)) (by have c := Reg.consts a; generalize a.eval = ρ at *; simp [execOp, go_sem, c.1, c.2, d7, u1]) rfl hW
              · intro a w1 live S E D C h0 hk hW
                have dg : a.eval (.tmp 56) = .bool false := D 4 rfl _ _ rfl rfl
                have e3 : a.eval (.tmp 3) = .int .i64 at_ := E 3 rfl
                exact Rgs.val rfl (Reg.wanted_if rfl rfl dg rfl) (.int .i64 at_) (by have c := Reg.consts a; generalize a.eval = ρ at *; simp [execOp, go_sem, c.1, c.2, e3]) rfl hW
              · intro a w1 live S E D C h0 hk hW
                have dg : a.eval (.tmp 56) = .bool false := D 4 rfl _ _ rfl rfl
                have d9 : a.eval (.tmp 61) = .int .i64 at_ := D 9 rfl _ _ rfl rfl
                obtain ⟨u1, u2, u3, u4, u5, u6, u8⟩ := HWRP.out
                exact Rgs.val rfl (Reg.wanted_if rfl rfl dg rfl) (.int .i64 (at_ * 5)) (by have c := Reg.consts a; generalize a.eval = ρ at *; simp [execOp, go_sem, c.1, c.2, d9, u2]) rfl hW
              · intro a w1 live S E D C h0 hk hW
                have dg : a.eval (.tmp 56) = .bool false := D 4 rfl _ _ rfl rfl
                have d8 : a.eval (.tmp 60) = .int .i64 ((i : Int) * 37) := D 8 rfl _ _ rfl rfl
                have d10 : a.eval (.tmp 62) = .int .i64 (at_ * 5) := D 10 rfl _ _ rfl rfl
                obtain ⟨u1, u2, u3, u4, u5, u6, u8⟩ := HWRP.out
                exact Rgs.val rfl (Reg.wanted_if rfl rfl dg rfl) (.int .i64 ((i : Int) * 37 + at_ * 5)) (by have c := Reg.consts a; generalize a.eval = ρ at *; simp [execOp, go_sem, c.1, c.2, d8, d10, u3]) rfl hW
              · intro a w1 live S E D C h0 hk hW
                have dg : a.eval (.tmp 56) = .bool false := D 4 rfl _ _ rfl rfl
                have d11 : a.eval (.tmp 63) = .int .i64 ((i : Int) * 37 + at_ * 5) := D 11 rfl _ _ rfl rfl
                refine Rgs.call rfl (Reg.wanted_if rfl rfl dg rfl) 14 #[.int .i64 4, .int .i64 ((i : Int) * 37 + at_ * 5)] (by have c := Reg.consts a; generalize a.eval = ρ at *; simp [execOp, go_sem, c.1, c.2, d11]) ?_
                refine (HDA.out w1).mono ?_
                intro e w5 hdep
                obtain ⟨A9, c9, rfl, hc9, hm9, hb5⟩ := hdep.m
                exact ⟨_, rfl, ⟨A9, c9, rfl, hc9, hm9⟩, hW.trans (hb5.mono hW.size), fun j v _ hv => by
                    revert hv
                    match j with
                    | 12 => exact fun h => h.on hb5
                    | 28 => exact fun h => h.on hb5
                    | 0 | 1 | 2 | 3 | 4 | 5 | 6 | 7 | 8 | 9 | 10 | 11 | 13 | 14 | 15 | 16 | 17 | 18 | 19 | 20 | 21 | 22 | 23 | 24 | 25 | 26 | 27 | 29 | 30 | 31 | _ + 32 => exact fun h => h⟩
              · intro a w1 live S E D C h0 hk hW
                have dg : a.eval (.tmp 56) = .bool false := D 4 rfl _ _ rfl rfl
                have e1 : a.eval (.tmp 1) = .int .i64 (i : Int) := E 1 rfl
                exact Rgs.val rfl (Reg.wanted_if rfl rfl dg rfl) (.int .i64 (i : Int)) (by have c := Reg.consts a; generalize a.eval = ρ at *; simp [execOp, go_sem, c.1, c.2, e1]) rfl hW
              · intro a w1 live S E D C h0 hk hW
                have dg : a.eval (.tmp 56) = .bool false := D 4 rfl _ _ rfl rfl
                have d13 : a.eval (.tmp 65) = .int .i64 (i : Int) := D 13 rfl _ _ rfl rfl
                obtain ⟨u1, u2, u3, u4, u5, u6, u8⟩ := HWRP.out
                exact Rgs.val rfl (Reg.wanted_if rfl rfl dg rfl) (.int .i64 ((i : Int).tmod 4)) (by have c := Reg.consts a; generalize a.eval = ρ at *; simp [execOp, go_sem, c.1, c.2, d13, u4]) rfl hW
              · intro a w1 live S E D C h0 hk hW
                have dg : a.eval (.tmp 56) = .bool false := D 4 rfl _ _ rfl rfl
                have e3 : a.eval (.tmp 3) = .int .i64 at_ := E 3 rfl
                exact Rgs.val rfl (Reg.wanted_if rfl rfl dg rfl) (.int .i64 at_) (by have c := Reg.consts a; generalize a.eval = ρ at *; simp [execOp, go_sem, c.1, c.2, e3]) rfl hW
              · intro a w1 live S E D C h0 hk hW
                have dg : a.eval (.tmp 56) = .bool false := D 4 rfl _ _ rfl rfl
                have d15 : a.eval (.tmp 67) = .int .i64 at_ := D 15 rfl _ _ rfl rfl
                obtain ⟨u1, u2, u3, u4, u5, u6, u8⟩ := HWRP.out
                exact Rgs.val rfl (Reg.wanted_if rfl rfl dg rfl) (.int .i64 (at_.tmod 4)) (by have c := Reg.consts a; generalize a.eval = ρ at *; simp [execOp, go_sem, c.1, c.2, d15, u5]) rfl hW
              · intro a w1 live S E D C h0 hk hW
                have dg : a.eval (.tmp 56) = .bool false := D 4 rfl _ _ rfl rfl
                have d5 : a.eval (.tmp 57) = .slice (some ad) n c := D 5 rfl _ _ rfl rfl
                have d6 : a.eval (.tmp 58) = .slice AV n cW := D 6 rfl _ _ rfl rfl
                obtain ⟨X12, y12, d12, q12, m12⟩ : MtW 4 (depF ((i : Int) * 37 + at_ * 5)) (a.eval (.tmp 64)) w1 := D 12 rfl _ _ rfl rfl
                have d14 : a.eval (.tmp 66) = .int .i64 ((i : Int).tmod 4) := D 14 rfl _ _ rfl rfl
                have d16 : a.eval (.tmp 68) = .int .i64 (at_.tmod 4) := D 16 rfl _ _ rfl rfl
                refine Rgs.call rfl (Reg.wanted_if rfl rfl dg rfl) 13 #[.slice (some ad) n c, .slice AV n cW, .slice X12 4 y12, .int .i64 ((i : Int).tmod 4), .int .i64 (at_.tmod 4)] (by have c := Reg.consts a; generalize a.eval = ρ at *; simp [execOp, go_sem, c.1, c.2, d5, d6, d12, d14, d16]) ?_
                refine (HS1.out w1 hW X12 y12 m12).mono ?_
                rintro e w5 ⟨rfl, hb5⟩
                exact ⟨_, rfl, rfl, hW.trans (hb5.mono hW.size), fun j v _ hv => by
                    revert hv
                    match j with
                    | 12 => exact fun h => h.on hb5
                    | 28 => exact fun h => h.on hb5
                    | 0 | 1 | 2 | 3 | 4 | 5 | 6 | 7 | 8 | 9 | 10 | 11 | 13 | 14 | 15 | 16 | 17 | 18 | 19 | 20 | 21 | 22 | 23 | 24 | 25 | 26 | 27 | 29 | 30 | 31 | _ + 32 => exact fun h => h⟩
              · intro a w1 live S E D C h0 hk hW
                have dg : a.eval (.tmp 56) = .bool false := D 4 rfl _ _ rfl rfl
                have d17 : a.eval (.tmp 69) = .bool true := D 17 rfl _ _ rfl rfl
                exact Rgs.val rfl (Reg.wanted_if rfl rfl dg rfl) (.bool false) (by have c := Reg.consts a; generalize a.eval = ρ at *; simp [execOp, go_sem, c.1, c.2, d17]) rfl hW
              · intro a w1 live S E D C h0 hk hW
                have d4 : a.eval (.tmp 56) = .bool false := D 4 rfl _ _ rfl rfl
                have d18 : a.eval (.tmp 70) = .bool false := D 18 rfl _ _ rfl rfl
                exact Rgs.val rfl (Reg.wanted_free rfl) (.bool false) (by have c := Reg.consts a; generalize a.eval = ρ at *; simp [execOp, go_sem, c.1, c.2, d4, d18]) rfl hW
              · intro a w1 live S E D C h0 hk hW
                have d19 : a.eval (.tmp 71) = .bool false := D 19 rfl _ _ rfl rfl
                exact Rgs.val rfl (Reg.wanted_free rfl) (.bool false) (by have c := Reg.consts a; generalize a.eval = ρ at *; simp [execOp, go_sem, c.1, c.2, d19]) rfl hW
              · intro a w1 live S E D C h0 hk hW
                have dg : a.eval (.tmp 72) = .bool false := D 20 rfl _ _ rfl rfl
                have e5 : a.eval (.tmp 5) = .slice AV n cW := E 5 rfl
                exact Rgs.val rfl (Reg.wanted_if rfl rfl dg rfl) (.slice AV n cW) (by have c := Reg.consts a; generalize a.eval = ρ at *; simp [execOp, go_sem, c.1, c.2, e5]) rfl hW
              · intro a w1 live S E D C h0 hk hW
                have dg : a.eval (.tmp 72) = .bool false := D 20 rfl _ _ rfl rfl
                have e2 : a.eval (.tmp 2) = .slice (some ad) n c := E 2 rfl
                exact Rgs.val rfl (Reg.wanted_if rfl rfl dg rfl) (.slice (some ad) n c) (by have c := Reg.consts a; generalize a.eval = ρ at *; simp [execOp, go_sem, c.1, c.2, e2]) rfl hW
              · intro a w1 live S E D C h0 hk hW
                have dg : a.eval (.tmp 72) = .bool false := D 20 rfl _ _ rfl rfl
                have e2 : a.eval (.tmp 2) = .slice (some ad) n c := E 2 rfl
                exact Rgs.val rfl (Reg.wanted_if rfl rfl dg rfl) (.slice (some ad) n c) (by have c := Reg.consts a; generalize a.eval = ρ at *; simp [execOp, go_sem, c.1, c.2, e2]) rfl hW
              · intro a w1 live S E D C h0 hk hW
                have dg : a.eval (.tmp 72) = .bool false := D 20 rfl _ _ rfl rfl
                have d23 : a.eval (.tmp 75) = .slice (some ad) n c := D 23 rfl _ _ rfl rfl
                exact Rgs.val rfl (Reg.wanted_if rfl rfl dg rfl) (.int .i64 (n : Int)) (by have c := Reg.consts a; generalize a.eval = ρ at *; simp [execOp, go_sem, c.1, c.2, d23]) rfl hW
              · intro a w1 live S E D C h0 hk hW
                have dg : a.eval (.tmp 72) = .bool false := D 20 rfl _ _ rfl rfl
                have d24 : a.eval (.tmp 76) = .int .i64 (n : Int) := D 24 rfl _ _ rfl rfl
                obtain ⟨u1, u2, u3, u4, u5, u6, u8⟩ := HWRP.out
                exact Rgs.val rfl (Reg.wanted_if rfl rfl dg rfl) (.int .i64 (d : Int)) (by have c := Reg.consts a; generalize a.eval = ρ at *; simp [execOp, go_sem, c.1, c.2, d24, u6, u8]) rfl hW
              · intro a w1 live S E D C h0 hk hW
                have dg : a.eval (.tmp 72) = .bool false := D 20 rfl _ _ rfl rfl
                have d22 : a.eval (.tmp 74) = .slice (some ad) n c := D 22 rfl _ _ rfl rfl
                have d25 : a.eval (.tmp 77) = .int .i64 (d : Int) := D 25 rfl _ _ rfl rfl
                obtain ⟨s1, s2, s3, s4⟩ := HSF.out
                exact Rgs.val rfl (Reg.wanted_if rfl rfl dg rfl) (.slice (some ad) d c) (by have c := Reg.consts a; generalize a.eval = ρ at *; simp [execOp, go_sem, c.1, c.2, d22, d25, s1, s2, s3, s4]) rfl hW
              · intro a w1 live S E D C h0 hk hW
                have dg : a.eval (.tmp 72) = .bool false := D 20 rfl _ _ rfl rfl
                have e1 : a.eval (.tmp 1) = .int .i64 (i : Int) := E 1 rfl
                exact Rgs.val rfl (Reg.wanted_if rfl rfl dg rfl) (.int .i64 (i : Int)) (by have c := Reg.consts a; generalize a.eval = ρ at *; simp [execOp, go_sem, c.1, c.2, e1]) rfl hW
              · intro a w1 live S E D C h0 hk hW
                have dg : a.eval (.tmp 72) = .bool false := D 20 rfl _ _ rfl rfl
                have d27 : a.eval (.tmp 79) = .int .i64 (i : Int) := D 27 rfl _ _ rfl rfl
                refine Rgs.call rfl (Reg.wanted_if rfl rfl dg rfl) 14 #[.int .i64 3, .int .i64 ((i : Int))] (by have c := Reg.consts a; generalize a.eval = ρ at *; simp [execOp, go_sem, c.1, c.2, d27]) ?_
                refine (HDB.out w1).mono ?_
                intro e w5 hdep
                obtain ⟨A9, c9, rfl, hc9, hm9, hb5⟩ := hdep.m
                exact ⟨_, rfl, ⟨A9, c9, rfl, hc9, hm9⟩, hW.trans (hb5.mono hW.size), fun j v _ hv => by
                    revert hv
                    match j with
                    | 12 => exact fun h => h.on hb5
                    | 28 => exact fun h => h.on hb5
                    | 0 | 1 | 2 | 3 | 4 | 5 | 6 | 7 | 8 | 9 | 10 | 11 | 13 | 14 | 15 | 16 | 17 | 18 | 19 | 20 | 21 | 22 | 23 | 24 | 25 | 26 | 27 | 29 | 30 | 31 | _ + 32 => exact fun h => h⟩
              · intro a w1 live S E D C h0 hk hW
                have dg : a.eval (.tmp 72) = .bool false := D 20 rfl _ _ rfl rfl
                have d21 : a.eval (.tmp 73) = .slice AV n cW := D 21 rfl _ _ rfl rfl
                have d26 : a.eval (.tmp 78) = .slice (some ad) d c := D 26 rfl _ _ rfl rfl
                obtain ⟨X28, y28, d28, q28, m28⟩ : MtW 3 (depF (i : Int)) (a.eval (.tmp 80)) w1 := D 28 rfl _ _ rfl rfl
                refine Rgs.call rfl (Reg.wanted_if rfl rfl dg rfl) 13 #[.slice AV n cW, .slice (some ad) d c, .slice X28 3 y28, .int .i64 0, .int .i64 1] (by have c := Reg.consts a; generalize a.eval = ρ at *; simp [execOp, go_sem, c.1, c.2, d21, d26, d28]) ?_
                refine (HS2.out w1 hW X28 y28 m28).mono ?_
                rintro e w5 ⟨rfl, hb5⟩
                exact ⟨_, rfl, rfl, hW.trans (hb5.mono hW.size), fun j v _ hv => by
                    revert hv
                    match j with
                    | 12 => exact fun h => h.on hb5
                    | 28 => exact fun h => h.on hb5
                    | 0 | 1 | 2 | 3 | 4 | 5 | 6 | 7 | 8 | 9 | 10 | 11 | 13 | 14 | 15 | 16 | 17 | 18 | 19 | 20 | 21 | 22 | 23 | 24 | 25 | 26 | 27 | 29 | 30 | 31 | _ + 32 => exact fun h => h⟩
              · intro a w1 live S E D C h0 hk hW
                have dg : a.eval (.tmp 72) = .bool false := D 20 rfl _ _ rfl rfl
                have d29 : a.eval (.tmp 81) = .bool true := D 29 rfl _ _ rfl rfl
                exact Rgs.val rfl (Reg.wanted_if rfl rfl dg rfl) (.bool false) (by have c := Reg.consts a; generalize a.eval = ρ at *; simp [execOp, go_sem, c.1, c.2, d29]) rfl hW
              · intro a w1 live S E D C h0 hk hW
                have d20 : a.eval (.tmp 72) = .bool false := D 20 rfl _ _ rfl rfl
                have d30 : a.eval (.tmp 82) = .bool false := D 30 rfl _ _ rfl rfl
                exact Rgs.val rfl (Reg.wanted_free rfl) (.bool false) (by have c := Reg.consts a; generalize a.eval = ρ at *; simp [execOp, go_sem, c.1, c.2, d20, d30]) rfl hW
            · intro a w4 live hs hd E D Hl hW
              have e83 : a.eval (.tmp 83) = .bool false := by
                obtain ⟨v, hv, he⟩ := D 31 _ rfl
                exact (he 83 rfl).trans hv
              rw [Rgs.act_ws a _ _ hs hd E [52, 53, 54, 55, 56, 57, 58, 59, 60, 61, 62, 63, 64, 65, 66, 67, 68, 69, 70, 71, 72, 73, 74, 75, 76, 77, 78, 79, 80, 81, 82, 83] (by kernel_rfl)]
              simp only [List.foldl, List.setIfInBounds_toArray, List.set_cons_succ, List.set_cons_zero, e83]
              have HB9 := Lib.hid (HB3V.out.trans (Below.mono hW HB3V.out.size))
              clear E D Hl hW e83 HSA HS1 HS2 HRW
              generalize a.eval = ρ
              clear a hs hd
              go_wp2_with fail
              go_roundw
              case rel => exact ⟨at_ + 1, by go_num, by omega, by omega, HB9.out⟩
              case measure => simp [intOf]; omega
        · have had : decide (at_ ≤ (n : Int)) = false := decide_eq_false ha
          have HB9 := Lib.hid (HB2.out.trans (HBr.out.mono HB2.out.size))
          go_wp2_with fail
          go_roundw
          case rel => exact ⟨i + 1, by omega, by go_num, HB9.out⟩
          case measure => simp [intOf]; omega
    · have himi : ¬ (i : Int) < (m : Int) := by omega
      have HSM := Lib.hid fun W => sam8_any H none none none 0 0 0 0 0 0 [] [] (fun _ _ => false) 0 0 W (⟨rfl, RdV.nil⟩ : RdR W W.heap.size none 0 []) (⟨rfl, RdV.nil⟩ : RdR W W.heap.size none 0 []) (RdM.none _ _ _ _) (by omega) (by omega) (by omega) (by omega) (by omega) (by decide) (by decide)
      go_wp2_with fail
      refine (HSM.out wr).mono ?_
      rintro e w5 ⟨rfl, hb5⟩
      have hb6 := HB.out.trans (hb5.mono HB.out.size)
      go_wp2_with fail
      refine (known8_any H w5).mono ?_
      rintro e w6 ⟨rfl, hb7⟩
      go_wp2_with fail
      go_ret
      exact Ans.mk rfl (hb6.trans (hb7.mono hb6.size))
end Go.Proofs.Ytcdgofdnafbacaa.wordNumbers
