/- Package word: Swap. -/
import Derived.Test.YtcdgofdnafbacaaWtur
import Derived.Test.YtcdgofdnafbacaaWsam
namespace Go.Proofs.Ytcdgofdnafbacaa
open Go.RowKit Tab
set_option linter.unusedSimpArgs false
set_option linter.unusedVariables false

theorem RowW.own {L : List Rn} {w w' : World} {A : Option Addr} {n c : Nat} (h : OwnB 31 2 rcl w' w.heap.size A n c L) (hb : Below w.heap.size w w') : RowW L w (.returned (.slice A n c)) w' := by
  have e := h.len
  subst e
  exact ⟨A, c, rfl, ⟨rfl, by rw [rs_flat]; exact h.own.rd⟩, h.own.cap, hb⟩
set_option maxRecDepth 100000 in
set_option maxHeartbeats 4000000 in
theorem wswap_any (A : Option Addr) (n c0 : Nat) (L : List Rn) (kz : Int) (w : World) (h : RdR w w.heap.size A n L) (hc : n ≤ c0) (hn : n ≤ 1048576) (hk1 : -9223372036854775808 ≤ kz) (hk2 : kz ≤ 9223372036854775807) :
    Calls Try.prog 11 #[.slice A n c0, .int .i64 kz] w (RowW (swZ L kz) w) := by
  have hlen := h.len
  have hown0 : OwnV 31 2 w w.heap.size none 0 0 [] := OwnV.nil _ _ _ _
  have hrd := h.rd
  have HLN := Lib.hid hlen
  have HA := Lib.hid h
  obtain ⟨Z, hZ⟩ : ∃ Z, Z = swZ L kz := ⟨_, rfl⟩
  have HZZ := Lib.hid hZ
  rw [← hZ]
  clear h hlen hZ
  go_enter Try.func11, Try.ntmps11
  go_upto_region 3 with (at_builtin; go_loud (refine wpList_appV elR rfl (.tmp 6) (.tmp 7) rfl rfl w.heap.size none 0 0 [] rfl hown0 A n c0 (rs L) _ rfl hrd (by rw [rs_length, HLN.out]) (rs_one _) (by omega) (by unfold maxLen; omega) (Nat.le_refl _) n (Nat.zero_add _) (rs L) (List.nil_append _) ?_; intro A4 c4 wr hw4 hb4 hot4))
  have hOB : OwnB 31 2 rcl wr w.heap.size A4 n c4 L := ⟨HLN.out, by rw [← rs_flat]; exact hw4⟩
  have HOB := Lib.hid hOB
  have HB := Lib.hid hb4
  clear hw4 hb4 hot4 hOB hown0 hrd
  obtain ⟨c, rfl⟩ : ∃ c, c = c4 := ⟨_, rfl⟩
  by_cases h0 : (0 : Int) ≤ kz
  · have h00 : decide ((0 : Int) ≤ kz) = true := decide_eq_true h0
    obtain ⟨k, rfl⟩ : ∃ k : Nat, kz = k := ⟨kz.toNat, by omega⟩
    by_cases hkn : k + 1 < n
    · have hk0 : (k : Int) < (n : Int) - 1 := by omega
      obtain ⟨g, rfl, hBg, hgl⟩ := HOB.out.block (by omega)
      have hsw : swZ L (k : Int) = swapAt L k := by
        unfold swZ
        rw [if_pos (by have := HLN.out; omega)]
        rfl
      obtain ⟨x, hx⟩ : ∃ x, L[k]? = some x := ⟨_, List.getElem?_eq_getElem (by have := HLN.out; omega)⟩
      obtain ⟨y, hy⟩ : ∃ y, L[k + 1]? = some y := ⟨_, List.getElem?_eq_getElem (by have := HLN.out; omega)⟩
      have hXd : OwnB 31 2 rcl wr.drew w.heap.size (some ⟨g, 0, none⟩) n c L := HOB.out.below (Below.refl _ _).drew
      obtain ⟨ox0, ox1, fx0, fx1⟩ := hXd.cellR hx
      obtain ⟨ad, x', rfl, _, ex, cx0, cx1⟩ := (HA.out.on HB.out.drew).at_ (i := k) (by omega)
      obtain ⟨ad', y', ead', _, ey, cy0, cy1⟩ := (HA.out.on HB.out.drew).at_ hkn
      injection ead' with ead'
      subst ead'
      rw [hx] at ex
      injection ex with ex
      subst ex
      rw [hy] at ey
      injection ey with ey
      subst ey
      have hX1 := hXd.putR hx y
      have hy1 : (L.set k y)[k + 1]? = some y := by rw [List.getElem?_set_ne (by omega)]; exact hy
      obtain ⟨ez0, ez1, fz0, fz1⟩ := hX1.cellR hy1
      have hX2 := hX1.putR hy1 x
      rw [← swap_set hx hy] at hX2
      have hbz : Below w.heap.size w ((((wr.drew.setCell ⟨g, k * 2, none⟩ (.int .i64 y.p)).setCell ⟨g, k * 2 + 1, none⟩ (.int .i64 (y.n : Int))).setCell ⟨g, (k + 1) * 2, none⟩ (.int .i64 x.p)).setCell ⟨g, (k + 1) * 2 + 1, none⟩ (.int .i64 (x.n : Int))) := (((HB.out.drew.setCell (p := ⟨g, k * 2, none⟩) hBg _).setCell (p := ⟨g, k * 2 + 1, none⟩) hBg _).setCell (p := ⟨g, (k + 1) * 2, none⟩) hBg _).setCell (p := ⟨g, (k + 1) * 2 + 1, none⟩) hBg _
      have hN := RowW.own hX2 hbz
      rw [← hsw, ← HZZ.out] at hN
      have HN := Lib.hid hN
      have HLT : Hid (k < n ∧ k + 1 < n ∧ (k : Int) < (n : Int) ∧ (k : Int) + 1 < (n : Int) ∧ (0 : Int) ≤ (k : Int) + 1 ∧ ((k : Int) + 1).toNat = k + 1) := Lib.hid ⟨by omega, hkn, by omega, by omega, by omega, by omega⟩
      have HWR : Hid (IntKind.i64.wrap ((k : Int) + 1) = (k : Int) + 1) := Lib.hid (wrap_small _ (by omega) (by omega))
      clear hX1 hX2 hXd hy1 hbz hx hy hN hsw HA HOB
      go_wp2_with fail
      refine Rgs.region (by kernel_rfl) (by kernel_rfl) (fun (opn : Nat) (vl : Value) (_ : World) => match opn with | 0 => vl = .slice (some ⟨g, 0, none⟩) n c | 1 => vl = .int .i64 (k : Int) | 2 => vl = .slice (some ⟨g, 0, none⟩) n c | 3 => vl = .int .i64 (k : Int) | 4 => vl = .int .i64 ((k : Int) + 1) | 5 => vl = .slice (some ad) n c0 | 6 => vl = .int .i64 (k : Int) | 7 => vl = .int .i64 ((k : Int) + 1) | 8 => vl = .pointer (some (ad.add ((k + 1) * 2))) | 9 => vl = .agg #[.int .i64 y.p, .int .i64 (y.n : Int)] | 10 => vl = .slice (some ad) n c0 | 11 => vl = .int .i64 (k : Int) | 12 => vl = .pointer (some (ad.add (k * 2))) | 13 => vl = .agg #[.int .i64 x.p, .int .i64 (x.n : Int)] | 14 => vl = .pointer (some ⟨g, k * 2, none⟩) | 15 => vl = undef | 16 => vl = .pointer (some ⟨g, (k + 1) * 2, none⟩) | 17 => vl = undef | _ => True) (fun live _ w' => Rgs.StG wr.drew ((wr.drew.setCell ⟨g, k * 2, none⟩ (.int .i64 y.p)).setCell ⟨g, k * 2 + 1, none⟩ (.int .i64 (y.n : Int))) ((((wr.drew.setCell ⟨g, k * 2, none⟩ (.int .i64 y.p)).setCell ⟨g, k * 2 + 1, none⟩ (.int .i64 (y.n : Int))).setCell ⟨g, (k + 1) * 2, none⟩ (.int .i64 x.p)).setCell ⟨g, (k + 1) * 2 + 1, none⟩ (.int .i64 (x.n : Int))) 15 17 live w') rfl (Rgs.steps_of ?_) ?_
      · refine ⟨?_, ?_, ?_, ?_, ?_, ?_, ?_, ?_, ?_, ?_, ?_, ?_, ?_, ?_, ?_, ?_, ?_, ?_, trivial⟩
        · intro a w1 live S E D C h0 hk hW
          have e5 : a.eval (.tmp 5) = .slice (some ⟨g, 0, none⟩) n c := E 5 rfl
          exact Rgs.val rfl (Reg.wanted_free rfl) (.slice (some ⟨g, 0, none⟩) n c) (by have c := Reg.consts a; generalize a.eval = ρ at *; simp [execOp, go_sem, c.1, c.2, e5]) rfl (hW.upd (by decide) (by decide))
        · intro a w1 live S E D C h0 hk hW
          have e1 : a.eval (.tmp 1) = .int .i64 (k : Int) := E 1 rfl
          exact Rgs.val rfl (Reg.wanted_free rfl) (.int .i64 (k : Int)) (by have c := Reg.consts a; generalize a.eval = ρ at *; simp [execOp, go_sem, c.1, c.2, e1]) rfl (hW.upd (by decide) (by decide))
        · intro a w1 live S E D C h0 hk hW
          have e5 : a.eval (.tmp 5) = .slice (some ⟨g, 0, none⟩) n c := E 5 rfl
          exact Rgs.val rfl (Reg.wanted_free rfl) (.slice (some ⟨g, 0, none⟩) n c) (by have c := Reg.consts a; generalize a.eval = ρ at *; simp [execOp, go_sem, c.1, c.2, e5]) rfl (hW.upd (by decide) (by decide))
        · intro a w1 live S E D C h0 hk hW
          have e1 : a.eval (.tmp 1) = .int .i64 (k : Int) := E 1 rfl
          exact Rgs.val rfl (Reg.wanted_free rfl) (.int .i64 (k : Int)) (by have c := Reg.consts a; generalize a.eval = ρ at *; simp [execOp, go_sem, c.1, c.2, e1]) rfl (hW.upd (by decide) (by decide))
        · intro a w1 live S E D C h0 hk hW
          have d3 : a.eval (.tmp 21) = .int .i64 (k : Int) := D 3 rfl _ _ rfl rfl
          have hwr := HWR.out
          exact Rgs.val rfl (Reg.wanted_free rfl) (.int .i64 ((k : Int) + 1)) (by have c := Reg.consts a; generalize a.eval = ρ at *; simp [execOp, go_sem, c.1, c.2, d3, hwr]) rfl (hW.upd (by decide) (by decide))
        · intro a w1 live S E D C h0 hk hW
          have e0 : a.eval (.tmp 0) = .slice (some ad) n c0 := E 0 rfl
          exact Rgs.val rfl (Reg.wanted_free rfl) (.slice (some ad) n c0) (by have c := Reg.consts a; generalize a.eval = ρ at *; simp [execOp, go_sem, c.1, c.2, e0]) rfl (hW.upd (by decide) (by decide))
        · intro a w1 live S E D C h0 hk hW
          have e1 : a.eval (.tmp 1) = .int .i64 (k : Int) := E 1 rfl
          exact Rgs.val rfl (Reg.wanted_free rfl) (.int .i64 (k : Int)) (by have c := Reg.consts a; generalize a.eval = ρ at *; simp [execOp, go_sem, c.1, c.2, e1]) rfl (hW.upd (by decide) (by decide))
        · intro a w1 live S E D C h0 hk hW
          have d6 : a.eval (.tmp 24) = .int .i64 (k : Int) := D 6 rfl _ _ rfl rfl
          have hwr := HWR.out
          exact Rgs.val rfl (Reg.wanted_free rfl) (.int .i64 ((k : Int) + 1)) (by have c := Reg.consts a; generalize a.eval = ρ at *; simp [execOp, go_sem, c.1, c.2, d6, hwr]) rfl (hW.upd (by decide) (by decide))
        · intro a w1 live S E D C h0 hk hW
          have d5 : a.eval (.tmp 23) = .slice (some ad) n c0 := D 5 rfl _ _ rfl rfl
          have d7 : a.eval (.tmp 25) = .int .i64 ((k : Int) + 1) := D 7 rfl _ _ rfl rfl
          have i1 := HLT.out
          obtain ⟨i1, i2, i3, i4, i5, i6⟩ := i1
          exact Rgs.val rfl (Reg.wanted_free rfl) (.pointer (some (ad.add ((k + 1) * 2)))) (by have c := Reg.consts a; generalize a.eval = ρ at *; simp [execOp, go_sem, c.1, c.2, d5, d7, i1, i2, i3, i4, i5, i6]) rfl (hW.upd (by decide) (by decide))
        · intro a w1 live S E D C h0 hk hW
          have d8 : a.eval (.tmp 26) = .pointer (some (ad.add ((k + 1) * 2))) := D 8 rfl _ _ rfl rfl
          have l15 := Reg.not_live C h0 (j := 15) rfl rfl
          have l17 := Reg.not_live C l15 (j := 17) rfl rfl
          have hw := hW.off l15 l17
          subst hw
          exact Rgs.val rfl (Reg.wanted_free rfl) (.agg #[.int .i64 y.p, .int .i64 (y.n : Int)]) (by have c := Reg.consts a; generalize a.eval = ρ at *; simp [execOp, go_sem, c.1, c.2, d8, cy0, cy1]) rfl (hW.upd (by decide) (by decide))
        · intro a w1 live S E D C h0 hk hW
          have e0 : a.eval (.tmp 0) = .slice (some ad) n c0 := E 0 rfl
          exact Rgs.val rfl (Reg.wanted_free rfl) (.slice (some ad) n c0) (by have c := Reg.consts a; generalize a.eval = ρ at *; simp [execOp, go_sem, c.1, c.2, e0]) rfl (hW.upd (by decide) (by decide))
        · intro a w1 live S E D C h0 hk hW
          have e1 : a.eval (.tmp 1) = .int .i64 (k : Int) := E 1 rfl
          exact Rgs.val rfl (Reg.wanted_free rfl) (.int .i64 (k : Int)) (by have c := Reg.consts a; generalize a.eval = ρ at *; simp [execOp, go_sem, c.1, c.2, e1]) rfl (hW.upd (by decide) (by decide))
        · intro a w1 live S E D C h0 hk hW
          have d10 : a.eval (.tmp 28) = .slice (some ad) n c0 := D 10 rfl _ _ rfl rfl
          have d11 : a.eval (.tmp 29) = .int .i64 (k : Int) := D 11 rfl _ _ rfl rfl
          have i1 := HLT.out
          obtain ⟨i1, i2, i3, i4, i5, i6⟩ := i1
          exact Rgs.val rfl (Reg.wanted_free rfl) (.pointer (some (ad.add (k * 2)))) (by have c := Reg.consts a; generalize a.eval = ρ at *; simp [execOp, go_sem, c.1, c.2, d10, d11, i1, i2, i3, i4, i5, i6]) rfl (hW.upd (by decide) (by decide))
        · intro a w1 live S E D C h0 hk hW
          have d12 : a.eval (.tmp 30) = .pointer (some (ad.add (k * 2))) := D 12 rfl _ _ rfl rfl
          have l15 := Reg.not_live C h0 (j := 15) rfl rfl
          have l17 := Reg.not_live C l15 (j := 17) rfl rfl
          have hw := hW.off l15 l17
          subst hw
          exact Rgs.val rfl (Reg.wanted_free rfl) (.agg #[.int .i64 x.p, .int .i64 (x.n : Int)]) (by have c := Reg.consts a; generalize a.eval = ρ at *; simp [execOp, go_sem, c.1, c.2, d12, cx0, cx1]) rfl (hW.upd (by decide) (by decide))
        · intro a w1 live S E D C h0 hk hW
          have d0 : a.eval (.tmp 18) = .slice (some ⟨g, 0, none⟩) n c := D 0 rfl _ _ rfl rfl
          have d1 : a.eval (.tmp 19) = .int .i64 (k : Int) := D 1 rfl _ _ rfl rfl
          have i1 := HLT.out
          obtain ⟨i1, i2, i3, i4, i5, i6⟩ := i1
          have ead := mk_add (g) (k * 2)
          exact Rgs.val rfl (Reg.wanted_free rfl) (.pointer (some ⟨g, k * 2, none⟩)) (by have c := Reg.consts a; generalize a.eval = ρ at *; simp [execOp, go_sem, c.1, c.2, d0, d1, i1, i2, i3, i4, i5, i6, ead]) rfl (hW.upd (by decide) (by decide))
        · intro a w1 live S E D C h0 hk hW
          have d14 : a.eval (.tmp 32) = .pointer (some ⟨g, k * 2, none⟩) := D 14 rfl _ _ rfl rfl
          have d9 : a.eval (.tmp 27) = .agg #[.int .i64 y.p, .int .i64 (y.n : Int)] := D 9 rfl _ _ rfl rfl
          have l17 := Reg.not_live C h0 (j := 17) rfl rfl
          have hw := hW.off h0 l17
          subst hw
          refine Rgs.store rfl (Reg.wanted_free rfl) ((wr.drew.setCell ⟨g, k * 2, none⟩ (.int .i64 y.p)).setCell ⟨g, k * 2 + 1, none⟩ (.int .i64 (y.n : Int))) ?_ rfl (Rgs.StG.put1 _ _ _ (by decide) _ l17) (fun j v _ h => h)
          generalize wr.drew = wd at ox0 ox1 fx0 fx1 ⊢
          have c := Reg.consts a; generalize a.eval = ρ at *; simp [execOp, go_sem, c.1, c.2, d14, d9, ox0, ox1, fx0, fx1]
        · intro a w1 live S E D C h0 hk hW
          have d2 : a.eval (.tmp 20) = .slice (some ⟨g, 0, none⟩) n c := D 2 rfl _ _ rfl rfl
          have d4 : a.eval (.tmp 22) = .int .i64 ((k : Int) + 1) := D 4 rfl _ _ rfl rfl
          have i1 := HLT.out
          obtain ⟨i1, i2, i3, i4, i5, i6⟩ := i1
          have ead := mk_add (g) ((k + 1) * 2)
          exact Rgs.val rfl (Reg.wanted_free rfl) (.pointer (some ⟨g, (k + 1) * 2, none⟩)) (by have c := Reg.consts a; generalize a.eval = ρ at *; simp [execOp, go_sem, c.1, c.2, d2, d4, i1, i2, i3, i4, i5, i6, ead]) rfl (hW.upd (by decide) (by decide))
        · intro a w1 live S E D C h0 hk hW
          have d16 : a.eval (.tmp 33) = .pointer (some ⟨g, (k + 1) * 2, none⟩) := D 16 rfl _ _ rfl rfl
          have d13 : a.eval (.tmp 31) = .agg #[.int .i64 x.p, .int .i64 (x.n : Int)] := D 13 rfl _ _ rfl rfl
          have hw := hW.mid (hk 15 rfl) h0
          subst hw
          refine Rgs.store rfl (Reg.wanted_free rfl) _ ?_ rfl (Rgs.StG.put2 _ _ _ _ _ _) (fun j v _ h => h)
          generalize (wr.drew.setCell ⟨g, k * 2, none⟩ (.int .i64 y.p)).setCell ⟨g, k * 2 + 1, none⟩ (.int .i64 (y.n : Int)) = wz at ez0 ez1 fz0 fz1 ⊢
          have c := Reg.consts a
          generalize a.eval = ρ at *
          simp [execOp, go_sem, c.1, c.2, d16, d13, ez0, ez1, fz0, fz1]
      · intro a w3 live hs hd E D' Hl hW
        rw [Rgs.act_ws a _ _ hs hd E [18, 19, 20, 21, 22, 23, 24, 25, 26, 27, 28, 29, 30, 31, 32, 33] (by kernel_rfl)]
        simp only [List.foldl, List.setIfInBounds_toArray, List.set_cons_succ, List.set_cons_zero]
        have hw := Rgs.StG.on hW (Hl 17 (by decide))
        subst hw
        clear E D' Hl hW cx0 cx1 cy0 cy1 ez0 ez1 fx0 fx1 fz0 fz1 ox0 ox1
        generalize a.eval = ρ
        clear a hs hd
        go_wp2_with fail
        go_ret
        exact HN.out
    · have hk0 : decide ((k : Int) < (n : Int) - 1) = false := decide_eq_false (by omega)
      have hsw : swZ L (k : Int) = L := by
        unfold swZ
        rw [if_neg (by have := HLN.out; omega)]
      have hN := RowW.own HOB.out HB.out
      rw [← hsw, ← HZZ.out] at hN
      have HN := Lib.hid hN
      clear hN
      clear HA HOB hsw
      go_wp2_with fail
      go_ret
      exact HN.out
  · have hsw : swZ L kz = L := by
      unfold swZ
      rw [if_neg (by omega)]
    have hN := RowW.own HOB.out HB.out
    rw [← hsw, ← HZZ.out] at hN
    have HN := Lib.hid hN
    clear hN
    have h00 : decide ((0 : Int) ≤ kz) = false := decide_eq_false h0
    clear HA HOB hsw
    go_wp2_with fail
    go_ret
    exact HN.out
end Go.Proofs.Ytcdgofdnafbacaa
