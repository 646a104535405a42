/- The document's own answer to what a matrix leads to. -/
import Derived.Test.YtknlhhbkahollaaRclm
import Derived.Test.YtknlhhbkahollaaRegs
namespace Go.Proofs.Ytknlhhbkahollaa
open Go.RowKit Tab
set_option linter.unusedSimpArgs false
set_option linter.unusedVariables false

/-- It answers the closing of a square, new; none, if it is not square. -/
def RCl (n : Nat) (l : Nat → Nat) (m : Nat → Nat → Bool) (w : World) (e : Ending) (w' : World) : Prop := (sqB n l = true → MadM n (War m n) w e w') ∧ (sqB n l = false → Ans (.slice none 0 0) w e w')
set_option maxRecDepth 100000 in
set_option maxHeartbeats 4000000 in
theorem rclosure_any (A : Option Addr) (n c : Nat) (l : Nat → Nat) (m : Nat → Nat → Bool) (w : World) (h : RdM w w.heap.size A n l m) (hn : n ≤ 1024) :
    Calls Try.prog 15 #[.slice A n c] w (RCl n l m w) := by
  have HR := Lib.hid h
  clear h
  go_enter Try.func15, Try.ntmps15
  go_wp2_with fail
  go_loopw [3, 5, 11] (fun q _ s wr => ∃ (i ci : Nat) (Ai : Option Addr) (G K : Nat → Nat), i ≤ n ∧ s = .int .i64 i ∧ q = .slice Ai i ci ∧ Rws wr w.heap.size Ai n i ci G K m ∧ (∀ j, j < i → l j = n) ∧ Below w.heap.size w wr) (fun _ _ s _ => n - (intOf s).toNat)
  case atStart => exact ⟨0, 0, none, _, _, by omega, rfl, rfl, Rws.nil _ _ _ _, fun j hj => by omega, Below.refl _ _⟩
  case round =>
    obtain ⟨i, ci, Ai, G, K, hi, rfl, rfl, hM, hsq, hb⟩ := hrel
    by_cases hlt : i < n
    · have hlti : (i : Int) < (n : Int) := by omega
      obtain ⟨ad, R, cr, rfl, had, c0, hcr, hrow⟩ := (HR.out.below hb).at_ hlt
      by_cases hli : l i = n
      · rw [hli] at c0 hcr hrow
        have hnp : 0 < n := by omega
        have hbe := bl1 wr (.cells #[] 4)
        have hown0 : OwnV 4 1 (wr.alloc (.cells #[] 4)) wr.heap.size (some ⟨wr.heap.size, 0, none⟩) 0 0 [] := ownV_lit wr _ 1 wr.heap.size #[] 0 rfl (Nat.le_refl _) (by unfold maxLen; omega)
        have hszw : w.heap.size ≤ wr.heap.size := hb.size
        obtain ⟨adr, hadr, hadb, _⟩ := hrow hnp
        subst hadr
        have hrd : RdV (wr.alloc (.cells #[] 4)) wr.heap.size (some adr) (bls n (m i)) := ((rdc_bls hrow).more hszw).below hbe
        have hle : wr.heap.size ≤ (wr.alloc (.cells #[] 4)).heap.size := hbe.size
        have hsq2 : ∀ j, j < i + 1 → l j = n := fun j hj => by
          by_cases e : j = i
          · rw [e]; exact hli
          · exact hsq j (by omega)
        have HSQ := Lib.hid hsq2
        have HNEW : Hid (∀ g4 c4 w4, OwnV 4 1 w4 wr.heap.size (some ⟨g4, 0, none⟩) n c4 (bls n (m i)) → Below wr.heap.size (wr.alloc (.cells #[] 4)) w4 →
            (OwnV 40 1 (w4.alloc (.cells #[.slice (some ⟨g4, 0, none⟩) n c4] 40)) w.heap.size Ai i ci (rws n i G K) ∧ w.heap.size ≤ (w4.alloc (.cells #[.slice (some ⟨g4, 0, none⟩) n c4] 40)).heap.size) ∧
            ∀ A5 c5 w6, OwnV 40 1 w6 w.heap.size A5 (i + 1) c5 (rws n i G K ++ [.slice (some ⟨g4, 0, none⟩) n c4]) → Below w.heap.size (w4.alloc (.cells #[.slice (some ⟨g4, 0, none⟩) n c4] 40)) w6 → Grew Ai A5 (w4.alloc (.cells #[.slice (some ⟨g4, 0, none⟩) n c4] 40)) w6 → Rws w6 w.heap.size A5 n (i + 1) c5 (put1 G i g4) (put1 K i c4) m ∧ Below w.heap.size w w6) := Lib.hid fun g4 c4 w4 ho hb4 => by
          have hb5 := hbe.trans hb4
          have hM4 := hM.on hb5
          have hbl := bl1 w4 (.cells #[.slice (some ⟨g4, 0, none⟩) n c4] 40)
          have hM5 := hM4.on hbl
          have hb6 := hb.trans ((hb5.mono hszw))
          have hb7 := hb6.trans (hbl.mono hb6.size)
          have hg4 := (ho.obk_ge (b := g4) rfl).1
          refine ⟨⟨hM5.out, hb7.size⟩, fun A5 c5 w6 ho6 hb8 hg6 => ⟨hM5.more ((own_bls ho hnp).on hbl) (by omega) (fun j hj => by have := (hM.rows j hj).lt; omega) (fun e => by have := (hM.out.obk_ge e).2; omega) ho.cap hg6 ho6, hb7.trans hb8⟩⟩
        clear hM hb hrow hcr hbe hsq hsq2 hli
        go_wp2_with (first
          | (at_builtin; go_loud (refine wpList_appX elB rfl (.tmp 21) (.tmp 22) rfl rfl wr.heap.size (some ⟨wr.heap.size, 0, none⟩) 0 0 [] rfl hown0 adr n cr (bls n (m i)) _ rfl hrd (by rw [bls_len, Nat.mul_one]) hnp (bls_one _ _) (by omega) (by unfold maxLen; omega) hle n (Nat.zero_add _) (bls n (m i)) (List.nil_append _) ?_; intro A4 c4 w4 hw4 hb4 hg4; obtain ⟨g4, hA4, hg4B, hg4l⟩ := hw4.block hnp; subst hA4; obtain ⟨⟨how5, hs5⟩, hN⟩ := HNEW.out g4 c4 w4 hw4 hb4; have HN := Lib.hid hN; have hrd5 := rdV_new w4 #[.slice (some ⟨g4, 0, none⟩) n c4] 40 [.slice (some ⟨g4, 0, none⟩) n c4] rfl; clear hN hw4 hb4 hg4 hg4l))
          | (at_builtin; go_loud (refine wpList_appX elBB rfl (.tmp 20) (.tmp 24) rfl rfl w.heap.size Ai i ci _ rfl how5 _ 1 1 [.slice (some ⟨g4, 0, none⟩) n c4] _ rfl hrd5 rfl Nat.one_pos (fun u hu => by simp at hu; subst hu; rfl) (by omega) (by unfold maxLen; omega) hs5 (i + 1) rfl (rws n i G K ++ [.slice (some ⟨g4, 0, none⟩) n c4]) rfl ?_; intro A5 c5 w6 hw6 hb6 hg6)))
        obtain ⟨hM6, hb7⟩ := HN.out A5 c5 w6 hw6 hb6 hg6
        have HM6 := Lib.hid hM6
        have HB7 := Lib.hid hb7
        clear hM6 hb7 hw6 hb6 hg6
        go_roundw
        case rel => exact ⟨i + 1, c5, A5, _, _, by omega, by go_num, rfl, HM6.out, HSQ.out, HB7.out⟩
        case measure => simp [intOf]; omega
      · have hne : ((l i : Int) != (n : Int)) = true := bne_iff_ne.2 (by omega)
        have hsf : sqB n l = false := by
          cases e : sqB n l with
          | false => rfl
          | true => exact absurd (sqB_iff.1 e i hlt) hli
        have HSF := Lib.hid hsf
        have HB := Lib.hid hb
        clear hM hb hrow hcr hsq hsf
        go_wp2_with fail
        go_ret
        exact ⟨fun e => absurd e (by rw [HSF.out]; decide), fun _ => Ans.mk rfl HB.out⟩
    · have hlti : ¬ (i : Int) < (n : Int) := by omega
      obtain rfl : n = i := by omega
      have hst : sqB n l = true := sqB_iff.2 hsq
      have HSQ := Lib.hid hst
      have HM := Lib.hid (hM.congr (m' := mW m 0 0 0) fun x y _ _ => by rw [mW_zero]; rfl)
      have HB := Lib.hid hb
      clear hM hb hsq hst
      go_wp2_with fail
      go_loopw [6, 7, 8, 29, 34, 39] (fun _ _ _ s _ _ wx => ∃ k : Nat, k ≤ n ∧ s = .int .i64 k ∧ Rws wx w.heap.size Ai n n ci G K (mW m k 0 0) ∧ Below w.heap.size w wx) (fun _ _ _ s _ _ _ => n - (intOf s).toNat)
      case atStart => exact ⟨0, by omega, rfl, HM.out, HB.out⟩
      case round =>
        obtain ⟨k, hk, rfl, hM, hb⟩ := hrel
        clear HM HB
        by_cases hkn : k < n
        · have hkni : (k : Int) < (n : Int) := by omega
          obtain ⟨g, rfl, _, _⟩ := hM.out.block (by omega)
          have HM := Lib.hid hM
          have HB := Lib.hid hb
          clear hM hb
          go_wp2_with fail
          go_loopw [7, 8, 34, 39] (fun _ _ s _ wx => ∃ a : Nat, a ≤ n ∧ s = .int .i64 a ∧ Rws wx w.heap.size (some ⟨g, 0, none⟩) n n ci G K (mW m k a 0) ∧ Below w.heap.size w wx) (fun _ _ s _ _ => n - (intOf s).toNat)
          case atStart => exact ⟨0, by omega, rfl, HM.out, HB.out⟩
          case round =>
            obtain ⟨a, ha, rfl, hM, hb⟩ := hrel
            clear HM HB
            by_cases han : a < n
            · have hani : (a : Int) < (n : Int) := by omega
              have HM := Lib.hid hM
              have HB := Lib.hid hb
              clear hM hb
              go_wp2_with fail
              go_loopw [8, 39] (fun _ s wx => ∃ b : Nat, b ≤ n ∧ s = .int .i64 b ∧ Rws wx w.heap.size (some ⟨g, 0, none⟩) n n ci G K (mW m k a b) ∧ Below w.heap.size w wx) (fun _ s _ => n - (intOf s).toNat)
              case atStart => exact ⟨0, by omega, rfl, HM.out, HB.out⟩
              case round =>
                obtain ⟨b, hbn, rfl, hM, hb⟩ := hrel
                clear HM HB
                by_cases hbl : b < n
                · have hbli : (b : Int) < (n : Int) := by omega
                  have hM := hM.on (w' := wr.drew) (Below.refl _ _).drew
                  obtain ⟨g', x, kx, e, p0, u0, f0, hst⟩ := hM.at_ han hbl
                  injection e with e
                  injection e with e
                  subst e
                  obtain ⟨p1, u1⟩ := hM.get han hkn
                  obtain ⟨p2, u2⟩ := hM.get hkn hbl
                  rw [p0] at p1
                  injection p1 with p1
                  injection p1 with p1 _ p1k
                  injection p1 with p1
                  injection p1 with p1
                  rw [← p1] at u1
                  rw [mW_here] at u0
                  rw [mW_col] at u1
                  rw [mW_row] at u2
                  have HST : Hid (∀ V, V = (War m k a b || (War m k a k && War m k k b)) → Rws (wr.drew.setCell ⟨x, b, none⟩ (.bool V)) w.heap.size (some ⟨g, 0, none⟩) n n ci G K (mW m k a (b + 1)) ∧ Below w.heap.size w (wr.drew.setCell ⟨x, b, none⟩ (.bool V))) := Lib.hid fun V hV => by
                    obtain ⟨s1, s2⟩ := hst V
                    refine ⟨s1.congr fun y z _ _ => ?_, s2 _ hb.drew⟩
                    rw [hV]
                    exact mW_put m k a b y z
                  have HLT : Hid (a < n ∧ b < n ∧ k < n ∧ (a : Int) < (n : Int) ∧ (b : Int) < (n : Int) ∧ (k : Int) < (n : Int)) := Lib.hid ⟨han, hbl, hkn, hani, hbli, hkni⟩
                  generalize G k = xk at p2 u2
                  generalize K k = kk at p2
                  clear hM hb hst p1 p1k
                  generalize War m k a b = v0 at u0 HST
                  generalize War m k a k = v1 at u1 HST
                  generalize War m k k b = v2 at u2 HST
                  go_wp2_with fail
                  cases v0 with
                  | true =>
                    refine Rgs.region (by kernel_rfl) (by kernel_rfl) (fun (opn : Nat) (vl : Value) (_ : World) => match opn with | 0 => vl = .slice (some ⟨g, 0, none⟩) n ci | 1 => vl = .int .i64 (a : Int) | 2 => vl = .pointer (some ⟨g, a, none⟩) | 3 => vl = .slice (some ⟨x, 0, none⟩) n kx | 4 => vl = .int .i64 (b : Int) | 5 => vl = .slice (some ⟨g, 0, none⟩) n ci | 6 => vl = .int .i64 (a : Int) | 7 => vl = .pointer (some ⟨g, a, none⟩) | 8 => vl = .slice (some ⟨x, 0, none⟩) n kx | 9 => vl = .int .i64 (b : Int) | 10 => vl = .pointer (some ⟨x, b, none⟩) | 11 => vl = .bool true | 12 => vl = .bool true | 13 => vl = undef | 14 => vl = undef | 15 => vl = undef | 16 => vl = undef | 17 => vl = undef | 18 => vl = undef | 19 => vl = undef | 20 => vl = undef | 21 => vl = undef | 22 => vl = undef | 23 => vl = undef | 24 => vl = undef | 25 => vl = undef | 26 => vl = undef | 27 => vl = undef | 28 => vl = undef | 29 => vl = .bool true | 30 => vl = .pointer (some ⟨x, b, none⟩) | 31 => vl = undef | _ => True) (fun live _ w' => Rgs.StW wr.drew 31 ⟨x, b, none⟩ (.bool true) live w') rfl (Rgs.steps_of ?_) ?_
                    · refine ⟨?_, ?_, ?_, ?_, ?_, ?_, ?_, ?_, ?_, ?_, ?_, ?_, ?_, ?_, ?_, ?_, ?_, ?_, ?_, ?_, ?_, ?_, ?_, ?_, ?_, ?_, ?_, ?_, ?_, ?_, ?_, ?_, trivial⟩
                      · intro ac w1 live S E D C h0 hk hW
                        have e3 : ac.eval (.tmp 3) = .slice (some ⟨g, 0, none⟩) n ci := E 3 rfl
                        exact Rgs.val rfl (Reg.wanted_free rfl) (.slice (some ⟨g, 0, none⟩) n ci) (by have c := Reg.consts ac; generalize ac.eval = ρ at *; simp [execOp, go_sem, c.1, c.2, e3]) rfl (hW.upd (by decide))
                      · intro ac w1 live S E D C h0 hk hW
                        have e7 : ac.eval (.tmp 7) = .int .i64 (a : Int) := E 7 rfl
                        exact Rgs.val rfl (Reg.wanted_free rfl) (.int .i64 (a : Int)) (by have c := Reg.consts ac; generalize ac.eval = ρ at *; simp [execOp, go_sem, c.1, c.2, e7]) rfl (hW.upd (by decide))
                      · intro ac w1 live S E D C h0 hk hW
                        have d0 : ac.eval (.tmp 42) = .slice (some ⟨g, 0, none⟩) n ci := D 0 rfl _ _ rfl rfl
                        have d1 : ac.eval (.tmp 43) = .int .i64 (a : Int) := D 1 rfl _ _ rfl rfl
                        have i1 := HLT.out
                        obtain ⟨i1, i2, i3, i4, i5, i6⟩ := i1
                        have ead := mk_add (g) (a)
                        exact Rgs.val rfl (Reg.wanted_free rfl) (.pointer (some ⟨g, a, none⟩)) (by have c := Reg.consts ac; generalize ac.eval = ρ at *; simp [execOp, go_sem, c.1, c.2, d0, d1, i1, i2, i3, i4, i5, i6, ead]) rfl (hW.upd (by decide))
                      · intro ac w1 live S E D C h0 hk hW
                        have d2 : ac.eval (.tmp 44) = .pointer (some ⟨g, a, none⟩) := D 2 rfl _ _ rfl rfl
                        have l30 := Reg.not_live C h0 (j := 30) rfl rfl
                        have l31 := Reg.not_live C l30 (j := 31) rfl rfl
                        have hw := hW.off l31
                        subst hw
                        have hc0 := p0
                        exact Rgs.val rfl (Reg.wanted_free rfl) (.slice (some ⟨x, 0, none⟩) n kx) (by have c := Reg.consts ac; generalize ac.eval = ρ at *; simp [execOp, go_sem, c.1, c.2, d2, hc0]) rfl (hW.upd (by decide))
                      · intro ac w1 live S E D C h0 hk hW
                        have e8 : ac.eval (.tmp 8) = .int .i64 (b : Int) := E 8 rfl
                        exact Rgs.val rfl (Reg.wanted_free rfl) (.int .i64 (b : Int)) (by have c := Reg.consts ac; generalize ac.eval = ρ at *; simp [execOp, go_sem, c.1, c.2, e8]) rfl (hW.upd (by decide))
                      · intro ac w1 live S E D C h0 hk hW
                        have e3 : ac.eval (.tmp 3) = .slice (some ⟨g, 0, none⟩) n ci := E 3 rfl
                        exact Rgs.val rfl (Reg.wanted_free rfl) (.slice (some ⟨g, 0, none⟩) n ci) (by have c := Reg.consts ac; generalize ac.eval = ρ at *; simp [execOp, go_sem, c.1, c.2, e3]) rfl (hW.upd (by decide))
                      · intro ac w1 live S E D C h0 hk hW
                        have e7 : ac.eval (.tmp 7) = .int .i64 (a : Int) := E 7 rfl
                        exact Rgs.val rfl (Reg.wanted_free rfl) (.int .i64 (a : Int)) (by have c := Reg.consts ac; generalize ac.eval = ρ at *; simp [execOp, go_sem, c.1, c.2, e7]) rfl (hW.upd (by decide))
                      · intro ac w1 live S E D C h0 hk hW
                        have d5 : ac.eval (.tmp 47) = .slice (some ⟨g, 0, none⟩) n ci := D 5 rfl _ _ rfl rfl
                        have d6 : ac.eval (.tmp 48) = .int .i64 (a : Int) := D 6 rfl _ _ rfl rfl
                        have i1 := HLT.out
                        obtain ⟨i1, i2, i3, i4, i5, i6⟩ := i1
                        have ead := mk_add (g) (a)
                        exact Rgs.val rfl (Reg.wanted_free rfl) (.pointer (some ⟨g, a, none⟩)) (by have c := Reg.consts ac; generalize ac.eval = ρ at *; simp [execOp, go_sem, c.1, c.2, d5, d6, i1, i2, i3, i4, i5, i6, ead]) rfl (hW.upd (by decide))
                      · intro ac w1 live S E D C h0 hk hW
                        have d7 : ac.eval (.tmp 49) = .pointer (some ⟨g, a, none⟩) := D 7 rfl _ _ rfl rfl
                        have l10 := Reg.not_live C h0 (j := 10) rfl rfl
                        have l11 := Reg.not_live C l10 (j := 11) rfl rfl
                        have l12 := Reg.not_live C l11 (j := 12) rfl rfl
                        have l29 := Reg.not_live C l12 (j := 29) rfl rfl
                        have l31 := Reg.not_live C l29 (j := 31) rfl rfl
                        have hw := hW.off l31
                        subst hw
                        have hc0 := p0
                        exact Rgs.val rfl (Reg.wanted_free rfl) (.slice (some ⟨x, 0, none⟩) n kx) (by have c := Reg.consts ac; generalize ac.eval = ρ at *; simp [execOp, go_sem, c.1, c.2, d7, hc0]) rfl (hW.upd (by decide))
                      · intro ac w1 live S E D C h0 hk hW
                        have e8 : ac.eval (.tmp 8) = .int .i64 (b : Int) := E 8 rfl
                        exact Rgs.val rfl (Reg.wanted_free rfl) (.int .i64 (b : Int)) (by have c := Reg.consts ac; generalize ac.eval = ρ at *; simp [execOp, go_sem, c.1, c.2, e8]) rfl (hW.upd (by decide))
                      · intro ac w1 live S E D C h0 hk hW
                        have d8 : ac.eval (.tmp 50) = .slice (some ⟨x, 0, none⟩) n kx := D 8 rfl _ _ rfl rfl
                        have d9 : ac.eval (.tmp 51) = .int .i64 (b : Int) := D 9 rfl _ _ rfl rfl
                        have i1 := HLT.out
                        obtain ⟨i1, i2, i3, i4, i5, i6⟩ := i1
                        have ead := mk_add (x) (b)
                        exact Rgs.val rfl (Reg.wanted_free rfl) (.pointer (some ⟨x, b, none⟩)) (by have c := Reg.consts ac; generalize ac.eval = ρ at *; simp [execOp, go_sem, c.1, c.2, d8, d9, i1, i2, i3, i4, i5, i6, ead]) rfl (hW.upd (by decide))
                      · intro ac w1 live S E D C h0 hk hW
                        have d10 : ac.eval (.tmp 52) = .pointer (some ⟨x, b, none⟩) := D 10 rfl _ _ rfl rfl
                        have l12 := Reg.not_live C h0 (j := 12) rfl rfl
                        have l29 := Reg.not_live C l12 (j := 29) rfl rfl
                        have l31 := Reg.not_live C l29 (j := 31) rfl rfl
                        have hw := hW.off l31
                        subst hw
                        have hc0 := u0
                        exact Rgs.val rfl (Reg.wanted_free rfl) (.bool true) (by have c := Reg.consts ac; generalize ac.eval = ρ at *; simp [execOp, go_sem, c.1, c.2, d10, hc0]) rfl (hW.upd (by decide))
                      · intro ac w1 live S E D C h0 hk hW
                        have d11 : ac.eval (.tmp 53) = .bool true := D 11 rfl _ _ rfl rfl
                        exact Rgs.val rfl (Reg.wanted_free rfl) (.bool true) (by have c := Reg.consts ac; generalize ac.eval = ρ at *; simp [execOp, go_sem, c.1, c.2, d11]) rfl (hW.upd (by decide))
                      · intro ac w1 live S E D C h0 hk hW
                        have dg : ac.eval (.tmp 54) = .bool true := D 12 rfl _ _ rfl rfl
                        exact Rgs.skip rfl (Rgs.wanted_not rfl rfl dg rfl) rfl (hW.upd (by decide))
                      · intro ac w1 live S E D C h0 hk hW
                        have dg : ac.eval (.tmp 54) = .bool true := D 12 rfl _ _ rfl rfl
                        exact Rgs.skip rfl (Rgs.wanted_not rfl rfl dg rfl) rfl (hW.upd (by decide))
                      · intro ac w1 live S E D C h0 hk hW
                        have dg : ac.eval (.tmp 54) = .bool true := D 12 rfl _ _ rfl rfl
                        exact Rgs.skip rfl (Rgs.wanted_not rfl rfl dg rfl) rfl (hW.upd (by decide))
                      · intro ac w1 live S E D C h0 hk hW
                        have dg : ac.eval (.tmp 54) = .bool true := D 12 rfl _ _ rfl rfl
                        exact Rgs.skip rfl (Rgs.wanted_not rfl rfl dg rfl) rfl (hW.upd (by decide))
                      · intro ac w1 live S E D C h0 hk hW
                        have dg : ac.eval (.tmp 54) = .bool true := D 12 rfl _ _ rfl rfl
                        exact Rgs.skip rfl (Rgs.wanted_not rfl rfl dg rfl) rfl (hW.upd (by decide))
                      · intro ac w1 live S E D C h0 hk hW
                        have dg : ac.eval (.tmp 54) = .bool true := D 12 rfl _ _ rfl rfl
                        exact Rgs.skip rfl (Rgs.wanted_not rfl rfl dg rfl) rfl (hW.upd (by decide))
                      · intro ac w1 live S E D C h0 hk hW
                        have dg : ac.eval (.tmp 54) = .bool true := D 12 rfl _ _ rfl rfl
                        exact Rgs.skip rfl (Rgs.wanted_not rfl rfl dg rfl) rfl (hW.upd (by decide))
                      · intro ac w1 live S E D C h0 hk hW
                        have dg : ac.eval (.tmp 54) = .bool true := D 12 rfl _ _ rfl rfl
                        exact Rgs.skip rfl (Rgs.wanted_not rfl rfl dg rfl) rfl (hW.upd (by decide))
                      · intro ac w1 live S E D C h0 hk hW
                        have dg : ac.eval (.tmp 62) = undef := D 20 rfl _ _ rfl rfl
                        exact Rgs.skip rfl (Rgs.wanted_undef rfl rfl dg) rfl (hW.upd (by decide))
                      · intro ac w1 live S E D C h0 hk hW
                        have dg : ac.eval (.tmp 62) = undef := D 20 rfl _ _ rfl rfl
                        exact Rgs.skip rfl (Rgs.wanted_undef rfl rfl dg) rfl (hW.upd (by decide))
                      · intro ac w1 live S E D C h0 hk hW
                        have dg : ac.eval (.tmp 62) = undef := D 20 rfl _ _ rfl rfl
                        exact Rgs.skip rfl (Rgs.wanted_undef rfl rfl dg) rfl (hW.upd (by decide))
                      · intro ac w1 live S E D C h0 hk hW
                        have dg : ac.eval (.tmp 62) = undef := D 20 rfl _ _ rfl rfl
                        exact Rgs.skip rfl (Rgs.wanted_undef rfl rfl dg) rfl (hW.upd (by decide))
                      · intro ac w1 live S E D C h0 hk hW
                        have dg : ac.eval (.tmp 62) = undef := D 20 rfl _ _ rfl rfl
                        exact Rgs.skip rfl (Rgs.wanted_undef rfl rfl dg) rfl (hW.upd (by decide))
                      · intro ac w1 live S E D C h0 hk hW
                        have dg : ac.eval (.tmp 62) = undef := D 20 rfl _ _ rfl rfl
                        exact Rgs.skip rfl (Rgs.wanted_undef rfl rfl dg) rfl (hW.upd (by decide))
                      · intro ac w1 live S E D C h0 hk hW
                        have dg : ac.eval (.tmp 62) = undef := D 20 rfl _ _ rfl rfl
                        exact Rgs.skip rfl (Rgs.wanted_undef rfl rfl dg) rfl (hW.upd (by decide))
                      · intro ac w1 live S E D C h0 hk hW
                        have dg : ac.eval (.tmp 54) = .bool true := D 12 rfl _ _ rfl rfl
                        exact Rgs.skip rfl (Rgs.wanted_not rfl rfl dg rfl) rfl (hW.upd (by decide))
                      · intro ac w1 live S E D C h0 hk hW
                        have d12 : ac.eval (.tmp 54) = .bool true := D 12 rfl _ _ rfl rfl
                        exact Rgs.val rfl (Reg.wanted_free rfl) (.bool true) (by have c := Reg.consts ac; generalize ac.eval = ρ at *; simp [execOp, go_sem, c.1, c.2, d12]) rfl (hW.upd (by decide))
                      · intro ac w1 live S E D C h0 hk hW
                        have d3 : ac.eval (.tmp 45) = .slice (some ⟨x, 0, none⟩) n kx := D 3 rfl _ _ rfl rfl
                        have d4 : ac.eval (.tmp 46) = .int .i64 (b : Int) := D 4 rfl _ _ rfl rfl
                        have i1 := HLT.out
                        obtain ⟨i1, i2, i3, i4, i5, i6⟩ := i1
                        have ead := mk_add (x) (b)
                        exact Rgs.val rfl (Reg.wanted_free rfl) (.pointer (some ⟨x, b, none⟩)) (by have c := Reg.consts ac; generalize ac.eval = ρ at *; simp [execOp, go_sem, c.1, c.2, d3, d4, i1, i2, i3, i4, i5, i6, ead]) rfl (hW.upd (by decide))
                      · intro ac w1 live S E D C h0 hk hW
                        have d30 : ac.eval (.tmp 72) = .pointer (some ⟨x, b, none⟩) := D 30 rfl _ _ rfl rfl
                        have d29 : ac.eval (.tmp 71) = .bool true := D 29 rfl _ _ rfl rfl
                        have hw := hW.off h0
                        subst hw
                        have hc0 := u0
                        have hfz := f0
                        refine Rgs.store rfl (Reg.wanted_free rfl) _ (by have c := Reg.consts ac; generalize ac.eval = ρ at *; simp [execOp, go_sem, c.1, c.2, d30, d29, hc0, hfz]) rfl (Rgs.StW.put _ _ _ _ _) (fun j v _ h => h)
                    · intro a' w3 live hs hd E D' Hl hW
                      rw [Rgs.act_ws a' _ _ hs hd E [42, 43, 44, 45, 46, 47, 48, 49, 50, 51, 52, 53, 54, 55, 56, 57, 58, 59, 60, 61, 62, 63, 64, 65, 66, 67, 68, 69, 70, 71, 72] (by kernel_rfl)]
                      simp only [List.foldl, List.setIfInBounds_toArray, List.set_cons_succ, List.set_cons_zero]
                      have hw := Rgs.StW.on hW (Hl 31 (by decide))
                      subst hw
                      clear E D' Hl hW
                      generalize a'.eval = ρ
                      clear a' hs hd p0 p2 u0 u1 u2 f0
                      go_wp2_with fail
                      go_roundw
                      case rel => exact ⟨b + 1, by omega, by go_num, HST.out _ (by simp)⟩
                      case measure => simp [intOf]; omega
                  | false =>
                    cases v1 with
                    | false =>
                      refine Rgs.region (by kernel_rfl) (by kernel_rfl) (fun (opn : Nat) (vl : Value) (_ : World) => match opn with | 0 => vl = .slice (some ⟨g, 0, none⟩) n ci | 1 => vl = .int .i64 (a : Int) | 2 => vl = .pointer (some ⟨g, a, none⟩) | 3 => vl = .slice (some ⟨x, 0, none⟩) n kx | 4 => vl = .int .i64 (b : Int) | 5 => vl = .slice (some ⟨g, 0, none⟩) n ci | 6 => vl = .int .i64 (a : Int) | 7 => vl = .pointer (some ⟨g, a, none⟩) | 8 => vl = .slice (some ⟨x, 0, none⟩) n kx | 9 => vl = .int .i64 (b : Int) | 10 => vl = .pointer (some ⟨x, b, none⟩) | 11 => vl = .bool false | 12 => vl = .bool false | 13 => vl = .slice (some ⟨g, 0, none⟩) n ci | 14 => vl = .int .i64 (a : Int) | 15 => vl = .pointer (some ⟨g, a, none⟩) | 16 => vl = .slice (some ⟨x, 0, none⟩) n kx | 17 => vl = .int .i64 (k : Int) | 18 => vl = .pointer (some ⟨x, k, none⟩) | 19 => vl = .bool false | 20 => vl = .bool false | 21 => vl = undef | 22 => vl = undef | 23 => vl = undef | 24 => vl = undef | 25 => vl = undef | 26 => vl = undef | 27 => vl = undef | 28 => vl = .bool false | 29 => vl = .bool false | 30 => vl = .pointer (some ⟨x, b, none⟩) | 31 => vl = undef | _ => True) (fun live _ w' => Rgs.StW wr.drew 31 ⟨x, b, none⟩ (.bool false) live w') rfl (Rgs.steps_of ?_) ?_
                      · refine ⟨?_, ?_, ?_, ?_, ?_, ?_, ?_, ?_, ?_, ?_, ?_, ?_, ?_, ?_, ?_, ?_, ?_, ?_, ?_, ?_, ?_, ?_, ?_, ?_, ?_, ?_, ?_, ?_, ?_, ?_, ?_, ?_, trivial⟩
                        · intro ac w1 live S E D C h0 hk hW
                          have e3 : ac.eval (.tmp 3) = .slice (some ⟨g, 0, none⟩) n ci := E 3 rfl
                          exact Rgs.val rfl (Reg.wanted_free rfl) (.slice (some ⟨g, 0, none⟩) n ci) (by have c := Reg.consts ac; generalize ac.eval = ρ at *; simp [execOp, go_sem, c.1, c.2, e3]) rfl (hW.upd (by decide))
                        · intro ac w1 live S E D C h0 hk hW
                          have e7 : ac.eval (.tmp 7) = .int .i64 (a : Int) := E 7 rfl
                          exact Rgs.val rfl (Reg.wanted_free rfl) (.int .i64 (a : Int)) (by have c := Reg.consts ac; generalize ac.eval = ρ at *; simp [execOp, go_sem, c.1, c.2, e7]) rfl (hW.upd (by decide))
                        · intro ac w1 live S E D C h0 hk hW
                          have d0 : ac.eval (.tmp 42) = .slice (some ⟨g, 0, none⟩) n ci := D 0 rfl _ _ rfl rfl
                          have d1 : ac.eval (.tmp 43) = .int .i64 (a : Int) := D 1 rfl _ _ rfl rfl
                          have i1 := HLT.out
                          obtain ⟨i1, i2, i3, i4, i5, i6⟩ := i1
                          have ead := mk_add (g) (a)
                          exact Rgs.val rfl (Reg.wanted_free rfl) (.pointer (some ⟨g, a, none⟩)) (by have c := Reg.consts ac; generalize ac.eval = ρ at *; simp [execOp, go_sem, c.1, c.2, d0, d1, i1, i2, i3, i4, i5, i6, ead]) rfl (hW.upd (by decide))
                        · intro ac w1 live S E D C h0 hk hW
                          have d2 : ac.eval (.tmp 44) = .pointer (some ⟨g, a, none⟩) := D 2 rfl _ _ rfl rfl
                          have l30 := Reg.not_live C h0 (j := 30) rfl rfl
                          have l31 := Reg.not_live C l30 (j := 31) rfl rfl
                          have hw := hW.off l31
                          subst hw
                          have hc0 := p0
                          exact Rgs.val rfl (Reg.wanted_free rfl) (.slice (some ⟨x, 0, none⟩) n kx) (by have c := Reg.consts ac; generalize ac.eval = ρ at *; simp [execOp, go_sem, c.1, c.2, d2, hc0]) rfl (hW.upd (by decide))
                        · intro ac w1 live S E D C h0 hk hW
                          have e8 : ac.eval (.tmp 8) = .int .i64 (b : Int) := E 8 rfl
                          exact Rgs.val rfl (Reg.wanted_free rfl) (.int .i64 (b : Int)) (by have c := Reg.consts ac; generalize ac.eval = ρ at *; simp [execOp, go_sem, c.1, c.2, e8]) rfl (hW.upd (by decide))
                        · intro ac w1 live S E D C h0 hk hW
                          have e3 : ac.eval (.tmp 3) = .slice (some ⟨g, 0, none⟩) n ci := E 3 rfl
                          exact Rgs.val rfl (Reg.wanted_free rfl) (.slice (some ⟨g, 0, none⟩) n ci) (by have c := Reg.consts ac; generalize ac.eval = ρ at *; simp [execOp, go_sem, c.1, c.2, e3]) rfl (hW.upd (by decide))
                        · intro ac w1 live S E D C h0 hk hW
                          have e7 : ac.eval (.tmp 7) = .int .i64 (a : Int) := E 7 rfl
                          exact Rgs.val rfl (Reg.wanted_free rfl) (.int .i64 (a : Int)) (by have c := Reg.consts ac; generalize ac.eval = ρ at *; simp [execOp, go_sem, c.1, c.2, e7]) rfl (hW.upd (by decide))
                        · intro ac w1 live S E D C h0 hk hW
                          have d5 : ac.eval (.tmp 47) = .slice (some ⟨g, 0, none⟩) n ci := D 5 rfl _ _ rfl rfl
                          have d6 : ac.eval (.tmp 48) = .int .i64 (a : Int) := D 6 rfl _ _ rfl rfl
                          have i1 := HLT.out
                          obtain ⟨i1, i2, i3, i4, i5, i6⟩ := i1
                          have ead := mk_add (g) (a)
                          exact Rgs.val rfl (Reg.wanted_free rfl) (.pointer (some ⟨g, a, none⟩)) (by have c := Reg.consts ac; generalize ac.eval = ρ at *; simp [execOp, go_sem, c.1, c.2, d5, d6, i1, i2, i3, i4, i5, i6, ead]) rfl (hW.upd (by decide))
                        · intro ac w1 live S E D C h0 hk hW
                          have d7 : ac.eval (.tmp 49) = .pointer (some ⟨g, a, none⟩) := D 7 rfl _ _ rfl rfl
                          have l10 := Reg.not_live C h0 (j := 10) rfl rfl
                          have l11 := Reg.not_live C l10 (j := 11) rfl rfl
                          have l12 := Reg.not_live C l11 (j := 12) rfl rfl
                          have l29 := Reg.not_live C l12 (j := 29) rfl rfl
                          have l31 := Reg.not_live C l29 (j := 31) rfl rfl
                          have hw := hW.off l31
                          subst hw
                          have hc0 := p0
                          exact Rgs.val rfl (Reg.wanted_free rfl) (.slice (some ⟨x, 0, none⟩) n kx) (by have c := Reg.consts ac; generalize ac.eval = ρ at *; simp [execOp, go_sem, c.1, c.2, d7, hc0]) rfl (hW.upd (by decide))
                        · intro ac w1 live S E D C h0 hk hW
                          have e8 : ac.eval (.tmp 8) = .int .i64 (b : Int) := E 8 rfl
                          exact Rgs.val rfl (Reg.wanted_free rfl) (.int .i64 (b : Int)) (by have c := Reg.consts ac; generalize ac.eval = ρ at *; simp [execOp, go_sem, c.1, c.2, e8]) rfl (hW.upd (by decide))
                        · intro ac w1 live S E D C h0 hk hW
                          have d8 : ac.eval (.tmp 50) = .slice (some ⟨x, 0, none⟩) n kx := D 8 rfl _ _ rfl rfl
                          have d9 : ac.eval (.tmp 51) = .int .i64 (b : Int) := D 9 rfl _ _ rfl rfl
                          have i1 := HLT.out
                          obtain ⟨i1, i2, i3, i4, i5, i6⟩ := i1
                          have ead := mk_add (x) (b)
                          exact Rgs.val rfl (Reg.wanted_free rfl) (.pointer (some ⟨x, b, none⟩)) (by have c := Reg.consts ac; generalize ac.eval = ρ at *; simp [execOp, go_sem, c.1, c.2, d8, d9, i1, i2, i3, i4, i5, i6, ead]) rfl (hW.upd (by decide))
                        · intro ac w1 live S E D C h0 hk hW
                          have d10 : ac.eval (.tmp 52) = .pointer (some ⟨x, b, none⟩) := D 10 rfl _ _ rfl rfl
                          have l12 := Reg.not_live C h0 (j := 12) rfl rfl
                          have l29 := Reg.not_live C l12 (j := 29) rfl rfl
                          have l31 := Reg.not_live C l29 (j := 31) rfl rfl
                          have hw := hW.off l31
                          subst hw
                          have hc0 := u0
                          exact Rgs.val rfl (Reg.wanted_free rfl) (.bool false) (by have c := Reg.consts ac; generalize ac.eval = ρ at *; simp [execOp, go_sem, c.1, c.2, d10, hc0]) rfl (hW.upd (by decide))
                        · intro ac w1 live S E D C h0 hk hW
                          have d11 : ac.eval (.tmp 53) = .bool false := D 11 rfl _ _ rfl rfl
                          exact Rgs.val rfl (Reg.wanted_free rfl) (.bool false) (by have c := Reg.consts ac; generalize ac.eval = ρ at *; simp [execOp, go_sem, c.1, c.2, d11]) rfl (hW.upd (by decide))
                        · intro ac w1 live S E D C h0 hk hW
                          have dg : ac.eval (.tmp 54) = .bool false := D 12 rfl _ _ rfl rfl
                          have e3 : ac.eval (.tmp 3) = .slice (some ⟨g, 0, none⟩) n ci := E 3 rfl
                          exact Rgs.val rfl (Reg.wanted_if rfl rfl dg rfl) (.slice (some ⟨g, 0, none⟩) n ci) (by have c := Reg.consts ac; generalize ac.eval = ρ at *; simp [execOp, go_sem, c.1, c.2, e3]) rfl (hW.upd (by decide))
                        · intro ac w1 live S E D C h0 hk hW
                          have dg : ac.eval (.tmp 54) = .bool false := D 12 rfl _ _ rfl rfl
                          have e7 : ac.eval (.tmp 7) = .int .i64 (a : Int) := E 7 rfl
                          exact Rgs.val rfl (Reg.wanted_if rfl rfl dg rfl) (.int .i64 (a : Int)) (by have c := Reg.consts ac; generalize ac.eval = ρ at *; simp [execOp, go_sem, c.1, c.2, e7]) rfl (hW.upd (by decide))
                        · intro ac w1 live S E D C h0 hk hW
                          have dg : ac.eval (.tmp 54) = .bool false := D 12 rfl _ _ rfl rfl
                          have d13 : ac.eval (.tmp 55) = .slice (some ⟨g, 0, none⟩) n ci := D 13 rfl _ _ rfl rfl
                          have d14 : ac.eval (.tmp 56) = .int .i64 (a : Int) := D 14 rfl _ _ rfl rfl
                          have i1 := HLT.out
                          obtain ⟨i1, i2, i3, i4, i5, i6⟩ := i1
                          have ead := mk_add (g) (a)
                          exact Rgs.val rfl (Reg.wanted_if rfl rfl dg rfl) (.pointer (some ⟨g, a, none⟩)) (by have c := Reg.consts ac; generalize ac.eval = ρ at *; simp [execOp, go_sem, c.1, c.2, d13, d14, i1, i2, i3, i4, i5, i6, ead]) rfl (hW.upd (by decide))
                        · intro ac w1 live S E D C h0 hk hW
                          have dg : ac.eval (.tmp 54) = .bool false := D 12 rfl _ _ rfl rfl
                          have d15 : ac.eval (.tmp 57) = .pointer (some ⟨g, a, none⟩) := D 15 rfl _ _ rfl rfl
                          have l18 := Reg.not_live C h0 (j := 18) rfl rfl
                          have l19 := Reg.not_live C l18 (j := 19) rfl rfl
                          have l20 := Reg.not_live C l19 (j := 20) rfl rfl
                          have l28 := Reg.not_live C l20 (j := 28) rfl rfl
                          have l29 := Reg.not_live C l28 (j := 29) rfl rfl
                          have l31 := Reg.not_live C l29 (j := 31) rfl rfl
                          have hw := hW.off l31
                          subst hw
                          have hc0 := p0
                          exact Rgs.val rfl (Reg.wanted_if rfl rfl dg rfl) (.slice (some ⟨x, 0, none⟩) n kx) (by have c := Reg.consts ac; generalize ac.eval = ρ at *; simp [execOp, go_sem, c.1, c.2, d15, hc0]) rfl (hW.upd (by decide))
                        · intro ac w1 live S E D C h0 hk hW
                          have dg : ac.eval (.tmp 54) = .bool false := D 12 rfl _ _ rfl rfl
                          have e6 : ac.eval (.tmp 6) = .int .i64 (k : Int) := E 6 rfl
                          exact Rgs.val rfl (Reg.wanted_if rfl rfl dg rfl) (.int .i64 (k : Int)) (by have c := Reg.consts ac; generalize ac.eval = ρ at *; simp [execOp, go_sem, c.1, c.2, e6]) rfl (hW.upd (by decide))
                        · intro ac w1 live S E D C h0 hk hW
                          have dg : ac.eval (.tmp 54) = .bool false := D 12 rfl _ _ rfl rfl
                          have d16 : ac.eval (.tmp 58) = .slice (some ⟨x, 0, none⟩) n kx := D 16 rfl _ _ rfl rfl
                          have d17 : ac.eval (.tmp 59) = .int .i64 (k : Int) := D 17 rfl _ _ rfl rfl
                          have i1 := HLT.out
                          obtain ⟨i1, i2, i3, i4, i5, i6⟩ := i1
                          have ead := mk_add (x) (k)
                          exact Rgs.val rfl (Reg.wanted_if rfl rfl dg rfl) (.pointer (some ⟨x, k, none⟩)) (by have c := Reg.consts ac; generalize ac.eval = ρ at *; simp [execOp, go_sem, c.1, c.2, d16, d17, i1, i2, i3, i4, i5, i6, ead]) rfl (hW.upd (by decide))
                        · intro ac w1 live S E D C h0 hk hW
                          have dg : ac.eval (.tmp 54) = .bool false := D 12 rfl _ _ rfl rfl
                          have d18 : ac.eval (.tmp 60) = .pointer (some ⟨x, k, none⟩) := D 18 rfl _ _ rfl rfl
                          have l20 := Reg.not_live C h0 (j := 20) rfl rfl
                          have l28 := Reg.not_live C l20 (j := 28) rfl rfl
                          have l29 := Reg.not_live C l28 (j := 29) rfl rfl
                          have l31 := Reg.not_live C l29 (j := 31) rfl rfl
                          have hw := hW.off l31
                          subst hw
                          have hc0 := u1
                          exact Rgs.val rfl (Reg.wanted_if rfl rfl dg rfl) (.bool false) (by have c := Reg.consts ac; generalize ac.eval = ρ at *; simp [execOp, go_sem, c.1, c.2, d18, hc0]) rfl (hW.upd (by decide))
                        · intro ac w1 live S E D C h0 hk hW
                          have dg : ac.eval (.tmp 54) = .bool false := D 12 rfl _ _ rfl rfl
                          have d19 : ac.eval (.tmp 61) = .bool false := D 19 rfl _ _ rfl rfl
                          exact Rgs.val rfl (Reg.wanted_if rfl rfl dg rfl) (.bool false) (by have c := Reg.consts ac; generalize ac.eval = ρ at *; simp [execOp, go_sem, c.1, c.2, d19]) rfl (hW.upd (by decide))
                        · intro ac w1 live S E D C h0 hk hW
                          have dg : ac.eval (.tmp 62) = .bool false := D 20 rfl _ _ rfl rfl
                          exact Rgs.skip rfl (Rgs.wanted_not rfl rfl dg rfl) rfl (hW.upd (by decide))
                        · intro ac w1 live S E D C h0 hk hW
                          have dg : ac.eval (.tmp 62) = .bool false := D 20 rfl _ _ rfl rfl
                          exact Rgs.skip rfl (Rgs.wanted_not rfl rfl dg rfl) rfl (hW.upd (by decide))
                        · intro ac w1 live S E D C h0 hk hW
                          have dg : ac.eval (.tmp 62) = .bool false := D 20 rfl _ _ rfl rfl
                          exact Rgs.skip rfl (Rgs.wanted_not rfl rfl dg rfl) rfl (hW.upd (by decide))
                        · intro ac w1 live S E D C h0 hk hW
                          have dg : ac.eval (.tmp 62) = .bool false := D 20 rfl _ _ rfl rfl
                          exact Rgs.skip rfl (Rgs.wanted_not rfl rfl dg rfl) rfl (hW.upd (by decide))
                        · intro ac w1 live S E D C h0 hk hW
                          have dg : ac.eval (.tmp 62) = .bool false := D 20 rfl _ _ rfl rfl
                          exact Rgs.skip rfl (Rgs.wanted_not rfl rfl dg rfl) rfl (hW.upd (by decide))
                        · intro ac w1 live S E D C h0 hk hW
                          have dg : ac.eval (.tmp 62) = .bool false := D 20 rfl _ _ rfl rfl
                          exact Rgs.skip rfl (Rgs.wanted_not rfl rfl dg rfl) rfl (hW.upd (by decide))
                        · intro ac w1 live S E D C h0 hk hW
                          have dg : ac.eval (.tmp 62) = .bool false := D 20 rfl _ _ rfl rfl
                          exact Rgs.skip rfl (Rgs.wanted_not rfl rfl dg rfl) rfl (hW.upd (by decide))
                        · intro ac w1 live S E D C h0 hk hW
                          have dg : ac.eval (.tmp 54) = .bool false := D 12 rfl _ _ rfl rfl
                          have d20 : ac.eval (.tmp 62) = .bool false := D 20 rfl _ _ rfl rfl
                          exact Rgs.val rfl (Reg.wanted_if rfl rfl dg rfl) (.bool false) (by have c := Reg.consts ac; generalize ac.eval = ρ at *; simp [execOp, go_sem, c.1, c.2, d20]) rfl (hW.upd (by decide))
                        · intro ac w1 live S E D C h0 hk hW
                          have d12 : ac.eval (.tmp 54) = .bool false := D 12 rfl _ _ rfl rfl
                          have d28 : ac.eval (.tmp 70) = .bool false := D 28 rfl _ _ rfl rfl
                          exact Rgs.val rfl (Reg.wanted_free rfl) (.bool false) (by have c := Reg.consts ac; generalize ac.eval = ρ at *; simp [execOp, go_sem, c.1, c.2, d12, d28]) rfl (hW.upd (by decide))
                        · intro ac w1 live S E D C h0 hk hW
                          have d3 : ac.eval (.tmp 45) = .slice (some ⟨x, 0, none⟩) n kx := D 3 rfl _ _ rfl rfl
                          have d4 : ac.eval (.tmp 46) = .int .i64 (b : Int) := D 4 rfl _ _ rfl rfl
                          have i1 := HLT.out
                          obtain ⟨i1, i2, i3, i4, i5, i6⟩ := i1
                          have ead := mk_add (x) (b)
                          exact Rgs.val rfl (Reg.wanted_free rfl) (.pointer (some ⟨x, b, none⟩)) (by have c := Reg.consts ac; generalize ac.eval = ρ at *; simp [execOp, go_sem, c.1, c.2, d3, d4, i1, i2, i3, i4, i5, i6, ead]) rfl (hW.upd (by decide))
                        · intro ac w1 live S E D C h0 hk hW
                          have d30 : ac.eval (.tmp 72) = .pointer (some ⟨x, b, none⟩) := D 30 rfl _ _ rfl rfl
                          have d29 : ac.eval (.tmp 71) = .bool false := D 29 rfl _ _ rfl rfl
                          have hw := hW.off h0
                          subst hw
                          have hc0 := u0
                          have hfz := f0
                          refine Rgs.store rfl (Reg.wanted_free rfl) _ (by have c := Reg.consts ac; generalize ac.eval = ρ at *; simp [execOp, go_sem, c.1, c.2, d30, d29, hc0, hfz]) rfl (Rgs.StW.put _ _ _ _ _) (fun j v _ h => h)
                      · intro a' w3 live hs hd E D' Hl hW
                        rw [Rgs.act_ws a' _ _ hs hd E [42, 43, 44, 45, 46, 47, 48, 49, 50, 51, 52, 53, 54, 55, 56, 57, 58, 59, 60, 61, 62, 63, 64, 65, 66, 67, 68, 69, 70, 71, 72] (by kernel_rfl)]
                        simp only [List.foldl, List.setIfInBounds_toArray, List.set_cons_succ, List.set_cons_zero]
                        have hw := Rgs.StW.on hW (Hl 31 (by decide))
                        subst hw
                        clear E D' Hl hW
                        generalize a'.eval = ρ
                        clear a' hs hd p0 p2 u0 u1 u2 f0
                        go_wp2_with fail
                        go_roundw
                        case rel => exact ⟨b + 1, by omega, by go_num, HST.out _ rfl⟩
                        case measure => simp [intOf]; omega
                    | true =>
                      refine Rgs.region (by kernel_rfl) (by kernel_rfl) (fun (opn : Nat) (vl : Value) (_ : World) => match opn with | 0 => vl = .slice (some ⟨g, 0, none⟩) n ci | 1 => vl = .int .i64 (a : Int) | 2 => vl = .pointer (some ⟨g, a, none⟩) | 3 => vl = .slice (some ⟨x, 0, none⟩) n kx | 4 => vl = .int .i64 (b : Int) | 5 => vl = .slice (some ⟨g, 0, none⟩) n ci | 6 => vl = .int .i64 (a : Int) | 7 => vl = .pointer (some ⟨g, a, none⟩) | 8 => vl = .slice (some ⟨x, 0, none⟩) n kx | 9 => vl = .int .i64 (b : Int) | 10 => vl = .pointer (some ⟨x, b, none⟩) | 11 => vl = .bool false | 12 => vl = .bool false | 13 => vl = .slice (some ⟨g, 0, none⟩) n ci | 14 => vl = .int .i64 (a : Int) | 15 => vl = .pointer (some ⟨g, a, none⟩) | 16 => vl = .slice (some ⟨x, 0, none⟩) n kx | 17 => vl = .int .i64 (k : Int) | 18 => vl = .pointer (some ⟨x, k, none⟩) | 19 => vl = .bool true | 20 => vl = .bool true | 21 => vl = .slice (some ⟨g, 0, none⟩) n ci | 22 => vl = .int .i64 (k : Int) | 23 => vl = .pointer (some ⟨g, k, none⟩) | 24 => vl = .slice (some ⟨xk, 0, none⟩) n kk | 25 => vl = .int .i64 (b : Int) | 26 => vl = .pointer (some ⟨xk, b, none⟩) | 27 => vl = .bool v2 | 28 => vl = .bool v2 | 29 => vl = .bool v2 | 30 => vl = .pointer (some ⟨x, b, none⟩) | 31 => vl = undef | _ => True) (fun live _ w' => Rgs.StW wr.drew 31 ⟨x, b, none⟩ (.bool v2) live w') rfl (Rgs.steps_of ?_) ?_
                      · refine ⟨?_, ?_, ?_, ?_, ?_, ?_, ?_, ?_, ?_, ?_, ?_, ?_, ?_, ?_, ?_, ?_, ?_, ?_, ?_, ?_, ?_, ?_, ?_, ?_, ?_, ?_, ?_, ?_, ?_, ?_, ?_, ?_, trivial⟩
                        · intro ac w1 live S E D C h0 hk hW
                          have e3 : ac.eval (.tmp 3) = .slice (some ⟨g, 0, none⟩) n ci := E 3 rfl
                          exact Rgs.val rfl (Reg.wanted_free rfl) (.slice (some ⟨g, 0, none⟩) n ci) (by have c := Reg.consts ac; generalize ac.eval = ρ at *; simp [execOp, go_sem, c.1, c.2, e3]) rfl (hW.upd (by decide))
                        · intro ac w1 live S E D C h0 hk hW
                          have e7 : ac.eval (.tmp 7) = .int .i64 (a : Int) := E 7 rfl
                          exact Rgs.val rfl (Reg.wanted_free rfl) (.int .i64 (a : Int)) (by have c := Reg.consts ac; generalize ac.eval = ρ at *; simp [execOp, go_sem, c.1, c.2, e7]) rfl (hW.upd (by decide))
                        · intro ac w1 live S E D C h0 hk hW
                          have d0 : ac.eval (.tmp 42) = .slice (some ⟨g, 0, none⟩) n ci := D 0 rfl _ _ rfl rfl
                          have d1 : ac.eval (.tmp 43) = .int .i64 (a : Int) := D 1 rfl _ _ rfl rfl
                          have i1 := HLT.out
                          obtain ⟨i1, i2, i3, i4, i5, i6⟩ := i1
                          have ead := mk_add (g) (a)
                          exact Rgs.val rfl (Reg.wanted_free rfl) (.pointer (some ⟨g, a, none⟩)) (by have c := Reg.consts ac; generalize ac.eval = ρ at *; simp [execOp, go_sem, c.1, c.2, d0, d1, i1, i2, i3, i4, i5, i6, ead]) rfl (hW.upd (by decide))
                        · intro ac w1 live S E D C h0 hk hW
                          have d2 : ac.eval (.tmp 44) = .pointer (some ⟨g, a, none⟩) := D 2 rfl _ _ rfl rfl
                          have l30 := Reg.not_live C h0 (j := 30) rfl rfl
                          have l31 := Reg.not_live C l30 (j := 31) rfl rfl
                          have hw := hW.off l31
                          subst hw
                          have hc0 := p0
                          exact Rgs.val rfl (Reg.wanted_free rfl) (.slice (some ⟨x, 0, none⟩) n kx) (by have c := Reg.consts ac; generalize ac.eval = ρ at *; simp [execOp, go_sem, c.1, c.2, d2, hc0]) rfl (hW.upd (by decide))
                        · intro ac w1 live S E D C h0 hk hW
                          have e8 : ac.eval (.tmp 8) = .int .i64 (b : Int) := E 8 rfl
                          exact Rgs.val rfl (Reg.wanted_free rfl) (.int .i64 (b : Int)) (by have c := Reg.consts ac; generalize ac.eval = ρ at *; simp [execOp, go_sem, c.1, c.2, e8]) rfl (hW.upd (by decide))
                        · intro ac w1 live S E D C h0 hk hW
                          have e3 : ac.eval (.tmp 3) = .slice (some ⟨g, 0, none⟩) n ci := E 3 rfl
                          exact Rgs.val rfl (Reg.wanted_free rfl) (.slice (some ⟨g, 0, none⟩) n ci) (by have c := Reg.consts ac; generalize ac.eval = ρ at *; simp [execOp, go_sem, c.1, c.2, e3]) rfl (hW.upd (by decide))
                        · intro ac w1 live S E D C h0 hk hW
                          have e7 : ac.eval (.tmp 7) = .int .i64 (a : Int) := E 7 rfl
                          exact Rgs.val rfl (Reg.wanted_free rfl) (.int .i64 (a : Int)) (by have c := Reg.consts ac; generalize ac.eval = ρ at *; simp [execOp, go_sem, c.1, c.2, e7]) rfl (hW.upd (by decide))
                        · intro ac w1 live S E D C h0 hk hW
                          have d5 : ac.eval (.tmp 47) = .slice (some ⟨g, 0, none⟩) n ci := D 5 rfl _ _ rfl rfl
                          have d6 : ac.eval (.tmp 48) = .int .i64 (a : Int) := D 6 rfl _ _ rfl rfl
                          have i1 := HLT.out
                          obtain ⟨i1, i2, i3, i4, i5, i6⟩ := i1
                          have ead := mk_add (g) (a)
                          exact Rgs.val rfl (Reg.wanted_free rfl) (.pointer (some ⟨g, a, none⟩)) (by have c := Reg.consts ac; generalize ac.eval = ρ at *; simp [execOp, go_sem, c.1, c.2, d5, d6, i1, i2, i3, i4, i5, i6, ead]) rfl (hW.upd (by decide))
                        · intro ac w1 live S E D C h0 hk hW
                          have d7 : ac.eval (.tmp 49) = .pointer (some ⟨g, a, none⟩) := D 7 rfl _ _ rfl rfl
                          have l10 := Reg.not_live C h0 (j := 10) rfl rfl
                          have l11 := Reg.not_live C l10 (j := 11) rfl rfl
                          have l12 := Reg.not_live C l11 (j := 12) rfl rfl
                          have l29 := Reg.not_live C l12 (j := 29) rfl rfl
                          have l31 := Reg.not_live C l29 (j := 31) rfl rfl
                          have hw := hW.off l31
                          subst hw
                          have hc0 := p0
                          exact Rgs.val rfl (Reg.wanted_free rfl) (.slice (some ⟨x, 0, none⟩) n kx) (by have c := Reg.consts ac; generalize ac.eval = ρ at *; simp [execOp, go_sem, c.1, c.2, d7, hc0]) rfl (hW.upd (by decide))
                        · intro ac w1 live S E D C h0 hk hW
                          have e8 : ac.eval (.tmp 8) = .int .i64 (b : Int) := E 8 rfl
                          exact Rgs.val rfl (Reg.wanted_free rfl) (.int .i64 (b : Int)) (by have c := Reg.consts ac; generalize ac.eval = ρ at *; simp [execOp, go_sem, c.1, c.2, e8]) rfl (hW.upd (by decide))
                        · intro ac w1 live S E D C h0 hk hW
                          have d8 : ac.eval (.tmp 50) = .slice (some ⟨x, 0, none⟩) n kx := D 8 rfl _ _ rfl rfl
                          have d9 : ac.eval (.tmp 51) = .int .i64 (b : Int) := D 9 rfl _ _ rfl rfl
                          have i1 := HLT.out
                          obtain ⟨i1, i2, i3, i4, i5, i6⟩ := i1
                          have ead := mk_add (x) (b)
                          exact Rgs.val rfl (Reg.wanted_free rfl) (.pointer (some ⟨x, b, none⟩)) (by have c := Reg.consts ac; generalize ac.eval = ρ at *; simp [execOp, go_sem, c.1, c.2, d8, d9, i1, i2, i3, i4, i5, i6, ead]) rfl (hW.upd (by decide))
                        · intro ac w1 live S E D C h0 hk hW
                          have d10 : ac.eval (.tmp 52) = .pointer (some ⟨x, b, none⟩) := D 10 rfl _ _ rfl rfl
                          have l12 := Reg.not_live C h0 (j := 12) rfl rfl
                          have l29 := Reg.not_live C l12 (j := 29) rfl rfl
                          have l31 := Reg.not_live C l29 (j := 31) rfl rfl
                          have hw := hW.off l31
                          subst hw
                          have hc0 := u0
                          exact Rgs.val rfl (Reg.wanted_free rfl) (.bool false) (by have c := Reg.consts ac; generalize ac.eval = ρ at *; simp [execOp, go_sem, c.1, c.2, d10, hc0]) rfl (hW.upd (by decide))
                        · intro ac w1 live S E D C h0 hk hW
                          have d11 : ac.eval (.tmp 53) = .bool false := D 11 rfl _ _ rfl rfl
                          exact Rgs.val rfl (Reg.wanted_free rfl) (.bool false) (by have c := Reg.consts ac; generalize ac.eval = ρ at *; simp [execOp, go_sem, c.1, c.2, d11]) rfl (hW.upd (by decide))
                        · intro ac w1 live S E D C h0 hk hW
                          have dg : ac.eval (.tmp 54) = .bool false := D 12 rfl _ _ rfl rfl
                          have e3 : ac.eval (.tmp 3) = .slice (some ⟨g, 0, none⟩) n ci := E 3 rfl
                          exact Rgs.val rfl (Reg.wanted_if rfl rfl dg rfl) (.slice (some ⟨g, 0, none⟩) n ci) (by have c := Reg.consts ac; generalize ac.eval = ρ at *; simp [execOp, go_sem, c.1, c.2, e3]) rfl (hW.upd (by decide))
                        · intro ac w1 live S E D C h0 hk hW
                          have dg : ac.eval (.tmp 54) = .bool false := D 12 rfl _ _ rfl rfl
                          have e7 : ac.eval (.tmp 7) = .int .i64 (a : Int) := E 7 rfl
                          exact Rgs.val rfl (Reg.wanted_if rfl rfl dg rfl) (.int .i64 (a : Int)) (by have c := Reg.consts ac; generalize ac.eval = ρ at *; simp [execOp, go_sem, c.1, c.2, e7]) rfl (hW.upd (by decide))
                        · intro ac w1 live S E D C h0 hk hW
                          have dg : ac.eval (.tmp 54) = .bool false := D 12 rfl _ _ rfl rfl
                          have d13 : ac.eval (.tmp 55) = .slice (some ⟨g, 0, none⟩) n ci := D 13 rfl _ _ rfl rfl
                          have d14 : ac.eval (.tmp 56) = .int .i64 (a : Int) := D 14 rfl _ _ rfl rfl
                          have i1 := HLT.out
                          obtain ⟨i1, i2, i3, i4, i5, i6⟩ := i1
                          have ead := mk_add (g) (a)
                          exact Rgs.val rfl (Reg.wanted_if rfl rfl dg rfl) (.pointer (some ⟨g, a, none⟩)) (by have c := Reg.consts ac; generalize ac.eval = ρ at *; simp [execOp, go_sem, c.1, c.2, d13, d14, i1, i2, i3, i4, i5, i6, ead]) rfl (hW.upd (by decide))
                        · intro ac w1 live S E D C h0 hk hW
                          have dg : ac.eval (.tmp 54) = .bool false := D 12 rfl _ _ rfl rfl
                          have d15 : ac.eval (.tmp 57) = .pointer (some ⟨g, a, none⟩) := D 15 rfl _ _ rfl rfl
                          have l18 := Reg.not_live C h0 (j := 18) rfl rfl
                          have l19 := Reg.not_live C l18 (j := 19) rfl rfl
                          have l20 := Reg.not_live C l19 (j := 20) rfl rfl
                          have l28 := Reg.not_live C l20 (j := 28) rfl rfl
                          have l29 := Reg.not_live C l28 (j := 29) rfl rfl
                          have l31 := Reg.not_live C l29 (j := 31) rfl rfl
                          have hw := hW.off l31
                          subst hw
                          have hc0 := p0
                          exact Rgs.val rfl (Reg.wanted_if rfl rfl dg rfl) (.slice (some ⟨x, 0, none⟩) n kx) (by have c := Reg.consts ac; generalize ac.eval = ρ at *; simp [execOp, go_sem, c.1, c.2, d15, hc0]) rfl (hW.upd (by decide))
                        · intro ac w1 live S E D C h0 hk hW
                          have dg : ac.eval (.tmp 54) = .bool false := D 12 rfl _ _ rfl rfl
                          have e6 : ac.eval (.tmp 6) = .int .i64 (k : Int) := E 6 rfl
                          exact Rgs.val rfl (Reg.wanted_if rfl rfl dg rfl) (.int .i64 (k : Int)) (by have c := Reg.consts ac; generalize ac.eval = ρ at *; simp [execOp, go_sem, c.1, c.2, e6]) rfl (hW.upd (by decide))
                        · intro ac w1 live S E D C h0 hk hW
                          have dg : ac.eval (.tmp 54) = .bool false := D 12 rfl _ _ rfl rfl
                          have d16 : ac.eval (.tmp 58) = .slice (some ⟨x, 0, none⟩) n kx := D 16 rfl _ _ rfl rfl
                          have d17 : ac.eval (.tmp 59) = .int .i64 (k : Int) := D 17 rfl _ _ rfl rfl
                          have i1 := HLT.out
                          obtain ⟨i1, i2, i3, i4, i5, i6⟩ := i1
                          have ead := mk_add (x) (k)
                          exact Rgs.val rfl (Reg.wanted_if rfl rfl dg rfl) (.pointer (some ⟨x, k, none⟩)) (by have c := Reg.consts ac; generalize ac.eval = ρ at *; simp [execOp, go_sem, c.1, c.2, d16, d17, i1, i2, i3, i4, i5, i6, ead]) rfl (hW.upd (by decide))
                        · intro ac w1 live S E D C h0 hk hW
                          have dg : ac.eval (.tmp 54) = .bool false := D 12 rfl _ _ rfl rfl
                          have d18 : ac.eval (.tmp 60) = .pointer (some ⟨x, k, none⟩) := D 18 rfl _ _ rfl rfl
                          have l20 := Reg.not_live C h0 (j := 20) rfl rfl
                          have l28 := Reg.not_live C l20 (j := 28) rfl rfl
                          have l29 := Reg.not_live C l28 (j := 29) rfl rfl
                          have l31 := Reg.not_live C l29 (j := 31) rfl rfl
                          have hw := hW.off l31
                          subst hw
                          have hc0 := u1
                          exact Rgs.val rfl (Reg.wanted_if rfl rfl dg rfl) (.bool true) (by have c := Reg.consts ac; generalize ac.eval = ρ at *; simp [execOp, go_sem, c.1, c.2, d18, hc0]) rfl (hW.upd (by decide))
                        · intro ac w1 live S E D C h0 hk hW
                          have dg : ac.eval (.tmp 54) = .bool false := D 12 rfl _ _ rfl rfl
                          have d19 : ac.eval (.tmp 61) = .bool true := D 19 rfl _ _ rfl rfl
                          exact Rgs.val rfl (Reg.wanted_if rfl rfl dg rfl) (.bool true) (by have c := Reg.consts ac; generalize ac.eval = ρ at *; simp [execOp, go_sem, c.1, c.2, d19]) rfl (hW.upd (by decide))
                        · intro ac w1 live S E D C h0 hk hW
                          have dg : ac.eval (.tmp 62) = .bool true := D 20 rfl _ _ rfl rfl
                          have e3 : ac.eval (.tmp 3) = .slice (some ⟨g, 0, none⟩) n ci := E 3 rfl
                          exact Rgs.val rfl (Reg.wanted_if rfl rfl dg rfl) (.slice (some ⟨g, 0, none⟩) n ci) (by have c := Reg.consts ac; generalize ac.eval = ρ at *; simp [execOp, go_sem, c.1, c.2, e3]) rfl (hW.upd (by decide))
                        · intro ac w1 live S E D C h0 hk hW
                          have dg : ac.eval (.tmp 62) = .bool true := D 20 rfl _ _ rfl rfl
                          have e6 : ac.eval (.tmp 6) = .int .i64 (k : Int) := E 6 rfl
                          exact Rgs.val rfl (Reg.wanted_if rfl rfl dg rfl) (.int .i64 (k : Int)) (by have c := Reg.consts ac; generalize ac.eval = ρ at *; simp [execOp, go_sem, c.1, c.2, e6]) rfl (hW.upd (by decide))
                        · intro ac w1 live S E D C h0 hk hW
                          have dg : ac.eval (.tmp 62) = .bool true := D 20 rfl _ _ rfl rfl
                          have d21 : ac.eval (.tmp 63) = .slice (some ⟨g, 0, none⟩) n ci := D 21 rfl _ _ rfl rfl
                          have d22 : ac.eval (.tmp 64) = .int .i64 (k : Int) := D 22 rfl _ _ rfl rfl
                          have i1 := HLT.out
                          obtain ⟨i1, i2, i3, i4, i5, i6⟩ := i1
                          have ead := mk_add (g) (k)
                          exact Rgs.val rfl (Reg.wanted_if rfl rfl dg rfl) (.pointer (some ⟨g, k, none⟩)) (by have c := Reg.consts ac; generalize ac.eval = ρ at *; simp [execOp, go_sem, c.1, c.2, d21, d22, i1, i2, i3, i4, i5, i6, ead]) rfl (hW.upd (by decide))
                        · intro ac w1 live S E D C h0 hk hW
                          have dg : ac.eval (.tmp 62) = .bool true := D 20 rfl _ _ rfl rfl
                          have d23 : ac.eval (.tmp 65) = .pointer (some ⟨g, k, none⟩) := D 23 rfl _ _ rfl rfl
                          have l26 := Reg.not_live C h0 (j := 26) rfl rfl
                          have l27 := Reg.not_live C l26 (j := 27) rfl rfl
                          have l28 := Reg.not_live C l27 (j := 28) rfl rfl
                          have l29 := Reg.not_live C l28 (j := 29) rfl rfl
                          have l31 := Reg.not_live C l29 (j := 31) rfl rfl
                          have hw := hW.off l31
                          subst hw
                          have hc0 := p2
                          exact Rgs.val rfl (Reg.wanted_if rfl rfl dg rfl) (.slice (some ⟨xk, 0, none⟩) n kk) (by have c := Reg.consts ac; generalize ac.eval = ρ at *; simp [execOp, go_sem, c.1, c.2, d23, hc0]) rfl (hW.upd (by decide))
                        · intro ac w1 live S E D C h0 hk hW
                          have dg : ac.eval (.tmp 62) = .bool true := D 20 rfl _ _ rfl rfl
                          have e8 : ac.eval (.tmp 8) = .int .i64 (b : Int) := E 8 rfl
                          exact Rgs.val rfl (Reg.wanted_if rfl rfl dg rfl) (.int .i64 (b : Int)) (by have c := Reg.consts ac; generalize ac.eval = ρ at *; simp [execOp, go_sem, c.1, c.2, e8]) rfl (hW.upd (by decide))
                        · intro ac w1 live S E D C h0 hk hW
                          have dg : ac.eval (.tmp 62) = .bool true := D 20 rfl _ _ rfl rfl
                          have d24 : ac.eval (.tmp 66) = .slice (some ⟨xk, 0, none⟩) n kk := D 24 rfl _ _ rfl rfl
                          have d25 : ac.eval (.tmp 67) = .int .i64 (b : Int) := D 25 rfl _ _ rfl rfl
                          have i1 := HLT.out
                          obtain ⟨i1, i2, i3, i4, i5, i6⟩ := i1
                          have ead := mk_add (xk) (b)
                          exact Rgs.val rfl (Reg.wanted_if rfl rfl dg rfl) (.pointer (some ⟨xk, b, none⟩)) (by have c := Reg.consts ac; generalize ac.eval = ρ at *; simp [execOp, go_sem, c.1, c.2, d24, d25, i1, i2, i3, i4, i5, i6, ead]) rfl (hW.upd (by decide))
                        · intro ac w1 live S E D C h0 hk hW
                          have dg : ac.eval (.tmp 62) = .bool true := D 20 rfl _ _ rfl rfl
                          have d26 : ac.eval (.tmp 68) = .pointer (some ⟨xk, b, none⟩) := D 26 rfl _ _ rfl rfl
                          have l28 := Reg.not_live C h0 (j := 28) rfl rfl
                          have l29 := Reg.not_live C l28 (j := 29) rfl rfl
                          have l31 := Reg.not_live C l29 (j := 31) rfl rfl
                          have hw := hW.off l31
                          subst hw
                          have hc0 := u2
                          exact Rgs.val rfl (Reg.wanted_if rfl rfl dg rfl) (.bool v2) (by have c := Reg.consts ac; generalize ac.eval = ρ at *; simp [execOp, go_sem, c.1, c.2, d26, hc0]) rfl (hW.upd (by decide))
                        · intro ac w1 live S E D C h0 hk hW
                          have dg : ac.eval (.tmp 54) = .bool false := D 12 rfl _ _ rfl rfl
                          have d20 : ac.eval (.tmp 62) = .bool true := D 20 rfl _ _ rfl rfl
                          have d27 : ac.eval (.tmp 69) = .bool v2 := D 27 rfl _ _ rfl rfl
                          exact Rgs.val rfl (Reg.wanted_if rfl rfl dg rfl) (.bool v2) (by have c := Reg.consts ac; generalize ac.eval = ρ at *; simp [execOp, go_sem, c.1, c.2, d20, d27]) rfl (hW.upd (by decide))
                        · intro ac w1 live S E D C h0 hk hW
                          have d12 : ac.eval (.tmp 54) = .bool false := D 12 rfl _ _ rfl rfl
                          have d28 : ac.eval (.tmp 70) = .bool v2 := D 28 rfl _ _ rfl rfl
                          exact Rgs.val rfl (Reg.wanted_free rfl) (.bool v2) (by have c := Reg.consts ac; generalize ac.eval = ρ at *; simp [execOp, go_sem, c.1, c.2, d12, d28]) rfl (hW.upd (by decide))
                        · intro ac w1 live S E D C h0 hk hW
                          have d3 : ac.eval (.tmp 45) = .slice (some ⟨x, 0, none⟩) n kx := D 3 rfl _ _ rfl rfl
                          have d4 : ac.eval (.tmp 46) = .int .i64 (b : Int) := D 4 rfl _ _ rfl rfl
                          have i1 := HLT.out
                          obtain ⟨i1, i2, i3, i4, i5, i6⟩ := i1
                          have ead := mk_add (x) (b)
                          exact Rgs.val rfl (Reg.wanted_free rfl) (.pointer (some ⟨x, b, none⟩)) (by have c := Reg.consts ac; generalize ac.eval = ρ at *; simp [execOp, go_sem, c.1, c.2, d3, d4, i1, i2, i3, i4, i5, i6, ead]) rfl (hW.upd (by decide))
                        · intro ac w1 live S E D C h0 hk hW
                          have d30 : ac.eval (.tmp 72) = .pointer (some ⟨x, b, none⟩) := D 30 rfl _ _ rfl rfl
                          have d29 : ac.eval (.tmp 71) = .bool v2 := D 29 rfl _ _ rfl rfl
                          have hw := hW.off h0
                          subst hw
                          have hc0 := u0
                          have hfz := f0
                          refine Rgs.store rfl (Reg.wanted_free rfl) _ (by have c := Reg.consts ac; generalize ac.eval = ρ at *; simp [execOp, go_sem, c.1, c.2, d30, d29, hc0, hfz]) rfl (Rgs.StW.put _ _ _ _ _) (fun j v _ h => h)
                      · intro a' w3 live hs hd E D' Hl hW
                        rw [Rgs.act_ws a' _ _ hs hd E [42, 43, 44, 45, 46, 47, 48, 49, 50, 51, 52, 53, 54, 55, 56, 57, 58, 59, 60, 61, 62, 63, 64, 65, 66, 67, 68, 69, 70, 71, 72] (by kernel_rfl)]
                        simp only [List.foldl, List.setIfInBounds_toArray, List.set_cons_succ, List.set_cons_zero]
                        have hw := Rgs.StW.on hW (Hl 31 (by decide))
                        subst hw
                        clear E D' Hl hW
                        generalize a'.eval = ρ
                        clear a' hs hd p0 p2 u0 u1 u2 f0
                        go_wp2_with fail
                        go_roundw
                        case rel => exact ⟨b + 1, by omega, by go_num, HST.out _ rfl⟩
                        case measure => simp [intOf]; omega
                · have hbli : ¬ (b : Int) < (n : Int) := by omega
                  obtain rfl : n = b := by omega
                  have HM := Lib.hid (hM.congr fun x y _ hy => mW_turn hy)
                  have HB := Lib.hid hb
                  clear hM hb
                  go_wp2_with fail
                  go_roundw
                  case rel => exact ⟨a + 1, by omega, by go_num, HM.out, HB.out⟩
                  case measure => simp [intOf]; omega
            · have hani : ¬ (a : Int) < (n : Int) := by omega
              obtain rfl : n = a := by omega
              have HM := Lib.hid (hM.congr fun x y hx _ => mW_done hx)
              have HB := Lib.hid hb
              clear hM hb
              go_wp2_with fail
              go_roundw
              case rel => exact ⟨k + 1, by omega, by go_num, HM.out, HB.out⟩
              case measure => simp [intOf]; omega
        · have hkni : ¬ (k : Int) < (n : Int) := by omega
          obtain rfl : n = k := by omega
          have HM := Lib.hid (hM.congr (m' := War m n) fun x y _ _ => mW_zero n x y)
          have HB := Lib.hid hb
          clear hM hb
          go_wp2_with fail
          go_ret
          exact ⟨fun _ => ⟨Ai, ci, rfl, HM.out.out.cap, HM.out.rdm, HB.out⟩, fun e => absurd e (by rw [HSQ.out]; decide)⟩
end Go.Proofs.Ytknlhhbkahollaa
