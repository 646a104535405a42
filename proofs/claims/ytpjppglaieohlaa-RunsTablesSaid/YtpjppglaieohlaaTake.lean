/- A cursor in memory: ticks are taken of its leaf. -/
import Derived.Test.YtpjppglaieohlaaCur
import Derived.Deep.RegionWith
namespace Go.Proofs.Ytpjppglaieohlaa
open Go.RowKit Tab
set_option linter.unusedSimpArgs false
set_option linter.unusedVariables false

/-- The leaves and the ticks of them that are taken, so many further on. -/
def nextTd : List Rn → Nat → Nat → List Rn × Nat
  | [], tk, _ => ([], tk)
  | r :: s, tk, m => if tk + m < r.n then (r :: s, tk + m) else (s, 0)
/-- A cursor that has gone on; no other block that was there has turned. -/
def CurN (b : Nat) (A : Option Addr) (n cap : Nat) (l : List Nd) (td : List Rn) (tk gn : Nat) (v : Value) (w : World) (e : Ending) (w' : World) : Prop :=
  e = .returned v ∧ Cur w' b A n cap l td tk gn ∧ w.grownBy w' (some b)
theorem beh_small {l : List Nd} {st : List (Nat × Nat)} {p : Nat} {td : List Rn} (h : Beh l st p td) (hl : l.length ≤ 128) : ∀ e ∈ st, 1 ≤ e.1 ∧ e.1 ≤ 9223372036854775807 ∧ e.2 ≤ 1048576 := fun e he => by
  have := h.bound e he
  omega
set_option maxRecDepth 100000 in
set_option maxHeartbeats 3200000 in
theorem take_any (b : Nat) (A : Option Addr) (n cap : Nat) (l : List Nd) (r : Rn) (s : List Rn) (tk gn m : Nat) (w : World) (h : Cur w b A n cap l (r :: s) tk gn) (hm : 1 ≤ m) (hm2 : tk + m ≤ r.n) :
    Calls Try.prog 44 #[.pointer (some ⟨b, 0, none⟩), .int .i64 (m : Int)] w (CurN b A n cap l (nextTd (r :: s) tk m).1 (nextTd (r :: s) tk m).2 (gn + m) (.tuple #[]) w) := by
  obtain ⟨c, st, p, hB, hP, e0, e34, e35, e36, hA⟩ := h.ex
  have hlt := hB.lt
  have c0 := (hB 0 (by omega)).1
  have c34 := (hB 34 (by omega)).1
  have c35 := (hB 35 (by omega)).1
  have c36 := (hB 36 (by omega)).1
  have f34 := (hB 34 (by omega)).2
  have f35 := (hB 35 (by omega)).2
  have f36 := (hB 36 (by omega)).2
  rw [e0] at c0
  rw [e34] at c34
  rw [e35] at c35
  rw [e36] at c36
  have hlen := h.tb.rd.len
  have hn := h.tb.hn
  have hcap := h.tb.cap
  have hsum := h.sum
  simp only [ticks] at hsum
  rcases hA with ⟨_, _, h0⟩ | ⟨x, u, hf, h3, h4, hx, hst, hbeh, hxe⟩
  · cases h0
  · obtain ⟨xk, xp, xn⟩ := x
    have hpl : p < n := by rw [← hlen]; exact (List.getElem?_eq_some_iff.1 hx).1
    obtain ⟨ad, y, rfl, hab, hy, hin, d0, d1, d2⟩ := h.tb.rd.at_ hpl
    rw [hx] at hy
    injection hy with hy
    subst hy
    have hn1 := fine_one hf
    obtain ⟨N, rfl⟩ := Int.eq_ofNat_of_zero_le (show 0 ≤ xn by dsimp only at hn1; omega)
    injection hxe with hr hs
    subst hs
    have hN : r.n = N := by rw [hr]; simp
    have hN2 : (N : Int) ≤ 9223372036854775807 := hin.2.2.2
    rw [hN] at hm2 hsum
    have hgn : gn + m ≤ 1048576 := by omega
    have hlt0 : (p : Int) < (n : Int) := by omega
    have hlt1 : 0 ≤ (p : Int) := by omega
    have hne : ¬ ad.block = b := by omega
    have HB := Lib.hid hB
    have HH := Lib.hid h
    have HP := Lib.hid hP
    have HN := Lib.hid hN
    have HE := Lib.hid (And.intro e0 (And.intro e34 (And.intro e35 e36)))
    have HA : Hid (AtL l st p (r :: s)) := Lib.hid (.inr ⟨_, s, hf, h3, h4, hx, hst, hbeh, by rw [hr]⟩)
    have HBE := Lib.hid hbeh
    have hne2 : ¬ (ad.add (p * 3)).block = b := by rw [add_block]; exact hne
    have hB1 : Blk ((w.setCell ⟨b, 35, none⟩ (.int .i64 ((tk : Int) + (m : Int)))).setCell ⟨b, 36, none⟩ (.int .i64 ((gn : Int) + (m : Int)))) b (upd (upd c 35 (.int .i64 ((tk : Int) + (m : Int)))) 36 (.int .i64 ((gn : Int) + (m : Int)))) := (hB.set (by omega) _).set (by omega) _
    have hG1 : w.grownBy ((w.setCell ⟨b, 35, none⟩ (.int .i64 ((tk : Int) + (m : Int)))).setCell ⟨b, 36, none⟩ (.int .i64 ((gn : Int) + (m : Int)))) (some b) := gb_set (gb_set (gb_refl _ _) _ _) _ _
    obtain ⟨W, hW⟩ : ∃ W, W = (w.setCell ⟨b, 35, none⟩ (.int .i64 ((tk : Int) + (m : Int)))).setCell ⟨b, 36, none⟩ (.int .i64 ((gn : Int) + (m : Int))) := ⟨_, rfl⟩
    rw [← hW] at hB1 hG1
    have k0 := (hB1 0 (by omega)).1
    have k34 := (hB1 34 (by omega)).1
    have k35 := (hB1 35 (by omega)).1
    have g34 := (hB1 34 (by omega)).2
    have g35 := (hB1 35 (by omega)).2
    rw [upd_other (by omega), upd_other (by omega), e0] at k0
    rw [upd_other (by omega), upd_other (by omega), e34] at k34
    rw [upd_other (by omega), upd_same] at k35
    have hTW := h.tb.gb (Nat.le_of_lt hlt) hG1
    obtain ⟨ad', y', e, _, hy', _, _, _, k2⟩ := hTW.rd.at_ hpl
    injection e with e
    subst e
    rw [hx] at hy'
    injection hy' with hy'
    subst hy'
    have HB1 := Lib.hid hB1
    have HG1 := Lib.hid hG1
    have HT := Lib.hid hTW
    have HW := Lib.hid hW
    clear h hB hP e0 e34 e35 e36 hf h3 h4 hx hst hbeh hr hB1 hG1 hTW hW d0 d1 d2 hin hlen hN hn1
    by_cases hlt2 : tk + m < N
    · have hlt3 : (tk : Int) + (m : Int) < (N : Int) := by omega
      have hnx : nextTd (r :: s) tk m = (r :: s, tk + m) := by simp only [nextTd]; rw [HN.out, if_pos hlt2]
      rw [hnx]
      have HL := Lib.hid hlt2
      clear hnx
      go_enter Try.func44, Try.ntmps44
      go_wp2_with fail
      rw [← HW.out]
      go_quiet (fail)
      go_wp2_with fail
      refine bodyPost_ret (results_none rfl _ _ _) rfl ⟨rfl, ⟨HT.out.drewN _, ⟨_, st, p, HB1.out.drewN _, ⟨(HP.out.1.put (by have := HP.out.2.2; omega) _).put (by have := HP.out.2.2; omega) _, ?_, HP.out.2.2⟩, ?_, ?_, ?_, ?_, HA.out⟩, ?_, fun h => by (cases h), ?_, HH.out.pos⟩, gb_drewN HG1.out _⟩
      · rw [upd_other (by omega), upd_other (by omega)]; exact HP.out.2.1
      · rw [upd_other (by omega), upd_other (by omega)]; exact HE.out.1
      · rw [upd_other (by omega), upd_other (by omega)]; exact HE.out.2.1
      · rw [upd_other (by omega), upd_same]; rfl
      · rw [upd_same]; rfl
      · rintro r' s' e
        injection e with e1 e2
        subst e1
        rw [HN.out]
        exact HL.out
      · simp only [ticks]
        rw [HN.out]
        omega
    · have hlt3 : ¬ (tk : Int) + (m : Int) < (N : Int) := by omega
      have hnx : nextTd (r :: s) tk m = (s, 0) := by simp only [nextTd]; rw [HN.out, if_neg hlt2]
      rw [hnx]
      have hc2 : ∀ q, Blk ((W.drewN q).setCell ⟨b, 35, none⟩ (.int .i64 0)) b (upd (upd (upd c 35 (.int .i64 ((tk : Int) + (m : Int)))) 36 (.int .i64 ((gn : Int) + (m : Int)))) 35 (.int .i64 0)) := fun q => (HB1.out.drewN q).set (by omega) _
      have hg2 : ∀ q, w.grownBy ((W.drewN q).setCell ⟨b, 35, none⟩ (.int .i64 0)) (some b) := fun q => gb_set (gb_drewN HG1.out q) _ _
      have hp2 : PathC (upd (upd (upd c 35 (.int .i64 ((tk : Int) + (m : Int)))) 36 (.int .i64 ((gn : Int) + (m : Int)))) 35 (.int .i64 0)) st := by
        have h16 := HP.out.2.2
        refine ⟨((HP.out.1.put (by omega) _).put (by omega) _).put (by omega) _, ?_, h16⟩
        rw [upd_other (by omega), upd_other (by omega), upd_other (by omega)]
        exact HP.out.2.1
      have h234 : (upd (upd (upd c 35 (.int .i64 ((tk : Int) + (m : Int)))) 36 (.int .i64 ((gn : Int) + (m : Int)))) 35 (.int .i64 0)) 34 = .int .i64 (p : Int) := by
        rw [upd_other (by omega), upd_other (by omega), upd_other (by omega)]; exact HE.out.2.1
      have h20 : (upd (upd (upd c 35 (.int .i64 ((tk : Int) + (m : Int)))) 36 (.int .i64 ((gn : Int) + (m : Int)))) 35 (.int .i64 0)) 0 = .slice (some ad) n cap := by
        rw [upd_other (by omega), upd_other (by omega), upd_other (by omega)]; exact HE.out.1
      have h235 : (upd (upd (upd c 35 (.int .i64 ((tk : Int) + (m : Int)))) 36 (.int .i64 ((gn : Int) + (m : Int)))) 35 (.int .i64 0)) 35 = .int .i64 ((0 : Nat) : Int) := by
        rw [upd_same]; rfl
      have h236 : (upd (upd (upd c 35 (.int .i64 ((tk : Int) + (m : Int)))) 36 (.int .i64 ((gn : Int) + (m : Int)))) 35 (.int .i64 0)) 36 = .int .i64 ((gn + m : Nat) : Int) := by
        rw [upd_other (by omega), upd_same]; rfl
      have HC2 := Lib.hid hc2
      have HG2 := Lib.hid hg2
      clear hnx hc2 hg2
      generalize upd (upd (upd c 35 (.int .i64 ((tk : Int) + (m : Int)))) 36 (.int .i64 ((gn : Int) + (m : Int)))) 35 (.int .i64 0) = c2 at HC2 hp2 h234 h20 h235 h236
      have H2 := Lib.hid (And.intro h20 (And.intro h234 (And.intro h235 h236)))
      have HP2 := Lib.hid hp2
      have HL := Lib.hid hlt2
      clear hp2 h234 h20 h235 h236 hlt2
      go_enter Try.func44, Try.ntmps44
      go_wp2_with fail
      rw [← HW.out]
      go_quiet (fail)
      go_wp2_with fail
      have hB2 := HC2.out nq
      have hG2 := HG2.out nq
      generalize (W.drewN nq).setCell ⟨b, 35, none⟩ (.int .i64 0) = W2 at hB2 hG2 ⊢
      have q34 := (hB2 34 (by omega)).1
      rw [H2.out.2.1] at q34
      have r34 := (hB2 34 (by omega)).2
      have HB2 := Lib.hid hB2
      have HGG := Lib.hid hG2
      clear hB2 hG2 k0 k34 k35 g34 g35 k2
      have hbh : Calls Try.prog 51 #[.pointer (some ⟨b, 1, none⟩), .int .i64 (p : Int)] W2.drew fun e w3 => e = .returned (.int .i64 ((popm st (p + 1)).2 : Nat)) ∧ w3.cell? ⟨b, 34, none⟩ = some (.int .i64 (p : Int)) ∧ w3.frozen? ⟨b, 34, none⟩ = false ∧ ∃ c3, Blk w3 b c3 ∧ PathC c3 (popm st (p + 1)).1 ∧ Rest c2 c3 ∧ W2.drew.grownBy w3 (some b) := by
        refine (behind1_any b c2 st p W2.drew HB2.out HP2.out (beh_small HBE.out (by rw [HH.out.tb.rd.len]; omega)) (by omega)).mono ?_
        rintro e w3 ⟨rfl, c3, hB3, hP3, hR3, hG3⟩
        exact ⟨rfl, by rw [(hB3 34 (by omega)).1, hR3.2 34 (by omega), H2.out.2.1], (hB3 34 (by omega)).2, c3, hB3, hP3, hR3, hG3⟩
      generalize hpq : (popm st (p + 1)).2 = p2 at hbh
      have HPQ := Lib.hid hpq
      clear hpq
      have HBH := Lib.hid hbh
      clear hbh
      go_region_with (go_at_call 51; refine HBH.out.mono ?_; rintro e w3 ⟨rfl, q3, r3, hex⟩)
      go_wp2_with fail
      obtain ⟨c3, hB3, hP3, hR3, hG3⟩ := hex
      have hpop := HBE.out.pop
      rw [HPQ.out] at hpop
      have hG4 := gb_trans (gb_drew HGG.out) hG3
      have hB4 := hB3.set (i := 34) (by omega) (.int .i64 (p2 : Int))
      have hG5 := gb_set hG4 34 (.int .i64 (p2 : Int))
      have hT5 := HH.out.tb.gb (Nat.le_of_lt hlt) hG5
      have hP4 : PathC (upd c3 34 (.int .i64 (p2 : Int))) (popm st (p + 1)).1 := ⟨hP3.1.put (by have := hP3.2.2; omega) _, by rw [upd_other (by omega)]; exact hP3.2.1, hP3.2.2⟩
      refine (enter_any b (some ad) n cap l _ (popm st (p + 1)).1 p2 s _ hB4 hT5 hP4 (by rw [upd_other (by omega), hR3.1, H2.out.1]) (upd_same _ _ _) hpop).mono ?_
      rintro e w5 ⟨rfl, c5, st5, p5, hB5, hP5, e34, e0, e35, e36, hA5, hG6⟩
      go_wp2_with fail
      go_end0
      refine ⟨rfl, ⟨hT5.gb (Nat.le_of_lt hB4.lt) hG6, ⟨c5, st5, p5, hB5, hP5, ?_, e34, ?_, ?_, hA5⟩, fun r' s' e => ?_, fun _ => rfl, ?_, fun q hq => HH.out.pos q (List.mem_cons_of_mem _ hq)⟩, gb_trans hG5 hG6⟩
      · rw [e0, upd_other (by omega), hR3.1, H2.out.1]
      · rw [e35, upd_other (by omega), hR3.2 35 (by omega), H2.out.2.2.1]
      · rw [e36, upd_other (by omega), hR3.2 36 (by omega), H2.out.2.2.2]
      · exact HH.out.pos r' (List.mem_cons_of_mem _ (by rw [e]; exact List.mem_cons_self))
      · have := HL.out
        omega
end Go.Proofs.Ytpjppglaieohlaa
