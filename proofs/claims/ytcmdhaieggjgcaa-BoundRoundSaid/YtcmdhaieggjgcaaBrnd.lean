/- BoundRound: a frame that begins a run later, round, makes nobody later, and gives each as many ticks (the walk; what package bound answers is a premise). -/
import Derived.Test.YtcmdhaieggjgcaaLow2
import Derived.Test.YtcmdhaieggjgcaaBfra
import Derived.Test.YtcmdhaieggjgcaaRegs
namespace Go.Proofs.Ytcmdhaieggjgcaa.boundRound
open Go.ChangeShapes Go.WideShapes Go.ChangeAt Go.RowKit Tab
open boundFrames (ticks_pos)
set_option linter.unusedSimpArgs false
set_option linter.unusedVariables false

theorem rsDrop (l : List Rn) (k : Nat) : rs (l.drop k) = (rs l).drop (k * 2) := by
  induction k generalizing l with
  | zero => simp
  | succ k ih =>
    cases l with
    | nil => simp [rs]
    | cons x l => rw [List.drop_succ_cons, ih, show (k + 1) * 2 = k * 2 + 2 by omega]; simp [rs]
theorem rsTake (l : List Rn) (k : Nat) : rs (l.take k) = (rs l).take (k * 2) := by
  induction k generalizing l with
  | zero => simp [rs]
  | succ k ih =>
    cases l with
    | nil => simp [rs]
    | cons x l => rw [List.take_succ_cons, show (k + 1) * 2 = k * 2 + 2 by omega]; simp [rs, ih]
theorem front2 {w : World} {B n : Nat} {A : Option Addr} {l : List Rn} (h : RdR w B A n l) (k : Nat) (hk : k ≤ n) : RdR w B A k (l.take k) :=
  ⟨by rw [List.length_take, h.len]; omega, by rw [rsTake]; exact h.rd.front (k * 2)⟩
theorem back2 {w : World} {B n : Nat} {ad : Addr} {l : List Rn} (h : RdR w B (some ad) n l) (k : Nat) (hk : k ≤ n) : RdR w B (some (ad.add (k * 2))) (n - k) (l.drop k) :=
  ⟨by rw [List.length_drop, h.len], by rw [rsDrop]; exact h.rd.back (k * 2)⟩
/-- In the region: the row under way is the call's own, until it goes on. -/
structure RoundW (w3 : World) (m1 : Nat) (Y : List Rn) (n : Nat) (live : Nat → Bool) (a : Act) (w : World) : Prop where
  below : Below w3.heap.size w3 w
  one : live 0 = true → live 4 = false → ∃ A c, a.eval (.tmp 24) = .slice A 0 c ∧ OwnV 44 2 w w3.heap.size A 0 c []
  two : live 4 = true → live 8 = false → ∃ A c, a.eval (.tmp 28) = .slice A n c ∧ OwnV 44 2 w w3.heap.size A n c (rs Y)
theorem RoundW.first (w3 : World) (m1 : Nat) (Y : List Rn) (n : Nat) (a : Act) : RoundW w3 m1 Y n (fun _ => false) a w3.drew := ⟨(Below.refl _ _).drew, nofun, nofun⟩
section
variable {w3 w w' : World} {m1 n : Nat} {Y : List Rn} {live : Nat → Bool} {a : Act}
theorem upd_ne {live : Nat → Bool} {i j : Nat} (h : i ≠ j) : Rgs.upd live i j = live j := by unfold Rgs.upd; simp [Ne.symm h]
theorem RoundW.upd (h : RoundW w3 m1 Y n live a w) {i d : Nat} {v : Value} (h1 : i ≠ 0) (h2 : i ≠ 4) (h3 : i ≠ 8) (h4 : d ≠ 24) (h5 : d ≠ 28) : RoundW w3 m1 Y n (Rgs.upd live i) (a.put (some d) v) w := by
  refine ⟨h.below, fun l1 l2 => ?_, fun l1 l2 => ?_⟩
  · rw [upd_ne h1] at l1
    rw [upd_ne h2] at l2
    rw [Reg.eval_other _ _ _ _ h4]
    exact h.one l1 l2
  · rw [upd_ne h2] at l1
    rw [upd_ne h3] at l2
    rw [Reg.eval_other _ _ _ _ h5]
    exact h.two l1 l2
theorem RoundW.made (h : RoundW w3 m1 Y n live a w) (hz : 24 < a.tmps.size) : RoundW w3 m1 Y n (Rgs.upd live 0) (a.put (some 24) (.slice (some ⟨w.heap.size, 0, none⟩) 0 0)) (w.alloc (.cells #[] 44)) := by
  have hb := bl1 w (.cells #[] 44)
  refine ⟨h.below.trans (hb.mono h.below.size), fun _ _ => ⟨_, _, Reg.eval_same _ _ _ hz, ownV_lit w _ 2 w3.heap.size #[] 0 rfl h.below.size (by unfold maxLen; omega)⟩, fun l1 l2 => ?_⟩
  rw [upd_ne (by decide)] at l1 l2
  rw [Reg.eval_other _ _ _ _ (by decide)]
  obtain ⟨A, c, e, ho⟩ := h.two l1 l2
  exact ⟨A, c, e, ho.below rfl hb |>.weak (Nat.le_refl _)⟩
theorem RoundW.put (h : RoundW w3 m1 Y n live a w) (hz : 28 < a.tmps.size) (hb : Below w3.heap.size w w') {A : Option Addr} {c : Nat} (ho : OwnV 44 2 w' w3.heap.size A n c (rs Y)) : RoundW w3 m1 Y n (Rgs.upd live 4) (a.put (some 28) (.slice A n c)) w' := by
  refine ⟨h.below.trans hb, fun l1 l2 => ?_, fun _ _ => ⟨A, c, Reg.eval_same _ _ _ hz, ho⟩⟩
  rw [Rgs.upd_self] at l2
  cases l2
theorem RoundW.done (h : RoundW w3 m1 Y n live a w) (hb : Below w3.heap.size w w') {d : Nat} {v : Value} (h4 : live 4 = true := by assumption) : RoundW w3 m1 Y n (Rgs.upd live 8) (a.put (some d) v) w' := by
  refine ⟨h.below.trans hb, fun _ l2 => ?_, fun _ l2 => by rw [Rgs.upd_self] at l2; cases l2⟩
  rw [upd_ne (by decide), h4] at l2
  cases l2
end
set_option maxRecDepth 100000 in
set_option maxHeartbeats 4000000 in
theorem walk (H : BoundW) (A0 : Option Addr) (n0 k0 : Nat) (f0 : Nat → Int) (a1 a2 a3 : Int) (w : World) (r0 : RdC w w.heap.size A0 n0 fun j => .int .i64 (f0 j)) (c0 : n0 ≤ k0) (b0 : k0 ≤ 140737488351232) :
    Calls Try.prog 7 #[.slice A0 n0 k0, .int .i64 a1, .int .i64 a2, .int .i64 a3] w (Ans (.bool true) w) := by
  have R0 := Lib.hid r0
  clear r0
  go_enter Try.func7, Try.ntmps7
  go_wp2_with fail
  refine (row_box A0 n0 k0 f0 w 3 12 3 12 rfl rfl (by omega) (by omega) (by omega) (by omega) R0.out (by omega)).mono ?_
  rintro e w3 ⟨L, A1, m1, c1, rfl, hL, hr1, hd1, h1a, h1b, k1⟩
  have htk : ticks L ≤ 48 := by
    have := fair_ticks hL
    rw [hr1.len] at this
    omega
  obtain ⟨ad, x0, rfl, _, hx0, _, _⟩ := hr1.at_ (i := 0) (by omega)
  have hpos : 0 < ticks L := ticks_pos (List.mem_of_getElem? hx0) (by have := hL x0 (List.mem_of_getElem? hx0); unfold Fair at this; omega)
  have HLN := Lib.hid hr1.len
  have HK3 := Lib.hid k1
  have HRL := Lib.hid fun W (hb : Below w3.heap.size w3 W) => hr1.on hb
  clear k1 hL R0 hx0 hr1
  go_wp2_with fail
  refine (within_at a1 _ (m1 - 1) w3 (by omega) (by omega)).mono ?_
  rintro e _ ⟨k, hk, rfl, rfl⟩
  have HSF : Hid ((k : Int) ≤ (c1 : Int) ∧ k ≤ c1 ∧ ¬ c1 = 0 ∧ (k : Int) ≤ (m1 : Int) ∧ k ≤ m1 ∧ ¬ c1 = k) := Lib.hid ⟨by omega, by omega, by omega, by omega, by omega, by omega⟩
  go_wp2_with fail
  refine Rgs.region (by kernel_rfl) (by kernel_rfl) (fun (opn : Nat) (vl : Value) (wq : World) => match opn with | 1 => vl = .slice (some ad) m1 c1 | 2 => vl = .int .i64 (k : Int) | 3 => vl = .slice (some (ad.add (k * 2))) (m1 - k) (c1 - k) | 5 => vl = .slice (some ad) m1 c1 | 6 => vl = .int .i64 (k : Int) | 7 => vl = .slice (some ad) k c1 | 8 => ∃ A c, vl = .slice A m1 c ∧ OwnV 44 2 wq w3.heap.size A m1 c (rs (L.drop k ++ L.take k)) | 9 => ∃ A c, vl = .slice A m1 c ∧ OwnV 44 2 wq w3.heap.size A m1 c (rs (L.drop k ++ L.take k)) | _ => True) (RoundW w3 m1 (L.drop k) (m1 - k)) (RoundW.first w3 m1 (L.drop k) (m1 - k) _) (Rgs.steps_of ?_) ?_
  · refine ⟨?_, ?_, ?_, ?_, ?_, ?_, ?_, ?_, ?_, ?_, trivial⟩
    · intro a w1 live S E D C h0 hk hW
      have hb1 := bl1 w1 (.cells #[] 44)
      have l4 := Reg.not_live C h0 (j := 4) rfl rfl
      have l8 := Reg.not_live C l4 (j := 8) rfl rfl
      have hz : 24 < a.tmps.size := by rw [S]; exact of_decide_eq_true rfl
      refine Rgs.grow rfl (Reg.wanted_free rfl) (.slice (some ⟨w1.heap.size, 0, none⟩) 0 0) (w1.alloc (.cells #[] 44)) (by have c := Reg.consts a; generalize a.eval = ρ at *; simp [execOp, go_sem, c.1, c.2, go_sem]) trivial (hW.made hz) ?_
      intro j v hl hv
      revert hv
      match j with
      | 8 => rw [l8] at hl; cases hl
      | 9 => have h9 := C 9 _ rfl hl 8 rfl; rw [l8] at h9; cases h9
      | 0 | 1 | 2 | 3 | 4 | 5 | 6 | 7 | _ + 10 => exact fun h => h
    · intro a w1 live S E D C h0 hk hW
      have e9 : a.eval (.tmp 9) = .slice (some ad) m1 c1 := E 9 rfl
      exact Rgs.val rfl (Reg.wanted_free rfl) (.slice (some ad) m1 c1) (by have c := Reg.consts a; generalize a.eval = ρ at *; simp [execOp, go_sem, c.1, c.2, e9]) rfl (hW.upd (by decide) (by decide) (by decide) (by decide) (by decide))
    · intro a w1 live S E D C h0 hk hW
      have e10 : a.eval (.tmp 10) = .int .i64 (k : Int) := E 10 rfl
      exact Rgs.val rfl (Reg.wanted_free rfl) (.int .i64 (k : Int)) (by have c := Reg.consts a; generalize a.eval = ρ at *; simp [execOp, go_sem, c.1, c.2, e10]) rfl (hW.upd (by decide) (by decide) (by decide) (by decide) (by decide))
    · intro a w1 live S E D C h0 hk hW
      have dx : a.eval (.tmp 25) = .slice (some ad) m1 c1 := D 1 rfl _ _ rfl rfl
      have dy : a.eval (.tmp 26) = .int .i64 (k : Int) := D 2 rfl _ _ rfl rfl
      obtain ⟨s1, s2, s3, s4, s5, s6⟩ := HSF.out
      exact Rgs.val rfl (Reg.wanted_free rfl) (.slice (some (ad.add (k * 2))) (m1 - k) (c1 - k)) (by have c := Reg.consts a; generalize a.eval = ρ at *; simp [execOp, go_sem, c.1, c.2, dx, dy, s1, s2, s3, s4, s5, s6]) rfl (hW.upd (by decide) (by decide) (by decide) (by decide) (by decide))
    · intro a w1 live S E D C h0 hk hW
      have dx : a.eval (.tmp 27) = .slice (some (ad.add (k * 2))) (m1 - k) (c1 - k) := D 3 rfl _ _ rfl rfl
      have l8 := Reg.not_live C h0 (j := 8) rfl rfl
      have hz : 28 < a.tmps.size := by rw [S]; exact of_decide_eq_true rfl
      obtain ⟨A5, c5, d5, o5⟩ := hW.one (hk 0 rfl) h0
      have hsr := back2 (HRL.out w1 hW.below) k (by omega)
      obtain ⟨A7, c7, w7, hrun, o7, hb7, _⟩ := run_appV elR w1 w3.heap.size A5 0 c5 [] o5 (some (ad.add (k * 2))) (m1 - k) (c1 - k) (rs (L.drop k)) _ hsr.rd (by rw [rs_length, hsr.len]) (rs_one _) (by omega) (by unfold maxLen; omega) hW.below.size
      rw [List.nil_append, Nat.zero_add] at o7
      rw [Nat.zero_add] at hrun
      refine Rgs.grow rfl (Reg.wanted_free rfl) (.slice A7 (m1 - k) c7) w7 ?_ trivial (hW.put hz hb7 o7) ?_
      · unfold execOp
        simp only [resolve, invoke, builtin, Sem.run_bind, Sem.run_pure, Result.andThen_ok, List.map_toArray, List.map_cons, List.map_nil, dx, d5, hrun]
      · intro j v hl hv
        revert hv
        match j with
        | 8 => rw [l8] at hl; cases hl
        | 9 => have h9 := C 9 _ rfl hl 8 rfl; rw [l8] at h9; cases h9
        | 0 | 1 | 2 | 3 | 4 | 5 | 6 | 7 | _ + 10 => exact fun h => h
    · intro a w1 live S E D C h0 hk hW
      have e9 : a.eval (.tmp 9) = .slice (some ad) m1 c1 := E 9 rfl
      exact Rgs.val rfl (Reg.wanted_free rfl) (.slice (some ad) m1 c1) (by have c := Reg.consts a; generalize a.eval = ρ at *; simp [execOp, go_sem, c.1, c.2, e9]) rfl (hW.upd (by decide) (by decide) (by decide) (by decide) (by decide))
    · intro a w1 live S E D C h0 hk hW
      have e10 : a.eval (.tmp 10) = .int .i64 (k : Int) := E 10 rfl
      exact Rgs.val rfl (Reg.wanted_free rfl) (.int .i64 (k : Int)) (by have c := Reg.consts a; generalize a.eval = ρ at *; simp [execOp, go_sem, c.1, c.2, e10]) rfl (hW.upd (by decide) (by decide) (by decide) (by decide) (by decide))
    · intro a w1 live S E D C h0 hk hW
      have dx : a.eval (.tmp 29) = .slice (some ad) m1 c1 := D 5 rfl _ _ rfl rfl
      have dy : a.eval (.tmp 30) = .int .i64 (k : Int) := D 6 rfl _ _ rfl rfl
      obtain ⟨s1, s2, s3, s4, s5, s6⟩ := HSF.out
      exact Rgs.val rfl (Reg.wanted_free rfl) (.slice (some ad) k c1) (by have c := Reg.consts a; generalize a.eval = ρ at *; simp [execOp, go_sem, c.1, c.2, dx, dy, s1, s2, s3, s4, s5, s6]) rfl (hW.upd (by decide) (by decide) (by decide) (by decide) (by decide))
    · intro a w1 live S E D C h0 hk hW
      have dx : a.eval (.tmp 31) = .slice (some ad) k c1 := D 7 rfl _ _ rfl rfl
      obtain ⟨A5, c5, d5, o5⟩ := hW.two (hk 4 rfl) h0
      have hsr := front2 (HRL.out w1 hW.below) k (by omega)
      obtain ⟨A7, c7, w7, hrun, o7, hb7, _⟩ := run_appV elR w1 w3.heap.size A5 (m1 - k) c5 (rs (L.drop k)) o5 (some ad) k c1 (rs (L.take k)) _ hsr.rd (by rw [rs_length, hsr.len]) (rs_one _) (by omega) (by unfold maxLen; omega) hW.below.size
      rw [← rs_append, show m1 - k + k = m1 by omega] at o7
      rw [show m1 - k + k = m1 by omega] at hrun
      refine Rgs.grow rfl (Reg.wanted_free rfl) (.slice A7 m1 c7) w7 ?_ ⟨A7, c7, rfl, o7⟩ (hW.done hb7 (hk 4 rfl)) ?_
      · unfold execOp
        simp only [resolve, invoke, builtin, Sem.run_bind, Sem.run_pure, Result.andThen_ok, List.map_toArray, List.map_cons, List.map_nil, dx, d5, hrun]
      · intro j v hl hv
        revert hv
        match j with
        | 8 => rw [h0] at hl; cases hl
        | 9 => have h9 := C 9 _ rfl hl 8 rfl; rw [h0] at h9; cases h9
        | 0 | 1 | 2 | 3 | 4 | 5 | 6 | 7 | _ + 10 => exact fun h => h
    · intro a w1 live S E D C h0 hk hW
      obtain ⟨A7, c7, d7, o7⟩ : ∃ A c, a.eval (.tmp 32) = .slice A m1 c ∧ OwnV 44 2 w1 w3.heap.size A m1 c (rs (L.drop k ++ L.take k)) := D 8 rfl _ _ rfl rfl
      exact Rgs.val rfl (Reg.wanted_free rfl) (.slice A7 m1 c7) (by have c := Reg.consts a; generalize a.eval = ρ at *; simp [execOp, go_sem, c.1, c.2, d7]) ⟨A7, c7, rfl, o7⟩ (hW.upd (by decide) (by decide) (by decide) (by decide) (by decide))
  · intro a w5 live hs hd E D' Hl hW
    obtain ⟨_, ⟨A7, c7, rfl, o7⟩, e11⟩ := D' 9 _ rfl
    replace e11 := e11 11 rfl
    rw [Rgs.act_ws a _ _ hs hd E [24, 25, 26, 27, 28, 29, 30, 31, 32, 11] (by kernel_rfl)]
    simp only [List.foldl, List.setIfInBounds_toArray, List.set_cons_succ, List.set_cons_zero, e11]
    have HB5 := Lib.hid hW.below
    have HO7 := Lib.hid o7
    clear E D' Hl hW e11 o7
    generalize a.eval = ρ
    clear a hs hd
    have HRM := Lib.hid fun W (hb : Below w5.heap.size w5 W) => (show RdR w5 w5.heap.size A7 m1 (L.drop k ++ L.take k) from ⟨by rw [List.length_append, List.length_drop, List.length_take, HLN.out]; omega, HO7.out.rd⟩).on hb
    have hc7 := HO7.out.cap
    have HRL5 := Lib.hid fun W (hb : Below w5.heap.size w5 W) => HRL.out W (HB5.out.trans (hb.mono HB5.out.size))
    clear HO7 HSF HRL
    go_wp2_with fail
    refine (within_at a2 _ 2 w5 rfl (by omega)).mono ?_
    rintro e _ ⟨p, hp, rfl, rfl⟩
    go_wp2_with fail
    refine (within_at a3 _ 2 w5 rfl (by omega)).mono ?_
    rintro e _ ⟨q, hq, rfl, rfl⟩
    obtain ⟨T, hT⟩ : ∃ T, T = ticks L := ⟨_, rfl⟩
    have hWL : wordsL L = wordsL (L.take k) ++ wordsL (L.drop k) := by rw [← wordsL_append, List.take_append_drop]
    have hWM : wordsL (L.drop k ++ L.take k) = wordsL (L.drop k) ++ wordsL (L.take k) := wordsL_append _ _
    have hpW : 0 < (wordsL (L.take k) ++ wordsL (L.drop k)).length := by rw [← hWL, wordsL_len]; exact hpos
    have hcirc := circ_turn (wordsL (L.take k)) (wordsL (L.drop k)) hpW
    have htM : ticks (L.drop k ++ L.take k) ≤ 48 := by
      have : ticks (L.drop k ++ L.take k) = ticks L := by
        rw [ticks_append, Nat.add_comm, ← ticks_append, List.take_append_drop]
      omega
    have htT : T ≤ 48 := by omega
    have hz : In64 (T : Int) := by unfold In64; omega
    have CT := Lib.hid fun W (hb : Below w5.heap.size w5 W) => total_any (some ad) m1 c1 L W (HRL5.out W hb) hd1 (by omega) (by omega)
    have CL := Lib.hid fun W (hb : Below w5.heap.size w5 W) => H.late (some ad) m1 c1 L p q W (HRL5.out W hb) hd1 (by omega) (by omega)
    have CM := Lib.hid fun W (hb : Below w5.heap.size w5 W) => H.late A7 m1 c7 (L.drop k ++ L.take k) p q W (HRM.out W hb) hc7 (by omega) (by omega)
    have GL := Lib.hid fun W (hb : Below w5.heap.size w5 W) => H.gaps (some ad) m1 c1 L p W (HRL5.out W hb) hd1 (by omega) (by omega)
    have GM := Lib.hid fun W (hb : Below w5.heap.size w5 W) => H.gaps A7 m1 c7 (L.drop k ++ L.take k) p W (HRM.out W hb) hc7 (by omega) (by omega)
    have BL := Lib.hid fun W (hb : Below w5.heap.size w5 W) => H.budget (some ad) m1 c1 L p T W (HRL5.out W hb) hd1 (by omega) (by omega) hz
    have BM := Lib.hid fun W (hb : Below w5.heap.size w5 W) => H.budget A7 m1 c7 (L.drop k ++ L.take k) p T W (HRM.out W hb) hc7 (by omega) (by omega) hz
    have hWl : (wordsL (L.take k) ++ wordsL (L.drop k)).length = T := by rw [← hWL, wordsL_len, hT]
    have hWl2 : (wordsL (L.drop k) ++ wordsL (L.take k)).length = T := by rw [← hWl]; simp only [List.length_append]; omega
    have e1 : budL (wordsL (L.drop k) ++ wordsL (L.take k)) p (T : Int) = budL (wordsL (L.take k) ++ wordsL (L.drop k)) p (T : Int) := by
      have h1 : budL (wordsL (L.drop k) ++ wordsL (L.take k)) p (T : Int) = cntF p (wordsL (L.drop k) ++ wordsL (L.take k)) := by
        have := budL_all (wordsL (L.drop k) ++ wordsL (L.take k)) p (by rw [hWl2, ← hWl]; exact hpW)
        rw [hWl2] at this
        exact this
      have h2 : budL (wordsL (L.take k) ++ wordsL (L.drop k)) p (T : Int) = cntF p (wordsL (L.take k) ++ wordsL (L.drop k)) := by
        have := budL_all (wordsL (L.take k) ++ wordsL (L.drop k)) p hpW
        rw [hWl] at this
        exact this
      rw [h1, h2, cnt_turn]
    have e2 : gapL (wordsL (L.drop k) ++ wordsL (L.take k)) p = gapL (wordsL (L.take k) ++ wordsL (L.drop k)) p := by unfold gapL; rw [hcirc.late]
    rw [hWM, hcirc.late] at CM
    rw [hWM, e1] at BM
    rw [hWM, e2] at GM
    rw [hWL] at CL GL BL
    rw [← hT] at CT
    generalize lateL (wordsL (L.take k) ++ wordsL (L.drop k)) p q = v1 at CL CM
    generalize gapL (wordsL (L.take k) ++ wordsL (L.drop k)) p = v2 at GL GM
    generalize budL (wordsL (L.take k) ++ wordsL (L.drop k)) p (T : Int) = v3 at BL BM
    have hs1 : (v1 == v1) = true := beq_self_eq_true _
    have hs2 : (v2 == v2) = true := beq_self_eq_true _
    have hs3 : (v3 == v3) = true := beq_self_eq_true _
    have HH : Hid BoundW := Lib.hid H
    clear H e1 e2 hWL hWM hpW hcirc hWl hWl2 hz hT HRM HRL5
    go_wp2_with fail
    refine (CT.out w5 (Below.refl _ _)).mono ?_
    rintro e w10 ⟨rfl, k10⟩
    go_wp2_with fail
    refine (CL.out w10 k10).mono ?_
    rintro e w11 ⟨rfl, hb11⟩
    have k11 := k10.trans (hb11.mono k10.size)
    clear hb11 k10
    go_wp2_with fail
    refine (CM.out w11 k11).mono ?_
    rintro e w12 ⟨rfl, hb12⟩
    have k12 := k11.trans (hb12.mono k11.size)
    clear hb12 k11
    go_wp2_with fail
    refine (GL.out w12 k12).mono ?_
    rintro e w13 ⟨rfl, hb13⟩
    have k13 := k12.trans (hb13.mono k12.size)
    clear hb13 k12
    go_wp2_with fail
    refine (GM.out w13 k13).mono ?_
    rintro e w14 ⟨rfl, hb14⟩
    have k14 := k13.trans (hb14.mono k13.size)
    clear hb14 k13
    go_wp2_with fail
    refine (BL.out w14 k14).mono ?_
    rintro e w15 ⟨rfl, hb15⟩
    have k15 := k14.trans (hb15.mono k14.size)
    clear hb15 k14
    go_wp2_with fail
    refine (BM.out w15 k15).mono ?_
    rintro e w16 ⟨rfl, hb16⟩
    have k16 := k15.trans (hb16.mono k15.size)
    clear hb16 k15
    go_wp2_with fail
    refine (known9_any HH.out w16).mono ?_
    rintro e w17 ⟨rfl, hb17⟩
    have k17 := k16.trans (hb17.mono k16.size)
    have k18 := HB5.out.trans (k17.mono HB5.out.size)
    go_wp2_with fail
    go_ret
    exact Ans.mk rfl (HK3.out.trans (k18.mono HK3.out.size))
end Go.Proofs.Ytcmdhaieggjgcaa.boundRound
