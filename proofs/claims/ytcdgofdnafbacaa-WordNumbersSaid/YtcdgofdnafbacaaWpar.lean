/- WordParts: what two see of a row is what they see of its parts, one behind the other (the walk). -/
import Derived.Test.YtcdgofdnafbacaaLow1
import Derived.Test.YtcdgofdnafbacaaWkno
import Derived.Test.YtcdgofdnafbacaaWlaw
import Derived.Test.YtcdgofdnafbacaaWown
import Derived.Test.YtcdgofdnafbacaaRegs
namespace Go.Proofs.Ytcdgofdnafbacaa.wordParts
open Go.ChangeShapes Go.WideShapes Go.ChangeAt Go.RowKit Tab
set_option linter.unusedSimpArgs false
set_option linter.unusedVariables false

theorem rsDrop (l : List Rn) (k : Nat) : rs (l.drop k) = (rs l).drop (k * 2) := by
  induction k generalizing l with
  | zero => simp
  | succ k ih =>
    cases l with
    | nil => simp [rs]
    | cons x l => rw [List.drop_succ_cons, ih, show (k + 1) * 2 = k * 2 + 2 by omega]; simp [rs]
theorem rsTake (l : List Rn) (k : Nat) : rs (l.take k) = (rs l).take (k * 2) := by
  induction k generalizing l with
  | zero => simp [rs]
  | succ k ih =>
    cases l with
    | nil => simp [rs]
    | cons x l => rw [List.take_succ_cons, show (k + 1) * 2 = k * 2 + 2 by omega]; simp [rs, ih]
theorem front {w : World} {B n : Nat} {A : Option Addr} {l : List Rn} (h : RdR w B A n l) (k : Nat) (hk : k ≤ n) : RdR w B A k (l.take k) :=
  ⟨by rw [List.length_take, h.len]; omega, by rw [rsTake]; exact h.rd.front (k * 2)⟩
/-- The row from a place on, as Go slices it. -/
theorem back {w : World} {B n c : Nat} {ad : Addr} {l : List Rn} (h : RdR w B (some ad) n l) (hc : n ≤ c) (k : Nat) (hk : k ≤ n) : RdR w B (if c = k then some ad else some (ad.add (k * 2))) (n - k) (l.drop k) := by
  refine ⟨by rw [List.length_drop, h.len], ?_⟩
  by_cases hck : c = k
  · have e : l.drop k = [] := List.drop_eq_nil_of_le (by rw [h.len]; omega)
    rw [e]
    exact RdV.nil
  · rw [if_neg hck, rsDrop]
    exact h.rd.back (k * 2)
set_option maxRecDepth 100000 in
set_option maxHeartbeats 1000000 in
theorem within_some (n : Int) (w : World) : Calls Try.prog 16 #[.int .i64 n, .int .i64 (-1), .int .i64 3] w fun e w' => (∃ v, e = .returned (.int .i64 v)) ∧ w = w' := by
  by_cases h1 : (-1 : Int) ≤ n
  · by_cases h2 : n ≤ 3
    · go_enter Try.func16, Try.ntmps16
      go_wp2_with fail
      go_ret
      exact ⟨⟨_, rfl⟩, rfl⟩
    · have hd : decide (n ≤ 3) = false := decide_eq_false h2
      have hr : n.tmod 5 = n % 5 := Int.tmod_eq_emod_of_nonneg (by omega)
      have hm := Int.emod_nonneg n (show (5 : Int) ≠ 0 by decide)
      have hm' := Int.emod_lt_of_pos n (show (0 : Int) < 5 by decide)
      have hw : IntKind.i64.wrap (n.tmod 5) = n.tmod 5 := IntWalk.i64_in _ (by omega)
      have hn : decide (n.tmod 5 < 0) = false := decide_eq_false (by omega)
      generalize n.tmod 5 = r at hw hn hr
      go_enter Try.func16, Try.ntmps16
      go_wp2_with fail
      go_ret
      exact ⟨⟨_, rfl⟩, rfl⟩
  · have hd : decide ((-1 : Int) ≤ n) = false := decide_eq_false h1
    have hm := Int.lt_tmod_of_pos n (show (0 : Int) < 5 by decide)
    have hm' := Int.tmod_lt_of_pos n (show (0 : Int) < 5 by decide)
    have hw : IntKind.i64.wrap (n.tmod 5) = n.tmod 5 := IntWalk.i64_in _ (by omega)
    by_cases hz : n.tmod 5 < 0
    · have hn : decide (n.tmod 5 < 0) = true := decide_eq_true hz
      go_enter Try.func16, Try.ntmps16
      go_wp2_with fail
      go_ret
      exact ⟨⟨_, rfl⟩, rfl⟩
    · have hn : decide (n.tmod 5 < 0) = false := decide_eq_false hz
      go_enter Try.func16, Try.ntmps16
      go_wp2_with fail
      go_ret
      exact ⟨⟨_, rfl⟩, rfl⟩
/-- What the world and the frame are in the region: until the append, the rows that have come up are of the calls' own. -/
structure PartsW (w3 : World) (P1 P2 : List Rn) (live : Nat → Bool) (a : Act) (w : World) : Prop where
  below : Below w3.heap.size w3 w
  one : live 5 = true → live 12 = false → ∃ A c, a.eval (.tmp 31) = .slice A P1.length c ∧ OwnV 31 2 w w3.heap.size A P1.length c (rs P1)
  two : live 11 = true → live 12 = false → ∃ A c, a.eval (.tmp 37) = .slice A P2.length c ∧ RdV w w.heap.size A (rs P2)
theorem PartsW.first (w3 : World) (P1 P2 : List Rn) (a : Act) : PartsW w3 P1 P2 (fun _ => false) a w3.drew := ⟨(Below.refl _ _).drew, nofun, nofun⟩
section
variable {w3 w w' : World} {P1 P2 : List Rn} {live : Nat → Bool} {a : Act}
theorem upd_ne {live : Nat → Bool} {i j : Nat} (h : i ≠ j) : Rgs.upd live i j = live j := by unfold Rgs.upd; simp [Ne.symm h]
theorem PartsW.upd (h : PartsW w3 P1 P2 live a w) {i d : Nat} {v : Value} (h1 : i ≠ 5) (h2 : i ≠ 11) (h3 : i ≠ 12) (h4 : d ≠ 31) (h5 : d ≠ 37) : PartsW w3 P1 P2 (Rgs.upd live i) (a.put (some d) v) w := by
  refine ⟨h.below, fun l1 l2 => ?_, fun l1 l2 => ?_⟩
  · rw [upd_ne h1] at l1
    rw [upd_ne h3] at l2
    rw [Reg.eval_other _ _ _ _ h4]
    exact h.one l1 l2
  · rw [upd_ne h2] at l1
    rw [upd_ne h3] at l2
    rw [Reg.eval_other _ _ _ _ h5]
    exact h.two l1 l2
theorem PartsW.put1 (h : PartsW w3 P1 P2 live a w) (hz : 31 < a.tmps.size) (hb : Below w.heap.size w w') {A : Option Addr} {c : Nat} (ho : OwnV 31 2 w' w.heap.size A P1.length c (rs P1)) : PartsW w3 P1 P2 (Rgs.upd live 5) (a.put (some 31) (.slice A P1.length c)) w' := by
  refine ⟨h.below.trans (hb.mono h.below.size), fun _ _ => ⟨A, c, Reg.eval_same _ _ _ hz, ho.weak h.below.size⟩, fun l1 l2 => ?_⟩
  rw [upd_ne (by decide)] at l1 l2
  rw [Reg.eval_other _ _ _ _ (by decide)]
  obtain ⟨A', c', e, hr⟩ := h.two l1 l2
  exact ⟨A', c', e, (hr.below hb).more hb.size⟩
theorem PartsW.put2 (h : PartsW w3 P1 P2 live a w) (hz : 37 < a.tmps.size) (hb : Below w.heap.size w w') {A : Option Addr} {c : Nat} (ho : OwnV 31 2 w' w.heap.size A P2.length c (rs P2)) : PartsW w3 P1 P2 (Rgs.upd live 11) (a.put (some 37) (.slice A P2.length c)) w' := by
  refine ⟨h.below.trans (hb.mono h.below.size), fun l1 l2 => ?_, fun _ _ => ⟨A, c, Reg.eval_same _ _ _ hz, ho.rd⟩⟩
  rw [upd_ne (by decide)] at l1 l2
  rw [Reg.eval_other _ _ _ _ (by decide)]
  obtain ⟨A', c', e, hr⟩ := h.one l1 l2
  exact ⟨A', c', e, hr.below rfl hb⟩
theorem PartsW.done (h : PartsW w3 P1 P2 live a w) (hb : Below w3.heap.size w w') {d : Nat} {v : Value} : PartsW w3 P1 P2 (Rgs.upd live 12) (a.put (some d) v) w' :=
  ⟨h.below.trans hb, (fun _ l2 => by rw [Rgs.upd_self] at l2; cases l2), (fun _ l2 => by rw [Rgs.upd_self] at l2; cases l2)⟩
end
set_option maxRecDepth 100000 in
set_option maxHeartbeats 4000000 in
theorem walk (H : WordW) (A0 : Option Addr) (n0 k0 : Nat) (f0 : Nat → Int) (a1 a2 a3 : Int) (w : World) (r0 : RdC w w.heap.size A0 n0 fun j => .int .i64 (f0 j)) (c0 : n0 ≤ k0) (b0 : k0 ≤ 140737488351232) :
    Calls Try.prog 8 #[.slice A0 n0 k0, .int .i64 a1, .int .i64 a2, .int .i64 a3] w (Ans (.bool true) w) := by
  have R0 := Lib.hid r0
  clear r0
  go_enter Try.func8, Try.ntmps8
  go_wp2_with fail
  refine (row_box A0 n0 k0 f0 w 4 16 4 16 rfl rfl (by omega) (by omega) (by omega) (by omega) R0.out (by omega)).mono ?_
  rintro e w3 ⟨L, B1, m1, c1, rfl, hL, hr1, hd1, h1a, h1b, k1⟩
  have htk : ticks L ≤ 64 := by
    have := fair_ticks hL
    rw [hr1.len] at this
    omega
  have HR1 := Lib.hid hr1
  have HK3 := Lib.hid k1
  clear hr1 k1 hL R0
  go_wp2_with fail
  refine (within_at a1 _ m1 w3 rfl (by omega)).mono ?_
  rintro e _ ⟨k, hk, rfl, rfl⟩
  go_wp2_with fail
  refine (within_some a2 w3).mono ?_
  rintro e _ ⟨⟨p, rfl⟩, rfl⟩
  go_wp2_with fail
  refine (within_some a3 w3).mono ?_
  rintro e _ ⟨⟨q, rfl⟩, rfl⟩
  obtain ⟨ad, _, rfl, _⟩ := HR1.out.at_ (i := 0) (by omega)
  have hlL := HR1.out.len
  have ht1 : ticks (L.take k) ≤ 64 := Nat.le_trans (take_ticks L k) htk
  have ht2 : ticks (L.drop k) ≤ 64 := by
    have : ticks L = ticks (L.take k) + ticks (L.drop k) := by rw [← ticks_append, List.take_append_drop]
    omega
  have HP1 := Lib.hid fun W (hb : Below w3.heap.size w3 W) => wproj_own (some ad) k c1 (L.take k) p q W ((front HR1.out k hk).on hb) (by omega) (by omega) (by omega)
  have HP2 := Lib.hid fun W (hb : Below w3.heap.size w3 W) => wproj_own _ (m1 - k) (c1 - k) (L.drop k) p q W ((back HR1.out hd1 k hk).on hb) (by omega) (by omega) (by omega)
  have HPL := Lib.hid fun W (hb : Below w3.heap.size w3 W) => wproj_any (some ad) m1 c1 L p q W (HR1.out.on hb) hd1 (by omega) (by omega)
  have HTL := Lib.hid fun W (hb : Below w3.heap.size w3 W) => xticks_any (some ad) m1 c1 L p W (HR1.out.on hb) hd1 (by omega) (by omega)
  have hpp : tidy (proj p q (L.take k) ++ proj p q (L.drop k)) = proj p q L := by rw [proj_parts, List.take_append_drop]
  have htp : tkOf p (proj p q L) = tkOf p L := tkOf_proj p p q L (.inl rfl)
  have hl1 := proj_le p q (L.take k)
  have hl2 := proj_le p q (L.drop k)
  have hl3 := proj_le p q L
  have hpt : ∀ X : List Rn, ticks (proj p q X) ≤ ticks X := fun X => by
    unfold proj
    rw [ticks_tidy]
    exact ticks_filter _ _
  have hq1 := hpt (L.take k)
  have hq2 := hpt (L.drop k)
  have hq3 := hpt L
  rw [List.length_take] at hl1
  rw [List.length_drop] at hl2
  generalize tkOf p L = tk at htp HTL
  generalize proj p q L = PL at HPL hpp htp hl3 hq3
  generalize proj p q (L.take k) = P1 at HP1 hpp hl1 hq1
  generalize proj p q (L.drop k) = P2 at HP2 hpp hl2 hq2
  have hq4 : ticks (P1 ++ P2) ≤ 128 := by rw [ticks_append]; omega
  have HPP := Lib.hid hpp
  have HTK := Lib.hid htp
  have hki : (k : Int) ≤ (c1 : Int) := by omega
  have hki2 : (k : Int) ≤ (m1 : Int) := by omega
  have HSF : Hid ((k : Int) ≤ (c1 : Int) ∧ k ≤ c1 ∧ ¬ c1 = 0 ∧ k ≤ 9223372036854775807) := Lib.hid ⟨hki, by omega, by omega, by omega⟩
  have HST : Hid ((k : Int) ≤ (m1 : Int) ∧ k ≤ m1) := Lib.hid ⟨hki2, hk⟩
  clear hpp htp HR1 hpt
  go_wp2_with fail
  refine Rgs.region (by kernel_rfl) (by kernel_rfl) (fun (opn : Nat) (vl : Value) (wq : World) => match opn with | 0 => vl = .slice (some ad) m1 c1 | 1 => vl = .int .i64 (k : Int) | 2 => vl = .slice (some ad) k c1 | 3 => vl = .int .i64 p | 4 => vl = .int .i64 q | 6 => vl = .slice (some ad) m1 c1 | 7 => vl = .int .i64 (k : Int) | 8 => vl = .slice (if c1 = k then some ad else some (ad.add (k * 2))) (m1 - k) (c1 - k) | 9 => vl = .int .i64 p | 10 => vl = .int .i64 q | 12 => ∃ A c, vl = .slice A (P1.length + P2.length) c ∧ OwnV 31 2 wq w3.heap.size A (P1.length + P2.length) c (rs (P1 ++ P2)) | 13 => ∃ A c, vl = .slice A (P1.length + P2.length) c ∧ OwnV 31 2 wq w3.heap.size A (P1.length + P2.length) c (rs (P1 ++ P2)) | _ => True) (PartsW w3 P1 P2) (PartsW.first w3 P1 P2 _) (Rgs.steps_of ?_) ?_
  · refine ⟨?_, ?_, ?_, ?_, ?_, ?_, ?_, ?_, ?_, ?_, ?_, ?_, ?_, ?_, trivial⟩
    · intro a w1 live S E D C h0 hk hW
      have e9 : a.eval (.tmp 9) = .slice (some ad) m1 c1 := E 9 rfl
      exact Rgs.val rfl (Reg.wanted_free rfl) (.slice (some ad) m1 c1) (by have c := Reg.consts a; generalize a.eval = ρ at *; simp [execOp, go_sem, c.1, c.2, e9]) rfl (hW.upd (by decide) (by decide) (by decide) (by decide) (by decide))
    · intro a w1 live S E D C h0 hk hW
      have e10 : a.eval (.tmp 10) = .int .i64 (k : Int) := E 10 rfl
      exact Rgs.val rfl (Reg.wanted_free rfl) (.int .i64 (k : Int)) (by have c := Reg.consts a; generalize a.eval = ρ at *; simp [execOp, go_sem, c.1, c.2, e10]) rfl (hW.upd (by decide) (by decide) (by decide) (by decide) (by decide))
    · intro a w1 live S E D C h0 hk hW
      have dx : a.eval (.tmp 26) = .slice (some ad) m1 c1 := D 0 rfl _ _ rfl rfl
      have dy : a.eval (.tmp 27) = .int .i64 (k : Int) := D 1 rfl _ _ rfl rfl
      have hsl := HSF.out
      exact Rgs.val rfl (Reg.wanted_free rfl) (.slice (some ad) k c1) (by have c := Reg.consts a; generalize a.eval = ρ at *; simp [execOp, go_sem, c.1, c.2, dx, dy, hsl]) rfl (hW.upd (by decide) (by decide) (by decide) (by decide) (by decide))
    · intro a w1 live S E D C h0 hk hW
      have e11 : a.eval (.tmp 11) = .int .i64 p := E 11 rfl
      exact Rgs.val rfl (Reg.wanted_free rfl) (.int .i64 p) (by have c := Reg.consts a; generalize a.eval = ρ at *; simp [execOp, go_sem, c.1, c.2, e11]) rfl (hW.upd (by decide) (by decide) (by decide) (by decide) (by decide))
    · intro a w1 live S E D C h0 hk hW
      have e12 : a.eval (.tmp 12) = .int .i64 q := E 12 rfl
      exact Rgs.val rfl (Reg.wanted_free rfl) (.int .i64 q) (by have c := Reg.consts a; generalize a.eval = ρ at *; simp [execOp, go_sem, c.1, c.2, e12]) rfl (hW.upd (by decide) (by decide) (by decide) (by decide) (by decide))
    · intro a w1 live S E D C h0 hk hW
      have dx : a.eval (.tmp 28) = .slice (some ad) k c1 := D 2 rfl _ _ rfl rfl
      have dp : a.eval (.tmp 29) = .int .i64 p := D 3 rfl _ _ rfl rfl
      have dq : a.eval (.tmp 30) = .int .i64 q := D 4 rfl _ _ rfl rfl
      refine Rgs.call rfl (Reg.wanted_free rfl) 22 #[.slice (some ad) k c1, .int .i64 p, .int .i64 q] (by have c := Reg.consts a; generalize a.eval = ρ at *; simp [execOp, go_sem, c.1, c.2, dx, dp, dq]) ?_
      refine (HP1.out w1 hW.below).mono ?_
      rintro e w5 ⟨A5, c5, rfl, hr5, hb5⟩
      have hz : 31 < a.tmps.size := by rw [S]; exact of_decide_eq_true rfl
      exact ⟨_, rfl, trivial, hW.put1 hz hb5 hr5, fun j v _ hv => by
        revert hv
        match j with
        | 12 => exact fun ⟨A, c, h1, h2⟩ => ⟨A, c, h1, OwnV.below h2 rfl hb5⟩
        | 13 => exact fun ⟨A, c, h1, h2⟩ => ⟨A, c, h1, OwnV.below h2 rfl hb5⟩
        | 0 | 1 | 2 | 3 | 4 | 5 | 6 | 7 | 8 | 9 | 10 | 11 | _ + 14 => exact fun h => h⟩
    · intro a w1 live S E D C h0 hk hW
      have e9 : a.eval (.tmp 9) = .slice (some ad) m1 c1 := E 9 rfl
      exact Rgs.val rfl (Reg.wanted_free rfl) (.slice (some ad) m1 c1) (by have c := Reg.consts a; generalize a.eval = ρ at *; simp [execOp, go_sem, c.1, c.2, e9]) rfl (hW.upd (by decide) (by decide) (by decide) (by decide) (by decide))
    · intro a w1 live S E D C h0 hk hW
      have e10 : a.eval (.tmp 10) = .int .i64 (k : Int) := E 10 rfl
      exact Rgs.val rfl (Reg.wanted_free rfl) (.int .i64 (k : Int)) (by have c := Reg.consts a; generalize a.eval = ρ at *; simp [execOp, go_sem, c.1, c.2, e10]) rfl (hW.upd (by decide) (by decide) (by decide) (by decide) (by decide))
    · intro a w1 live S E D C h0 hk hW
      have dx : a.eval (.tmp 32) = .slice (some ad) m1 c1 := D 6 rfl _ _ rfl rfl
      have dy : a.eval (.tmp 33) = .int .i64 (k : Int) := D 7 rfl _ _ rfl rfl
      have hsl := HST.out
      exact Rgs.val rfl (Reg.wanted_free rfl) (.slice (if c1 = k then some ad else some (ad.add (k * 2))) (m1 - k) (c1 - k)) (by have c := Reg.consts a; generalize a.eval = ρ at *; simp [execOp, go_sem, c.1, c.2, dx, dy, hsl]) rfl (hW.upd (by decide) (by decide) (by decide) (by decide) (by decide))
    · intro a w1 live S E D C h0 hk hW
      have e11 : a.eval (.tmp 11) = .int .i64 p := E 11 rfl
      exact Rgs.val rfl (Reg.wanted_free rfl) (.int .i64 p) (by have c := Reg.consts a; generalize a.eval = ρ at *; simp [execOp, go_sem, c.1, c.2, e11]) rfl (hW.upd (by decide) (by decide) (by decide) (by decide) (by decide))
    · intro a w1 live S E D C h0 hk hW
      have e12 : a.eval (.tmp 12) = .int .i64 q := E 12 rfl
      exact Rgs.val rfl (Reg.wanted_free rfl) (.int .i64 q) (by have c := Reg.consts a; generalize a.eval = ρ at *; simp [execOp, go_sem, c.1, c.2, e12]) rfl (hW.upd (by decide) (by decide) (by decide) (by decide) (by decide))
    · intro a w1 live S E D C h0 hk hW
      have dx : a.eval (.tmp 34) = .slice (if c1 = k then some ad else some (ad.add (k * 2))) (m1 - k) (c1 - k) := D 8 rfl _ _ rfl rfl
      have dp : a.eval (.tmp 35) = .int .i64 p := D 9 rfl _ _ rfl rfl
      have dq : a.eval (.tmp 36) = .int .i64 q := D 10 rfl _ _ rfl rfl
      refine Rgs.call rfl (Reg.wanted_free rfl) 22 #[.slice (if c1 = k then some ad else some (ad.add (k * 2))) (m1 - k) (c1 - k), .int .i64 p, .int .i64 q] (by have c := Reg.consts a; generalize a.eval = ρ at *; simp [execOp, go_sem, c.1, c.2, dx, dp, dq]) ?_
      refine (HP2.out w1 hW.below).mono ?_
      rintro e w5 ⟨A5, c5, rfl, hr5, hb5⟩
      have hz : 37 < a.tmps.size := by rw [S]; exact of_decide_eq_true rfl
      exact ⟨_, rfl, trivial, hW.put2 hz hb5 hr5, fun j v _ hv => by
        revert hv
        match j with
        | 12 => exact fun ⟨A, c, h1, h2⟩ => ⟨A, c, h1, OwnV.below h2 rfl hb5⟩
        | 13 => exact fun ⟨A, c, h1, h2⟩ => ⟨A, c, h1, OwnV.below h2 rfl hb5⟩
        | 0 | 1 | 2 | 3 | 4 | 5 | 6 | 7 | 8 | 9 | 10 | 11 | _ + 14 => exact fun h => h⟩
    · intro a w1 live S E D C h0 hk hW
      obtain ⟨A5, c5, d5, o5⟩ := hW.one (hk 5 rfl) h0
      obtain ⟨A6, c6, d6, o6⟩ := hW.two (hk 11 rfl) h0
      obtain ⟨A7, c7, w7, hrun, o7, hb7, _⟩ := run_appV elR w1 w3.heap.size A5 P1.length c5 (rs P1) o5 A6 P2.length c6 (rs P2) _ o6 (rs_length P2) (rs_one _) (by omega) (by unfold maxLen; omega) hW.below.size
      rw [← rs_append] at o7
      refine Rgs.grow rfl (Reg.wanted_free rfl) (.slice A7 (P1.length + P2.length) c7) w7 ?_ ⟨A7, c7, rfl, o7⟩ (hW.done hb7) ?_
      · unfold execOp
        simp only [resolve, invoke, builtin, Sem.run_bind, Sem.run_pure, Result.andThen_ok, List.map_toArray, List.map_cons, List.map_nil, d5, d6, hrun]
      · intro j v hl hv
        revert hv
        match j with
        | 12 => rw [h0] at hl; cases hl
        | 13 => have h13 := C 13 _ rfl hl 12 rfl; rw [h0] at h13; cases h13
        | 0 | 1 | 2 | 3 | 4 | 5 | 6 | 7 | 8 | 9 | 10 | 11 | _ + 14 => exact fun h => h
    · intro a w1 live S E D C h0 hk hW
      obtain ⟨A7, c7, d7, o7⟩ : ∃ A c, a.eval (.tmp 38) = .slice A (P1.length + P2.length) c ∧ OwnV 31 2 w1 w3.heap.size A (P1.length + P2.length) c (rs (P1 ++ P2)) := D 12 rfl _ _ rfl rfl
      exact Rgs.val rfl (Reg.wanted_free rfl) (.slice A7 (P1.length + P2.length) c7) (by have c := Reg.consts a; generalize a.eval = ρ at *; simp [execOp, go_sem, c.1, c.2, d7]) ⟨A7, c7, rfl, o7⟩ (hW.upd (by decide) (by decide) (by decide) (by decide) (by decide))
  · intro a w5 live hs hd E D' Hl hW
    obtain ⟨_, ⟨A7, c7, rfl, o7⟩, e13⟩ := D' 13 _ rfl
    replace e13 := e13 13 rfl
    rw [Rgs.act_ws a _ _ hs hd E [26, 27, 28, 29, 30, 31, 32, 33, 34, 35, 36, 37, 38, 13] (by kernel_rfl)]
    simp only [List.foldl, List.setIfInBounds_toArray, List.set_cons_succ, List.set_cons_zero, e13]
    have HB5 := Lib.hid hW.below
    have HO7 := Lib.hid o7
    clear E D' Hl hW e13 o7
    generalize a.eval = ρ
    clear a hs hd
    have hr7 : RdR w5 w5.heap.size A7 (P1.length + P2.length) (P1 ++ P2) := ⟨by rw [List.length_append], HO7.out.rd⟩
    have hc7 := HO7.out.cap
    have hT := rtidy_any A7 (P1.length + P2.length) c7 (P1 ++ P2) w5 hr7 hc7 (by omega) (by omega)
    rw [HPP.out] at hT
    have HT := Lib.hid hT
    clear hT hr7 HO7 HP1 HP2 HSF HST
    go_wp2_with fail
    refine HT.out.mono ?_
    rintro e w6 ⟨A8, c8, rfl, hr8, hc8, hb8, _⟩
    have k6 := HB5.out.trans (hb8.mono HB5.out.size)
    clear hb8 HT
    go_wp2_with fail
    refine (HPL.out w6 k6).mono ?_
    rintro e w7 ⟨A9, c9, rfl, hr9, hc9, hb9, _⟩
    have k7 := k6.trans (hb9.mono k6.size)
    have hs9 := xsame_any A8 A9 PL.length PL.length c8 c9 PL PL w7 (hr8.on hb9) hr9 (by omega)
    rw [(sameR_iff PL PL).2 rfl] at hs9
    have HS9 := Lib.hid hs9
    clear hs9 hr8 hb9 hr9 k6
    go_wp2_with fail
    refine HS9.out.mono ?_
    rintro e w8 ⟨rfl, qn, rfl⟩
    have k8 := Below.drewN k7 qn
    generalize w7.drewN qn = w8 at k8 ⊢
    clear HS9 k7
    go_wp2_with fail
    refine (HPL.out w8 k8).mono ?_
    rintro e w9 ⟨A10, c10, rfl, hr10, hc10, hb10, _⟩
    have k9 := k8.trans (hb10.mono k8.size)
    have ht9 := xticks_any A10 PL.length c10 PL p w9 hr10 hc10 (by omega) (by omega)
    rw [HTK.out] at ht9
    have HT9 := Lib.hid ht9
    clear ht9 hr10 hb10 k8
    go_wp2_with fail
    refine HT9.out.mono ?_
    rintro e w10 ⟨rfl, hb11⟩
    have k10 := k9.trans (hb11.mono k9.size)
    clear hb11 k9 HT9
    go_wp2_with fail
    refine (HTL.out w10 k10).mono ?_
    rintro e w11 ⟨rfl, hb12⟩
    have k11 := k10.trans (hb12.mono k10.size)
    clear hb12 k10
    have hself : ((tk : Int) == (tk : Int)) = true := beq_self_eq_true _
    go_wp2_with fail
    refine (known8_any H w11).mono ?_
    rintro e w12 ⟨rfl, hb13⟩
    have k12 := k11.trans (hb13.mono k11.size)
    go_wp2_with fail
    go_ret
    exact Ans.mk rfl (HK3.out.trans (k12.mono HK3.out.size))
end Go.Proofs.Ytcdgofdnafbacaa.wordParts
