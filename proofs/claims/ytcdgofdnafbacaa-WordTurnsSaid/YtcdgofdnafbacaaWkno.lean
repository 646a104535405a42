/- Law 8's known, over what package word is to answer. -/
import Derived.Test.YtcdgofdnafbacaaWsam
import Derived.Test.YtcdgofdnafbacaaRegs
import Derived.Test.YtcdgofdnafbacaaOwnb
namespace Go.Proofs.Ytcdgofdnafbacaa
open Go.RowKit Tab
set_option linter.unusedSimpArgs false
set_option linter.unusedVariables false

def MtW (n : Nat) (m : Nat → Nat → Bool) (v : Value) (w : World) : Prop := ∃ A c, v = .slice A n c ∧ n ≤ c ∧ RdM w w.heap.size A n (fun _ => n) m
theorem MtW.on {n : Nat} {m : Nat → Nat → Bool} {v : Value} {w w' : World} (h : MtW n m v w) (hb : Below w.heap.size w w') : MtW n m v w' := by
  obtain ⟨A, c, h1, h2, h3⟩ := h
  exact ⟨A, c, h1, h2, h3.on hb⟩
def BoxW (v : Value) (w : World) : Prop := ∃ g, v = .slice (some ⟨g, 0, none⟩) 2 2 ∧ Vec w g 2 fun _ => .bool true
theorem BoxW.on {v : Value} {w w' : World} (h : BoxW v w) (hb : Below w.heap.size w w') : BoxW v w' := by
  obtain ⟨g, h1, h2⟩ := h
  exact ⟨g, h1, h2.on hb⟩
def RowL (n : Nat) (v : Value) : Prop := ∃ A c, v = .slice A n c
/-- It answers a row of so many. -/
def RowN (n : Nat) (w : World) (e : Ending) (w' : World) : Prop := ∃ A c, e = .returned (.slice A n c) ∧ Below w.heap.size w w'
theorem RowW.n {L : List Rn} {n : Nat} {w w' : World} {e : Ending} (hn : L.length = n) (h : RowW L w e w') : RowN n w e w' := by
  obtain ⟨A, c, h1, _, _, h4⟩ := h
  exact ⟨A, c, by rw [← hn]; exact h1, h4⟩
theorem two_vec (w : World) (t : TypeId) : Vec (w.alloc (.cells #[.bool true, .bool true] t)) w.heap.size 2 fun _ => .bool true := Vec.lit w _ _ 2 _ fun j hj => by
  rcases (by omega : j = 0 ∨ j = 1) with h | h <;> subst h <;> rfl
theorem two_mat (w : World) (t : TypeId) {x y : Nat} (hx : Vec w x 2 fun _ => .bool true) (hy : Vec w y 2 fun _ => .bool true) : MtW 2 (fun _ _ => true) (.slice (some ⟨w.heap.size, 0, none⟩) 2 2) (w.alloc (.cells #[.slice (some ⟨x, 0, none⟩) 2 2, .slice (some ⟨y, 0, none⟩) 2 2] t)) := by
  refine ⟨_, _, rfl, Nat.le_refl _, fun i => (some ⟨if i = 0 then x else y, 0, none⟩, 2), Vec.rdc (Vec.lit w _ _ 2 _ fun j hj => ?_), fun i hi => ⟨Nat.le_refl _, ?_⟩⟩
  · rcases (by omega : j = 0 ∨ j = 1) with h | h <;> subst h <;> rfl
  · rcases (by omega : i = 0 ∨ i = 1) with h | h <;> subst h
    · exact (hx.on (bl1 w _)).rdc
    · exact (hy.on (bl1 w _)).rdc
def L8 : List Rn := [⟨0, 1⟩, ⟨1, 2⟩, ⟨-1, 3⟩]
def X8 : List Rn := [⟨1, 2⟩, ⟨0, 1⟩, ⟨-1, 3⟩]
theorem k8_1 : swZ L8 0 = X8 := by kernel_rfl
theorem k8_2 : diffF (depW 0 fun _ _ => false) L8 L8 = (-1, -1, false) := by kernel_rfl
theorem k8_3 : (diffF (depW 0 fun _ _ => false) L8 X8).2.2 = false := by kernel_rfl
theorem k8_4 : (diffF (depW 2 fun _ _ => true) L8 X8).2.2 = true := by kernel_rfl
theorem k8_5 : (proj 0 1 L8).length = 2 := by kernel_rfl
theorem k8_6 : swZ L8 5 = L8 := by kernel_rfl
def KnoV (g1 : Nat) (c2 : Nat) (aX : Addr) (j : Nat) (v : Value) (w : World) : Prop :=
  match j with
  | 0 => v = .slice (some ⟨g1, 0, none⟩) 3 3
  | 1 => v = .slice (some ⟨g1, 0, none⟩) 3 3
  | 2 => v = .bool true
  | 3 => v = .bool true
  | 4 => v = .slice (some ⟨g1, 0, none⟩) 3 3
  | 5 => v = .slice (some aX) 3 c2
  | 6 => v = .bool true
  | 7 => v = .bool true
  | 8 => v = .bool true
  | 9 => v = .slice (some ⟨g1, 0, none⟩) 3 3
  | 10 => v = .slice (some aX) 3 c2
  | 11 => BoxW v w
  | 12 => BoxW v w
  | 13 => MtW 2 (fun _ _ => true) v w
  | 14 => v = .bool false
  | 15 => v = .bool true
  | 16 => v = .bool true
  | 17 => v = .bool true
  | 18 => v = .int .i64 (-1)
  | 19 => v = .bool true
  | 20 => v = .bool true
  | 21 => v = .bool true
  | 22 => v = .int .i64 (-1)
  | 23 => v = .bool true
  | 24 => v = .bool true
  | 25 => v = .bool true
  | 26 => v = .bool false
  | 27 => v = .bool true
  | 28 => v = .bool true
  | 29 => v = .bool true
  | 30 => v = .slice (some ⟨g1, 0, none⟩) 3 3
  | 31 => RowL 2 v
  | 32 => v = .int .i64 2
  | 33 => v = .bool true
  | 34 => v = .bool true
  | 35 => v = .bool true
  | 36 => v = .slice (some aX) 3 c2
  | 37 => v = .int .i64 3
  | 38 => v = .bool true
  | 39 => v = .bool true
  | 40 => v = .bool true
  | 41 => v = .slice (some aX) 3 c2
  | 42 => v = .pointer (some aX)
  | 43 => v = .agg #[.int .i64 1, .int .i64 2]
  | 44 => v = .slice (some ⟨g1, 0, none⟩) 3 3
  | 45 => v = .pointer (some ⟨g1, 2, none⟩)
  | 46 => v = .agg #[.int .i64 1, .int .i64 2]
  | 47 => v = .bool true
  | 48 => v = .bool true
  | 49 => v = .bool true
  | 50 => v = .slice (some ⟨g1, 0, none⟩) 3 3
  | 51 => RowL 3 v
  | 52 => v = .int .i64 3
  | 53 => v = .bool true
  | 54 => v = .bool true
  | 55 => v = .bool true
  | _ => True
theorem KnoV.on {g1 : Nat} {c2 : Nat} {aX : Addr} {w w' : World} (hb : Below w.heap.size w w') (j : Nat) (v : Value) (h : KnoV g1 c2 aX j v w) : KnoV g1 c2 aX j v w' := by
  unfold KnoV at h ⊢
  split at h <;> first | exact h | exact MtW.on h hb | exact BoxW.on h hb
set_option maxRecDepth 100000 in
set_option maxHeartbeats 4000000 in
theorem known8_any (H : WordW) (w : World) : Calls Try.prog 15 #[] w (Ans (.bool true) w) := by
  have hb0 := bl1 w (.cells #[.int .i64 0, .int .i64 1, .int .i64 1, .int .i64 2, .int .i64 (-1), .int .i64 3] 31)
  have hrl : RdR (w.alloc (.cells #[.int .i64 0, .int .i64 1, .int .i64 1, .int .i64 2, .int .i64 (-1), .int .i64 3] 31)) (w.alloc (.cells #[.int .i64 0, .int .i64 1, .int .i64 1, .int .i64 2, .int .i64 (-1), .int .i64 3] 31)).heap.size (some ⟨w.heap.size, 0, none⟩) 3 L8 := ⟨rfl, rdV_new w _ _ _ rfl⟩
  have HB0 := Lib.hid hb0
  have HRL := Lib.hid hrl
  clear hb0 hrl
  go_enter Try.func15, Try.ntmps15
  go_wp2_with fail
  obtain ⟨g1, hg1⟩ : ∃ g1, g1 = w.heap.size := ⟨_, rfl⟩
  rw [← hg1] at HRL ⊢
  clear hg1
  generalize w.alloc (.cells #[.int .i64 0, .int .i64 1, .int .i64 1, .int .i64 2, .int .i64 (-1), .int .i64 3] 31) = W0 at HB0 HRL ⊢
  have htk : ticks L8 ≤ 1099511627776 := by decide
  have htx : ticks X8 ≤ 1099511627776 := by decide
  have hsw := H.swap (some ⟨g1, 0, none⟩) 3 3 L8 0 W0 HRL.out (by omega) (by omega) (by omega) (by omega)
  rw [k8_1] at hsw
  refine hsw.mono ?_
  clear hsw
  intro e w1 he
  obtain ⟨A2, c2, rfl, hrx, hcx, hb1⟩ := he
  rw [show X8.length = 3 from rfl] at hrx hcx ⊢
  have HB1 := Lib.hid hb1
  have HRX := Lib.hid hrx
  have HCX := Lib.hid hcx
  clear hb1 hrx hcx
  have HDI := Lib.hid (H.differ (some ⟨g1, 0, none⟩) (some ⟨g1, 0, none⟩) none 3 3 0 3 3 0 L8 L8 (fun _ _ => false) w1 (HRL.out.on HB1.out) (HRL.out.on HB1.out) (RdM.none _ _ _ _) (by omega) (by omega) (by omega) (by omega) (by omega) htk htk)
  rw [k8_2] at HDI
  go_wp2_with fail
  refine HDI.out.mono ?_
  rintro e w2 ⟨rfl, hb2⟩
  have HB2 := Lib.hid hb2
  have HRL2 := Lib.hid ((HRL.out.on HB1.out).on hb2)
  have HRX2 := Lib.hid (HRX.out.on hb2)
  clear hb2 HDI
  go_wp2_with fail
  have hz : w2.heap.size = w2.drew.heap.size := rfl
  have hd2 : Below w2.heap.size w2 w2.drew := (Below.refl _ _).drew
  have HS1 := Lib.hid fun w' (hb : Below w2.heap.size w2 w') => H.same (some ⟨g1, 0, none⟩) (some ⟨g1, 0, none⟩) none 3 3 0 3 3 0 L8 L8 (fun _ _ => false) w' (HRL2.out.on hb) (HRL2.out.on hb) (RdM.none _ _ _ _) (by omega) (by omega) (by omega) (by omega) (by omega) htk htk
  rw [k8_2] at HS1
  have HS2 := Lib.hid fun w' (hb : Below w2.heap.size w2 w') => H.same (some ⟨g1, 0, none⟩) A2 none 3 3 0 3 c2 0 L8 X8 (fun _ _ => false) w' (HRL2.out.on hb) (HRX2.out.on hb) (RdM.none _ _ _ _) (by omega) HCX.out (by omega) (by omega) (by omega) htk htx
  rw [k8_3] at HS2
  have HS3 := Lib.hid fun w' (hb : Below w2.heap.size w2 w') X y (hm : RdM w' w'.heap.size X 2 (fun _ => 2) (fun _ _ => true)) => H.same (some ⟨g1, 0, none⟩) A2 X 3 3 2 3 c2 y L8 X8 (fun _ _ => true) w' (HRL2.out.on hb) (HRX2.out.on hb) hm (by omega) HCX.out (by omega) (by omega) (by omega) htk htx
  rw [k8_4] at HS3
  have HP := Lib.hid fun w' (hb : Below w2.heap.size w2 w') => (H.project (some ⟨g1, 0, none⟩) 3 3 L8 0 1 w' (HRL2.out.on hb) (by omega) (by omega) htk).mono fun _ _ h => RowW.n k8_5 h
  have HW := Lib.hid fun w' (hb : Below w2.heap.size w2 w') => (H.swap (some ⟨g1, 0, none⟩) 3 3 L8 5 w' (HRL2.out.on hb) (by omega) (by omega) (by omega) (by omega)).mono fun _ _ h => RowW.n (n := 3) (by rw [k8_6]; rfl) h
  obtain ⟨aX, _, hA2, _, _, _, _⟩ := HRX2.out.at_ (i := 0) (by omega)
  subst hA2
  have ha0 : aX.add 0 = aX := by simp [Addr.add]
  have HX : Hid (∀ w', Below w2.heap.size w2 w' → aX.add 0 = aX ∧ w'.cell? aX = some (.int .i64 1) ∧ w'.cell? ⟨aX.block, aX.off + 1, none⟩ = some (.int .i64 2)) := Lib.hid fun w' hb => by
    obtain ⟨ad, r, e, _, hr, c0, c1⟩ := (HRX2.out.on hb).at_ (i := 0) (by omega)
    injection e with e
    subst e
    have er : r = ⟨1, 2⟩ := by
      have : X8[0]? = some (⟨1, 2⟩ : Rn) := rfl
      rw [this] at hr
      injection hr with hr
      exact hr.symm
    subst er
    rw [Nat.zero_mul, ha0] at c0 c1
    exact ⟨ha0, c0, c1⟩
  have HL : Hid (∀ w', Below w2.heap.size w2 w' → w'.cell? ⟨g1, 2, none⟩ = some (.int .i64 1) ∧ w'.cell? ⟨g1, 3, none⟩ = some (.int .i64 2)) := Lib.hid fun w' hb => by
    obtain ⟨ad, r, e, _, hr, c0, c1⟩ := (HRL2.out.on hb).at_ (i := 1) (by omega)
    injection e with e
    subst e
    have er : r = ⟨1, 2⟩ := by
      have : L8[1]? = some (⟨1, 2⟩ : Rn) := rfl
      rw [this] at hr
      injection hr with hr
      exact hr.symm
    subst er
    rw [mk_add g1 (1 * 2)] at c0 c1
    exact ⟨c0, c1⟩
  refine Rgs.region (by kernel_rfl) (by kernel_rfl) (KnoV g1 c2 aX) (fun _ _ w' => Below w2.heap.size w2 w') hd2 (Rgs.steps_of ?_) ?_
  · refine ⟨?_, ?_, ?_, ?_, ?_, ?_, ?_, ?_, ?_, ?_, ?_, ?_, ?_, ?_, ?_, ?_, ?_, ?_, ?_, ?_, ?_, ?_, ?_, ?_, ?_, ?_, ?_, ?_, ?_, ?_, ?_, ?_, ?_, ?_, ?_, ?_, ?_, ?_, ?_, ?_, ?_, ?_, ?_, ?_, ?_, ?_, ?_, ?_, ?_, ?_, ?_, ?_, ?_, ?_, ?_, ?_, trivial⟩
    · intro a' w1 live Sz E Dv Cl h0 hk hW
      have e1 : a'.eval (.tmp 1) = .slice (some ⟨g1, 0, none⟩) 3 3 := E 1 rfl
      exact Rgs.val rfl (Reg.wanted_free rfl) (.slice (some ⟨g1, 0, none⟩) 3 3) (by have c := Reg.consts a'; generalize a'.eval = ρ at *; simp [execOp, go_sem, c.1, c.2, e1]) rfl hW
    · intro a' w1 live Sz E Dv Cl h0 hk hW
      have e1 : a'.eval (.tmp 1) = .slice (some ⟨g1, 0, none⟩) 3 3 := E 1 rfl
      exact Rgs.val rfl (Reg.wanted_free rfl) (.slice (some ⟨g1, 0, none⟩) 3 3) (by have c := Reg.consts a'; generalize a'.eval = ρ at *; simp [execOp, go_sem, c.1, c.2, e1]) rfl hW
    · intro a' w1 live Sz E Dv Cl h0 hk hW
      have d0 : a'.eval (.tmp 19) = .slice (some ⟨g1, 0, none⟩) 3 3 := Dv 0 rfl _ _ rfl rfl
      have d1 : a'.eval (.tmp 20) = .slice (some ⟨g1, 0, none⟩) 3 3 := Dv 1 rfl _ _ rfl rfl
      refine Rgs.call rfl (Reg.wanted_free rfl) 19 #[.slice (some ⟨g1, 0, none⟩) 3 3, .slice (some ⟨g1, 0, none⟩) 3 3, .slice none 0 0] (by have c := Reg.consts a'; generalize a'.eval = ρ at *; simp [execOp, go_sem, c.1, c.2, d0, d1]) ?_
      have hth := HS1.out w1 hW
      refine hth.mono ?_
      rintro e w5 ⟨rfl, hb5⟩
      exact ⟨_, rfl, rfl, hW.trans (hb5.mono hW.size), fun j v _ h => KnoV.on hb5 j v h⟩
    · intro a' w1 live Sz E Dv Cl h0 hk hW
      have d2 : a'.eval (.tmp 21) = .bool true := Dv 2 rfl _ _ rfl rfl
      exact Rgs.val rfl (Reg.wanted_free rfl) (.bool true) (by have c := Reg.consts a'; generalize a'.eval = ρ at *; simp [execOp, go_sem, c.1, c.2, d2]) rfl hW
    · intro a' w1 live Sz E Dv Cl h0 hk hW
      have dg : a'.eval (.tmp 22) = .bool true := Dv 3 rfl _ _ rfl rfl
      have e1 : a'.eval (.tmp 1) = .slice (some ⟨g1, 0, none⟩) 3 3 := E 1 rfl
      exact Rgs.val rfl (Reg.wanted_if rfl rfl dg rfl) (.slice (some ⟨g1, 0, none⟩) 3 3) (by have c := Reg.consts a'; generalize a'.eval = ρ at *; simp [execOp, go_sem, c.1, c.2, e1]) rfl hW
    · intro a' w1 live Sz E Dv Cl h0 hk hW
      have dg : a'.eval (.tmp 22) = .bool true := Dv 3 rfl _ _ rfl rfl
      have e2 : a'.eval (.tmp 2) = .slice (some aX) 3 c2 := E 2 rfl
      exact Rgs.val rfl (Reg.wanted_if rfl rfl dg rfl) (.slice (some aX) 3 c2) (by have c := Reg.consts a'; generalize a'.eval = ρ at *; simp [execOp, go_sem, c.1, c.2, e2]) rfl hW
    · intro a' w1 live Sz E Dv Cl h0 hk hW
      have dg : a'.eval (.tmp 22) = .bool true := Dv 3 rfl _ _ rfl rfl
      have d4 : a'.eval (.tmp 23) = .slice (some ⟨g1, 0, none⟩) 3 3 := Dv 4 rfl _ _ rfl rfl
      have d5 : a'.eval (.tmp 24) = .slice (some aX) 3 c2 := Dv 5 rfl _ _ rfl rfl
      refine Rgs.call rfl (Reg.wanted_if rfl rfl dg rfl) 19 #[.slice (some ⟨g1, 0, none⟩) 3 3, .slice (some aX) 3 c2, .slice none 0 0] (by have c := Reg.consts a'; generalize a'.eval = ρ at *; simp [execOp, go_sem, c.1, c.2, d4, d5]) ?_
      have hth := HS2.out w1 hW
      refine hth.mono ?_
      rintro e w5 ⟨rfl, hb5⟩
      exact ⟨_, rfl, rfl, hW.trans (hb5.mono hW.size), fun j v _ h => KnoV.on hb5 j v h⟩
    · intro a' w1 live Sz E Dv Cl h0 hk hW
      have d3 : a'.eval (.tmp 22) = .bool true := Dv 3 rfl _ _ rfl rfl
      have d6 : a'.eval (.tmp 25) = .bool true := Dv 6 rfl _ _ rfl rfl
      exact Rgs.val rfl (Reg.wanted_free rfl) (.bool true) (by have c := Reg.consts a'; generalize a'.eval = ρ at *; simp [execOp, go_sem, c.1, c.2, d3, d6]) rfl hW
    · intro a' w1 live Sz E Dv Cl h0 hk hW
      have d7 : a'.eval (.tmp 26) = .bool true := Dv 7 rfl _ _ rfl rfl
      exact Rgs.val rfl (Reg.wanted_free rfl) (.bool true) (by have c := Reg.consts a'; generalize a'.eval = ρ at *; simp [execOp, go_sem, c.1, c.2, d7]) rfl hW
    · intro a' w1 live Sz E Dv Cl h0 hk hW
      have dg : a'.eval (.tmp 27) = .bool true := Dv 8 rfl _ _ rfl rfl
      have e1 : a'.eval (.tmp 1) = .slice (some ⟨g1, 0, none⟩) 3 3 := E 1 rfl
      exact Rgs.val rfl (Reg.wanted_if rfl rfl dg rfl) (.slice (some ⟨g1, 0, none⟩) 3 3) (by have c := Reg.consts a'; generalize a'.eval = ρ at *; simp [execOp, go_sem, c.1, c.2, e1]) rfl hW
    · intro a' w1 live Sz E Dv Cl h0 hk hW
      have dg : a'.eval (.tmp 27) = .bool true := Dv 8 rfl _ _ rfl rfl
      have e2 : a'.eval (.tmp 2) = .slice (some aX) 3 c2 := E 2 rfl
      exact Rgs.val rfl (Reg.wanted_if rfl rfl dg rfl) (.slice (some aX) 3 c2) (by have c := Reg.consts a'; generalize a'.eval = ρ at *; simp [execOp, go_sem, c.1, c.2, e2]) rfl hW
    · intro a' w1 live Sz E Dv Cl h0 hk hW
      have dg : a'.eval (.tmp 27) = .bool true := Dv 8 rfl _ _ rfl rfl
      exact Rgs.grow rfl (Reg.wanted_if rfl rfl dg rfl) (.slice (some ⟨w1.heap.size, 0, none⟩) 2 2) (w1.alloc (.cells #[.bool true, .bool true] 4)) (by have c := Reg.consts a'; generalize a'.eval = ρ at *; simp [execOp, go_sem, c.1, c.2, go_sem]) ⟨_, rfl, two_vec w1 _⟩ (hW.trans ((bl1 w1 _).mono hW.size)) (fun j v _ h => KnoV.on (bl1 w1 _) j v h)
    · intro a' w1 live Sz E Dv Cl h0 hk hW
      have dg : a'.eval (.tmp 27) = .bool true := Dv 8 rfl _ _ rfl rfl
      exact Rgs.grow rfl (Reg.wanted_if rfl rfl dg rfl) (.slice (some ⟨w1.heap.size, 0, none⟩) 2 2) (w1.alloc (.cells #[.bool true, .bool true] 4)) (by have c := Reg.consts a'; generalize a'.eval = ρ at *; simp [execOp, go_sem, c.1, c.2, go_sem]) ⟨_, rfl, two_vec w1 _⟩ (hW.trans ((bl1 w1 _).mono hW.size)) (fun j v _ h => KnoV.on (bl1 w1 _) j v h)
    · intro a' w1 live Sz E Dv Cl h0 hk hW
      have dg : a'.eval (.tmp 27) = .bool true := Dv 8 rfl _ _ rfl rfl
      obtain ⟨x11, d11, hv11⟩ : BoxW (a'.eval (.tmp 30)) w1 := Dv 11 rfl _ _ rfl rfl
      obtain ⟨x12, d12, hv12⟩ : BoxW (a'.eval (.tmp 31)) w1 := Dv 12 rfl _ _ rfl rfl
      exact Rgs.grow rfl (Reg.wanted_if rfl rfl dg rfl) (.slice (some ⟨w1.heap.size, 0, none⟩) 2 2) (w1.alloc (.cells #[.slice (some ⟨x11, 0, none⟩) 2 2, .slice (some ⟨x12, 0, none⟩) 2 2] 42)) (by have c := Reg.consts a'; generalize a'.eval = ρ at *; simp [execOp, go_sem, c.1, c.2, d11, d12]) (two_mat w1 _ hv11 hv12) (hW.trans ((bl1 w1 _).mono hW.size)) (fun j v _ h => KnoV.on (bl1 w1 _) j v h)
    · intro a' w1 live Sz E Dv Cl h0 hk hW
      have dg : a'.eval (.tmp 27) = .bool true := Dv 8 rfl _ _ rfl rfl
      have d9 : a'.eval (.tmp 28) = .slice (some ⟨g1, 0, none⟩) 3 3 := Dv 9 rfl _ _ rfl rfl
      have d10 : a'.eval (.tmp 29) = .slice (some aX) 3 c2 := Dv 10 rfl _ _ rfl rfl
      obtain ⟨X13, y13, d13, hc13, hr13⟩ : MtW 2 (fun _ _ => true) (a'.eval (.tmp 32)) w1 := Dv 13 rfl _ _ rfl rfl
      refine Rgs.call rfl (Reg.wanted_if rfl rfl dg rfl) 19 #[.slice (some ⟨g1, 0, none⟩) 3 3, .slice (some aX) 3 c2, .slice X13 2 y13] (by have c := Reg.consts a'; generalize a'.eval = ρ at *; simp [execOp, go_sem, c.1, c.2, d9, d10, d13]) ?_
      have hth := HS3.out w1 hW X13 y13 hr13
      refine hth.mono ?_
      rintro e w5 ⟨rfl, hb5⟩
      exact ⟨_, rfl, rfl, hW.trans (hb5.mono hW.size), fun j v _ h => KnoV.on hb5 j v h⟩
    · intro a' w1 live Sz E Dv Cl h0 hk hW
      have dg : a'.eval (.tmp 27) = .bool true := Dv 8 rfl _ _ rfl rfl
      have d14 : a'.eval (.tmp 33) = .bool false := Dv 14 rfl _ _ rfl rfl
      exact Rgs.val rfl (Reg.wanted_if rfl rfl dg rfl) (.bool true) (by have c := Reg.consts a'; generalize a'.eval = ρ at *; simp [execOp, go_sem, c.1, c.2, d14]) rfl hW
    · intro a' w1 live Sz E Dv Cl h0 hk hW
      have d8 : a'.eval (.tmp 27) = .bool true := Dv 8 rfl _ _ rfl rfl
      have d15 : a'.eval (.tmp 34) = .bool true := Dv 15 rfl _ _ rfl rfl
      exact Rgs.val rfl (Reg.wanted_free rfl) (.bool true) (by have c := Reg.consts a'; generalize a'.eval = ρ at *; simp [execOp, go_sem, c.1, c.2, d8, d15]) rfl hW
    · intro a' w1 live Sz E Dv Cl h0 hk hW
      have d16 : a'.eval (.tmp 35) = .bool true := Dv 16 rfl _ _ rfl rfl
      exact Rgs.val rfl (Reg.wanted_free rfl) (.bool true) (by have c := Reg.consts a'; generalize a'.eval = ρ at *; simp [execOp, go_sem, c.1, c.2, d16]) rfl hW
    · intro a' w1 live Sz E Dv Cl h0 hk hW
      have dg : a'.eval (.tmp 36) = .bool true := Dv 17 rfl _ _ rfl rfl
      have e3 : a'.eval (.tmp 3) = .int .i64 (-1) := E 3 rfl
      exact Rgs.val rfl (Reg.wanted_if rfl rfl dg rfl) (.int .i64 (-1)) (by have c := Reg.consts a'; generalize a'.eval = ρ at *; simp [execOp, go_sem, c.1, c.2, e3]) rfl hW
    · intro a' w1 live Sz E Dv Cl h0 hk hW
      have dg : a'.eval (.tmp 36) = .bool true := Dv 17 rfl _ _ rfl rfl
      have d18 : a'.eval (.tmp 37) = .int .i64 (-1) := Dv 18 rfl _ _ rfl rfl
      exact Rgs.val rfl (Reg.wanted_if rfl rfl dg rfl) (.bool true) (by have c := Reg.consts a'; generalize a'.eval = ρ at *; simp [execOp, go_sem, c.1, c.2, d18]) rfl hW
    · intro a' w1 live Sz E Dv Cl h0 hk hW
      have d17 : a'.eval (.tmp 36) = .bool true := Dv 17 rfl _ _ rfl rfl
      have d19 : a'.eval (.tmp 38) = .bool true := Dv 19 rfl _ _ rfl rfl
      exact Rgs.val rfl (Reg.wanted_free rfl) (.bool true) (by have c := Reg.consts a'; generalize a'.eval = ρ at *; simp [execOp, go_sem, c.1, c.2, d17, d19]) rfl hW
    · intro a' w1 live Sz E Dv Cl h0 hk hW
      have d20 : a'.eval (.tmp 39) = .bool true := Dv 20 rfl _ _ rfl rfl
      exact Rgs.val rfl (Reg.wanted_free rfl) (.bool true) (by have c := Reg.consts a'; generalize a'.eval = ρ at *; simp [execOp, go_sem, c.1, c.2, d20]) rfl hW
    · intro a' w1 live Sz E Dv Cl h0 hk hW
      have dg : a'.eval (.tmp 40) = .bool true := Dv 21 rfl _ _ rfl rfl
      have e4 : a'.eval (.tmp 4) = .int .i64 (-1) := E 4 rfl
      exact Rgs.val rfl (Reg.wanted_if rfl rfl dg rfl) (.int .i64 (-1)) (by have c := Reg.consts a'; generalize a'.eval = ρ at *; simp [execOp, go_sem, c.1, c.2, e4]) rfl hW
    · intro a' w1 live Sz E Dv Cl h0 hk hW
      have dg : a'.eval (.tmp 40) = .bool true := Dv 21 rfl _ _ rfl rfl
      have d22 : a'.eval (.tmp 41) = .int .i64 (-1) := Dv 22 rfl _ _ rfl rfl
      exact Rgs.val rfl (Reg.wanted_if rfl rfl dg rfl) (.bool true) (by have c := Reg.consts a'; generalize a'.eval = ρ at *; simp [execOp, go_sem, c.1, c.2, d22]) rfl hW
    · intro a' w1 live Sz E Dv Cl h0 hk hW
      have d21 : a'.eval (.tmp 40) = .bool true := Dv 21 rfl _ _ rfl rfl
      have d23 : a'.eval (.tmp 42) = .bool true := Dv 23 rfl _ _ rfl rfl
      exact Rgs.val rfl (Reg.wanted_free rfl) (.bool true) (by have c := Reg.consts a'; generalize a'.eval = ρ at *; simp [execOp, go_sem, c.1, c.2, d21, d23]) rfl hW
    · intro a' w1 live Sz E Dv Cl h0 hk hW
      have d24 : a'.eval (.tmp 43) = .bool true := Dv 24 rfl _ _ rfl rfl
      exact Rgs.val rfl (Reg.wanted_free rfl) (.bool true) (by have c := Reg.consts a'; generalize a'.eval = ρ at *; simp [execOp, go_sem, c.1, c.2, d24]) rfl hW
    · intro a' w1 live Sz E Dv Cl h0 hk hW
      have dg : a'.eval (.tmp 44) = .bool true := Dv 25 rfl _ _ rfl rfl
      have e5 : a'.eval (.tmp 5) = .bool false := E 5 rfl
      exact Rgs.val rfl (Reg.wanted_if rfl rfl dg rfl) (.bool false) (by have c := Reg.consts a'; generalize a'.eval = ρ at *; simp [execOp, go_sem, c.1, c.2, e5]) rfl hW
    · intro a' w1 live Sz E Dv Cl h0 hk hW
      have dg : a'.eval (.tmp 44) = .bool true := Dv 25 rfl _ _ rfl rfl
      have d26 : a'.eval (.tmp 45) = .bool false := Dv 26 rfl _ _ rfl rfl
      exact Rgs.val rfl (Reg.wanted_if rfl rfl dg rfl) (.bool true) (by have c := Reg.consts a'; generalize a'.eval = ρ at *; simp [execOp, go_sem, c.1, c.2, d26]) rfl hW
    · intro a' w1 live Sz E Dv Cl h0 hk hW
      have d25 : a'.eval (.tmp 44) = .bool true := Dv 25 rfl _ _ rfl rfl
      have d27 : a'.eval (.tmp 46) = .bool true := Dv 27 rfl _ _ rfl rfl
      exact Rgs.val rfl (Reg.wanted_free rfl) (.bool true) (by have c := Reg.consts a'; generalize a'.eval = ρ at *; simp [execOp, go_sem, c.1, c.2, d25, d27]) rfl hW
    · intro a' w1 live Sz E Dv Cl h0 hk hW
      have d28 : a'.eval (.tmp 47) = .bool true := Dv 28 rfl _ _ rfl rfl
      exact Rgs.val rfl (Reg.wanted_free rfl) (.bool true) (by have c := Reg.consts a'; generalize a'.eval = ρ at *; simp [execOp, go_sem, c.1, c.2, d28]) rfl hW
    · intro a' w1 live Sz E Dv Cl h0 hk hW
      have dg : a'.eval (.tmp 48) = .bool true := Dv 29 rfl _ _ rfl rfl
      have e1 : a'.eval (.tmp 1) = .slice (some ⟨g1, 0, none⟩) 3 3 := E 1 rfl
      exact Rgs.val rfl (Reg.wanted_if rfl rfl dg rfl) (.slice (some ⟨g1, 0, none⟩) 3 3) (by have c := Reg.consts a'; generalize a'.eval = ρ at *; simp [execOp, go_sem, c.1, c.2, e1]) rfl hW
    · intro a' w1 live Sz E Dv Cl h0 hk hW
      have dg : a'.eval (.tmp 48) = .bool true := Dv 29 rfl _ _ rfl rfl
      have d30 : a'.eval (.tmp 49) = .slice (some ⟨g1, 0, none⟩) 3 3 := Dv 30 rfl _ _ rfl rfl
      refine Rgs.call rfl (Reg.wanted_if rfl rfl dg rfl) 22 #[.slice (some ⟨g1, 0, none⟩) 3 3, .int .i64 0, .int .i64 1] (by have c := Reg.consts a'; generalize a'.eval = ρ at *; simp [execOp, go_sem, c.1, c.2, d30]) ?_
      have hth := HP.out w1 hW
      refine hth.mono ?_
      rintro e w5 ⟨A5, c5, rfl, hb5⟩
      exact ⟨_, rfl, ⟨A5, c5, rfl⟩, hW.trans (hb5.mono hW.size), fun j v _ h => KnoV.on hb5 j v h⟩
    · intro a' w1 live Sz E Dv Cl h0 hk hW
      have dg : a'.eval (.tmp 48) = .bool true := Dv 29 rfl _ _ rfl rfl
      obtain ⟨X31, y31, d31⟩ : RowL 2 (a'.eval (.tmp 50)) := Dv 31 rfl _ _ rfl rfl
      exact Rgs.val rfl (Reg.wanted_if rfl rfl dg rfl) (.int .i64 2) (by have c := Reg.consts a'; generalize a'.eval = ρ at *; simp [execOp, go_sem, c.1, c.2, d31]) rfl hW
    · intro a' w1 live Sz E Dv Cl h0 hk hW
      have dg : a'.eval (.tmp 48) = .bool true := Dv 29 rfl _ _ rfl rfl
      have d32 : a'.eval (.tmp 51) = .int .i64 2 := Dv 32 rfl _ _ rfl rfl
      exact Rgs.val rfl (Reg.wanted_if rfl rfl dg rfl) (.bool true) (by have c := Reg.consts a'; generalize a'.eval = ρ at *; simp [execOp, go_sem, c.1, c.2, d32]) rfl hW
    · intro a' w1 live Sz E Dv Cl h0 hk hW
      have d29 : a'.eval (.tmp 48) = .bool true := Dv 29 rfl _ _ rfl rfl
      have d33 : a'.eval (.tmp 52) = .bool true := Dv 33 rfl _ _ rfl rfl
      exact Rgs.val rfl (Reg.wanted_free rfl) (.bool true) (by have c := Reg.consts a'; generalize a'.eval = ρ at *; simp [execOp, go_sem, c.1, c.2, d29, d33]) rfl hW
    · intro a' w1 live Sz E Dv Cl h0 hk hW
      have d34 : a'.eval (.tmp 53) = .bool true := Dv 34 rfl _ _ rfl rfl
      exact Rgs.val rfl (Reg.wanted_free rfl) (.bool true) (by have c := Reg.consts a'; generalize a'.eval = ρ at *; simp [execOp, go_sem, c.1, c.2, d34]) rfl hW
    · intro a' w1 live Sz E Dv Cl h0 hk hW
      have dg : a'.eval (.tmp 54) = .bool true := Dv 35 rfl _ _ rfl rfl
      have e2 : a'.eval (.tmp 2) = .slice (some aX) 3 c2 := E 2 rfl
      exact Rgs.val rfl (Reg.wanted_if rfl rfl dg rfl) (.slice (some aX) 3 c2) (by have c := Reg.consts a'; generalize a'.eval = ρ at *; simp [execOp, go_sem, c.1, c.2, e2]) rfl hW
    · intro a' w1 live Sz E Dv Cl h0 hk hW
      have dg : a'.eval (.tmp 54) = .bool true := Dv 35 rfl _ _ rfl rfl
      have d36 : a'.eval (.tmp 55) = .slice (some aX) 3 c2 := Dv 36 rfl _ _ rfl rfl
      exact Rgs.val rfl (Reg.wanted_if rfl rfl dg rfl) (.int .i64 3) (by have c := Reg.consts a'; generalize a'.eval = ρ at *; simp [execOp, go_sem, c.1, c.2, d36]) rfl hW
    · intro a' w1 live Sz E Dv Cl h0 hk hW
      have dg : a'.eval (.tmp 54) = .bool true := Dv 35 rfl _ _ rfl rfl
      have d37 : a'.eval (.tmp 56) = .int .i64 3 := Dv 37 rfl _ _ rfl rfl
      exact Rgs.val rfl (Reg.wanted_if rfl rfl dg rfl) (.bool true) (by have c := Reg.consts a'; generalize a'.eval = ρ at *; simp [execOp, go_sem, c.1, c.2, d37]) rfl hW
    · intro a' w1 live Sz E Dv Cl h0 hk hW
      have d35 : a'.eval (.tmp 54) = .bool true := Dv 35 rfl _ _ rfl rfl
      have d38 : a'.eval (.tmp 57) = .bool true := Dv 38 rfl _ _ rfl rfl
      exact Rgs.val rfl (Reg.wanted_free rfl) (.bool true) (by have c := Reg.consts a'; generalize a'.eval = ρ at *; simp [execOp, go_sem, c.1, c.2, d35, d38]) rfl hW
    · intro a' w1 live Sz E Dv Cl h0 hk hW
      have d39 : a'.eval (.tmp 58) = .bool true := Dv 39 rfl _ _ rfl rfl
      exact Rgs.val rfl (Reg.wanted_free rfl) (.bool true) (by have c := Reg.consts a'; generalize a'.eval = ρ at *; simp [execOp, go_sem, c.1, c.2, d39]) rfl hW
    · intro a' w1 live Sz E Dv Cl h0 hk hW
      have dg : a'.eval (.tmp 59) = .bool true := Dv 40 rfl _ _ rfl rfl
      have e2 : a'.eval (.tmp 2) = .slice (some aX) 3 c2 := E 2 rfl
      exact Rgs.val rfl (Reg.wanted_if rfl rfl dg rfl) (.slice (some aX) 3 c2) (by have c := Reg.consts a'; generalize a'.eval = ρ at *; simp [execOp, go_sem, c.1, c.2, e2]) rfl hW
    · intro a' w1 live Sz E Dv Cl h0 hk hW
      have dg : a'.eval (.tmp 59) = .bool true := Dv 40 rfl _ _ rfl rfl
      have d41 : a'.eval (.tmp 60) = .slice (some aX) 3 c2 := Dv 41 rfl _ _ rfl rfl
      obtain ⟨hX0, _, _⟩ := HX.out w1 hW
      exact Rgs.val rfl (Reg.wanted_if rfl rfl dg rfl) (.pointer (some aX)) (by have c := Reg.consts a'; generalize a'.eval = ρ at *; simp [execOp, go_sem, c.1, c.2, d41, hX0]) rfl hW
    · intro a' w1 live Sz E Dv Cl h0 hk hW
      have dg : a'.eval (.tmp 59) = .bool true := Dv 40 rfl _ _ rfl rfl
      have d42 : a'.eval (.tmp 61) = .pointer (some aX) := Dv 42 rfl _ _ rfl rfl
      obtain ⟨_, hX1, hX2⟩ := HX.out w1 hW
      exact Rgs.val rfl (Reg.wanted_if rfl rfl dg rfl) (.agg #[.int .i64 1, .int .i64 2]) (by have c := Reg.consts a'; generalize a'.eval = ρ at *; simp [execOp, go_sem, c.1, c.2, d42, hX1, hX2]) rfl hW
    · intro a' w1 live Sz E Dv Cl h0 hk hW
      have dg : a'.eval (.tmp 59) = .bool true := Dv 40 rfl _ _ rfl rfl
      have e1 : a'.eval (.tmp 1) = .slice (some ⟨g1, 0, none⟩) 3 3 := E 1 rfl
      exact Rgs.val rfl (Reg.wanted_if rfl rfl dg rfl) (.slice (some ⟨g1, 0, none⟩) 3 3) (by have c := Reg.consts a'; generalize a'.eval = ρ at *; simp [execOp, go_sem, c.1, c.2, e1]) rfl hW
    · intro a' w1 live Sz E Dv Cl h0 hk hW
      have dg : a'.eval (.tmp 59) = .bool true := Dv 40 rfl _ _ rfl rfl
      have d44 : a'.eval (.tmp 63) = .slice (some ⟨g1, 0, none⟩) 3 3 := Dv 44 rfl _ _ rfl rfl
      have ead := mk_add g1 2
      exact Rgs.val rfl (Reg.wanted_if rfl rfl dg rfl) (.pointer (some ⟨g1, 2, none⟩)) (by have c := Reg.consts a'; generalize a'.eval = ρ at *; simp [execOp, go_sem, c.1, c.2, d44, ead]) rfl hW
    · intro a' w1 live Sz E Dv Cl h0 hk hW
      have dg : a'.eval (.tmp 59) = .bool true := Dv 40 rfl _ _ rfl rfl
      have d45 : a'.eval (.tmp 64) = .pointer (some ⟨g1, 2, none⟩) := Dv 45 rfl _ _ rfl rfl
      obtain ⟨hL1, hL2⟩ := HL.out w1 hW
      exact Rgs.val rfl (Reg.wanted_if rfl rfl dg rfl) (.agg #[.int .i64 1, .int .i64 2]) (by have c := Reg.consts a'; generalize a'.eval = ρ at *; simp [execOp, go_sem, c.1, c.2, d45, hL1, hL2]) rfl hW
    · intro a' w1 live Sz E Dv Cl h0 hk hW
      have dg : a'.eval (.tmp 59) = .bool true := Dv 40 rfl _ _ rfl rfl
      have d43 : a'.eval (.tmp 62) = .agg #[.int .i64 1, .int .i64 2] := Dv 43 rfl _ _ rfl rfl
      have d46 : a'.eval (.tmp 65) = .agg #[.int .i64 1, .int .i64 2] := Dv 46 rfl _ _ rfl rfl
      exact Rgs.val rfl (Reg.wanted_if rfl rfl dg rfl) (.bool true) (by have c := Reg.consts a'; generalize a'.eval = ρ at *; simp [execOp, go_sem, c.1, c.2, d43, d46]) rfl hW
    · intro a' w1 live Sz E Dv Cl h0 hk hW
      have d40 : a'.eval (.tmp 59) = .bool true := Dv 40 rfl _ _ rfl rfl
      have d47 : a'.eval (.tmp 66) = .bool true := Dv 47 rfl _ _ rfl rfl
      exact Rgs.val rfl (Reg.wanted_free rfl) (.bool true) (by have c := Reg.consts a'; generalize a'.eval = ρ at *; simp [execOp, go_sem, c.1, c.2, d40, d47]) rfl hW
    · intro a' w1 live Sz E Dv Cl h0 hk hW
      have d48 : a'.eval (.tmp 67) = .bool true := Dv 48 rfl _ _ rfl rfl
      exact Rgs.val rfl (Reg.wanted_free rfl) (.bool true) (by have c := Reg.consts a'; generalize a'.eval = ρ at *; simp [execOp, go_sem, c.1, c.2, d48]) rfl hW
    · intro a' w1 live Sz E Dv Cl h0 hk hW
      have dg : a'.eval (.tmp 68) = .bool true := Dv 49 rfl _ _ rfl rfl
      have e1 : a'.eval (.tmp 1) = .slice (some ⟨g1, 0, none⟩) 3 3 := E 1 rfl
      exact Rgs.val rfl (Reg.wanted_if rfl rfl dg rfl) (.slice (some ⟨g1, 0, none⟩) 3 3) (by have c := Reg.consts a'; generalize a'.eval = ρ at *; simp [execOp, go_sem, c.1, c.2, e1]) rfl hW
    · intro a' w1 live Sz E Dv Cl h0 hk hW
      have dg : a'.eval (.tmp 68) = .bool true := Dv 49 rfl _ _ rfl rfl
      have d50 : a'.eval (.tmp 69) = .slice (some ⟨g1, 0, none⟩) 3 3 := Dv 50 rfl _ _ rfl rfl
      refine Rgs.call rfl (Reg.wanted_if rfl rfl dg rfl) 11 #[.slice (some ⟨g1, 0, none⟩) 3 3, .int .i64 5] (by have c := Reg.consts a'; generalize a'.eval = ρ at *; simp [execOp, go_sem, c.1, c.2, d50]) ?_
      have hth := HW.out w1 hW
      refine hth.mono ?_
      rintro e w5 ⟨A5, c5, rfl, hb5⟩
      exact ⟨_, rfl, ⟨A5, c5, rfl⟩, hW.trans (hb5.mono hW.size), fun j v _ h => KnoV.on hb5 j v h⟩
    · intro a' w1 live Sz E Dv Cl h0 hk hW
      have dg : a'.eval (.tmp 68) = .bool true := Dv 49 rfl _ _ rfl rfl
      obtain ⟨X51, y51, d51⟩ : RowL 3 (a'.eval (.tmp 70)) := Dv 51 rfl _ _ rfl rfl
      exact Rgs.val rfl (Reg.wanted_if rfl rfl dg rfl) (.int .i64 3) (by have c := Reg.consts a'; generalize a'.eval = ρ at *; simp [execOp, go_sem, c.1, c.2, d51]) rfl hW
    · intro a' w1 live Sz E Dv Cl h0 hk hW
      have dg : a'.eval (.tmp 68) = .bool true := Dv 49 rfl _ _ rfl rfl
      have d52 : a'.eval (.tmp 71) = .int .i64 3 := Dv 52 rfl _ _ rfl rfl
      exact Rgs.val rfl (Reg.wanted_if rfl rfl dg rfl) (.bool true) (by have c := Reg.consts a'; generalize a'.eval = ρ at *; simp [execOp, go_sem, c.1, c.2, d52]) rfl hW
    · intro a' w1 live Sz E Dv Cl h0 hk hW
      have d49 : a'.eval (.tmp 68) = .bool true := Dv 49 rfl _ _ rfl rfl
      have d53 : a'.eval (.tmp 72) = .bool true := Dv 53 rfl _ _ rfl rfl
      exact Rgs.val rfl (Reg.wanted_free rfl) (.bool true) (by have c := Reg.consts a'; generalize a'.eval = ρ at *; simp [execOp, go_sem, c.1, c.2, d49, d53]) rfl hW
    · intro a' w1 live Sz E Dv Cl h0 hk hW
      have d54 : a'.eval (.tmp 73) = .bool true := Dv 54 rfl _ _ rfl rfl
      exact Rgs.val rfl (Reg.wanted_free rfl) (.bool true) (by have c := Reg.consts a'; generalize a'.eval = ρ at *; simp [execOp, go_sem, c.1, c.2, d54]) rfl hW
  · intro a' w3 live hs hd E Dv Hl hW
    have e0 : a'.eval (.tmp 0) = .bool true := by
      obtain ⟨v, hv, he⟩ := Dv 55 _ rfl
      exact (he 0 rfl).trans hv
    rw [Reg.act_lit a' 74 hs, hd]
    simp only [List.range, List.range.loop, List.map, e0]
    have hb3 := HB0.out.trans (HB1.out.mono HB0.out.size)
    have hb4 := hb3.trans (HB2.out.mono hb3.size)
    have HB3 := Lib.hid (hb4.trans (Below.mono hW hb4.size))
    clear E Dv Hl hW e0 hb3 hb4
    generalize a'.eval = ρ
    clear a' hs hd
    go_wp2_with fail
    go_ret
    exact Ans.mk rfl HB3.out
end Go.Proofs.Ytcdgofdnafbacaa
