/- Rows of bools, matrices held against each other. -/
import Derived.Test.YtknlhhbkahollaaLow2
import Derived.Test.YtknlhhbkahollaaSamb
namespace Go.Proofs.Ytknlhhbkahollaa
open Go.RowKit Tab
set_option linter.unusedSimpArgs false
set_option linter.unusedVariables false

def alB (n : Nat) (f g : Nat → Bool) : Bool := (List.range n).all fun j => f j == g j
theorem alB_iff {n : Nat} {f g : Nat → Bool} : alB n f g = true ↔ ∀ j, j < n → f j = g j := by simp [alB]
def sameBo (n m : Nat) (f g : Nat → Bool) : Bool := decide (n = m) && alB n f g
def matB (n m : Nat) (l k : Nat → Nat) (f g : Nat → Nat → Bool) : Bool := decide (n = m) && (List.range n).all fun i => sameBo (l i) (k i) (f i) (g i)
theorem matB_iff {n m : Nat} {l k : Nat → Nat} {f g : Nat → Nat → Bool} : matB n m l k f g = true ↔ n = m ∧ ∀ i, i < n → l i = k i ∧ ∀ j, j < l i → f i j = g i j := by
  simp [matB, sameBo, alB_iff]
set_option maxRecDepth 100000 in
set_option maxHeartbeats 1600000 in
theorem sameb_any (A1 A2 : Option Addr) (n m c1 c2 : Nat) (f g : Nat → Bool) (w : World) (h1 : RdC w w.heap.size A1 n fun j => .bool (f j)) (h2 : RdC w w.heap.size A2 m fun j => .bool (g j)) (hn : n ≤ 1048576) :
    Calls Try.prog 29 #[.slice A1 n c1, .slice A2 m c2] w (Qui (.bool (sameBo n m f g)) w) := by
  by_cases hnm : n = m
  · subst hnm
    have e : sameBo n n f g = alB n f g := by simp [sameBo]
    rw [e]
    obtain ⟨b, hb⟩ : ∃ b, b = alB n f g := ⟨_, rfl⟩
    rw [← hb]
    have HB := Lib.hid hb
    clear hb e
    go_enter Try.func29, Try.ntmps29
    go_wp2_with fail
    go_loopw [5] (fun s wr => ∃ i q : Nat, i ≤ n ∧ s = .int .i64 i ∧ (∀ j, j < i → f j = g j) ∧ wr = w.drewN q) (fun s _ => n - (intOf s).toNat)
    case atStart => exact ⟨0, 0, by omega, rfl, fun j hj => by omega, rfl⟩
    case round =>
      obtain ⟨i, q, hi, rfl, hs, rfl⟩ := hrel
      have HS := Lib.hid hs
      clear hs
      by_cases hlt : i < n
      · obtain ⟨ad, rfl, _, c0⟩ := h1.at_ hlt
        obtain ⟨ad2, rfl, _, d0⟩ := h2.at_ hlt
        cases he : (f i == g i) with
        | true =>
          have hne : (!(f i == g i)) = false := by rw [he]; rfl
          have HE := Lib.hid (show f i = g i by simpa using he)
          generalize f i = x at c0 hne
          generalize g i = y at d0 hne
          clear he
          go_wp2_with fail
          go_quiet (fail)
          go_wp2_with fail
          go_roundw
          case rel => exact ⟨i + 1, q + nq, by omega, by go_num, fun j hj => by
            by_cases e : j = i
            · subst e; exact HE.out
            · exact HS.out j (by omega), by first | rfl | exact (World.drewN_drewN _ _ _)⟩
          case measure => simp [intOf]; omega
        | false =>
          have hne : (!(f i == g i)) = true := by rw [he]; rfl
          have hbf : b = false := by
            rw [HB.out, Bool.eq_false_iff]
            intro e
            have := alB_iff.1 e i hlt
            rw [this] at he
            simp at he
          subst hbf
          generalize f i = x at c0 hne
          generalize g i = y at d0 hne
          clear he
          go_wp2_with fail
          go_quiet (fail)
          go_wp2_with fail
          go_ret
          exact ⟨rfl, q + nq, by first | rfl | exact (World.drewN_drewN _ _ _)⟩
      · have hge : n ≤ i := by omega
        have hbt : b = true := by rw [HB.out, alB_iff]; exact fun j hj => HS.out j (by omega)
        subst hbt
        go_wp2_with fail
        go_ret
        exact ⟨rfl, q, rfl⟩
  · have e : sameBo n m f g = false := by simp [sameBo, hnm]
    rw [e]
    have h3 : ((n : Int) == (m : Int)) = false := beq_eq_false_iff_ne.2 (by omega)
    have h4 : ((n : Int) != (m : Int)) = true := by rw [bne, h3]; rfl
    clear e h1 h2
    go_enter Try.func29, Try.ntmps29
    go_wp2_with fail
    go_ret
    exact ⟨rfl, 0, rfl⟩
set_option maxRecDepth 100000 in
set_option maxHeartbeats 1600000 in
theorem matrix_any (A1 A2 : Option Addr) (n m c1 c2 : Nat) (l k : Nat → Nat) (f g : Nat → Nat → Bool) (w : World) (h1 : RdM w w.heap.size A1 n l f) (h2 : RdM w w.heap.size A2 m k g) (hn : n ≤ 1048576) (hl : ∀ i, i < n → l i ≤ 1048576) :
    Calls Try.prog 11 #[.slice A1 n c1, .slice A2 m c2] w (Qui (.bool (matB n m l k f g)) w) := by
  obtain ⟨b, hb⟩ : ∃ b, b = matB n m l k f g := ⟨_, rfl⟩
  rw [← hb]
  have HB := Lib.hid hb
  clear hb
  by_cases hnm : n = m
  · subst hnm
    go_enter Try.func11, Try.ntmps11
    go_wp2_with fail
    go_loopw [5, 13] (fun _ s wr => ∃ i q : Nat, i ≤ n ∧ s = .int .i64 i ∧ (∀ j, j < i → sameBo (l j) (k j) (f j) (g j) = true) ∧ wr = w.drewN q) (fun _ s _ => n - (intOf s).toNat)
    case atStart => exact ⟨0, 0, by omega, rfl, fun j hj => by omega, rfl⟩
    case round =>
      obtain ⟨i, q, hi, rfl, hs, rfl⟩ := hrel
      have HS := Lib.hid hs
      clear hs
      by_cases hlt : i < n
      · obtain ⟨ad, R, cr, rfl, _, c0, hc, hr⟩ := h1.at_ hlt
        obtain ⟨ad2, R2, cr2, rfl, _, d0, hc2, hr2⟩ := h2.at_ hlt
        obtain ⟨v, hv⟩ : ∃ v, v = sameBo (l i) (k i) (f i) (g i) := ⟨_, rfl⟩
        have HNS := Lib.hid fun nn => sameb_any R R2 (l i) (k i) cr cr2 (f i) (g i) (w.drewN nn) (hr.below (Below.drewN (Below.refl _ _) nn)) (hr2.below (Below.drewN (Below.refl _ _) nn)) (hl i hlt)
        rw [← hv] at HNS
        have HV := Lib.hid hv
        clear hr hr2 hv
        generalize l i = x at c0 hc HNS
        generalize k i = y at d0 hc2 HNS
        cases v with
        | true =>
          go_wp2_with fail
          go_quiet ((go_at_call 29; exact Qui.sum (HNS.out _)))
          go_wp2_with fail
          go_roundw
          case rel => exact ⟨i + 1, q + nq, by omega, by go_num, fun j hj => by
            by_cases e : j = i
            · subst e; exact HV.out.symm
            · exact HS.out j (by omega), by first | rfl | exact (World.drewN_drewN _ _ _)⟩
          case measure => simp [intOf]; omega
        | false =>
          have hbf : b = false := by
            rw [HB.out, Bool.eq_false_iff]
            intro e
            have h3 := (matB_iff.1 e).2 i hlt
            have h4 : sameBo (l i) (k i) (f i) (g i) = true := by
              unfold sameBo
              rw [h3.1, decide_eq_true rfl, Bool.true_and, alB_iff]
              exact fun j hj => h3.2 j (by rw [h3.1]; exact hj)
            rw [← HV.out] at h4
            cases h4
          subst hbf
          go_wp2_with fail
          go_quiet ((go_at_call 29; exact Qui.sum (HNS.out _)))
          go_wp2_with fail
          go_ret
          exact ⟨rfl, q + nq, by first | rfl | exact (World.drewN_drewN _ _ _)⟩
      · have hge : n ≤ i := by omega
        have hbt : b = true := by
          rw [HB.out]
          unfold matB
          rw [decide_eq_true rfl, Bool.true_and, List.all_eq_true]
          exact fun j hj => HS.out j (by have := List.mem_range.1 hj; omega)
        subst hbt
        go_wp2_with fail
        go_ret
        exact ⟨rfl, q, rfl⟩
  · have e : b = false := by rw [HB.out]; simp [matB, hnm]
    subst e
    have h3 : ((n : Int) == (m : Int)) = false := beq_eq_false_iff_ne.2 (by omega)
    have h4 : ((n : Int) != (m : Int)) = true := by rw [bne, h3]; rfl
    clear h1 h2
    go_enter Try.func11, Try.ntmps11
    go_wp2_with fail
    go_ret
    exact ⟨rfl, 0, rfl⟩
end Go.Proofs.Ytknlhhbkahollaa
