/- A stretch of items that are the same as the ones p behind. -/
import Derived.Test.YtjbflndlfdekiaaSzi
import Derived.Deep.CutRange
namespace Go.Proofs.Ytjbflndlfdekiaa
open Go.RowKit Tab
set_option linter.unusedSimpArgs false
set_option linter.unusedVariables false

def testB (I : Itr) (p i : Nat) : Bool := decide (0 < i) && sameAt I (i - 1) (i - 1 + p)
theorem testB_zero (I : Itr) (p : Nat) : testB I p 0 = false := rfl
theorem testB_succ (I : Itr) (p k : Nat) : testB I p (k + 1) = sameAt I k (k + p) := by unfold testB; simp
theorem backI_yes {I : Itr} {p i : Nat} (h : testB I p i = true) : ∃ k, i = k + 1 ∧ backI I p i = backI I p k := by
  cases i with
  | zero => cases h
  | succ k => rw [testB_succ] at h; exact ⟨k, rfl, by simp only [backI]; rw [if_pos h]⟩
theorem backI_no {I : Itr} {p i : Nat} (h : testB I p i = false) : backI I p i = i := by
  cases i with
  | zero => rfl
  | succ k => rw [testB_succ] at h; simp only [backI]; rw [if_neg (by rw [h]; simp)]
def testF (I : Itr) (p n t : Nat) : Bool := decide (t + p < n) && sameAt I t (t + p)
theorem fwdI_no {I : Itr} {p n f t : Nat} (hn : I.length = n) (h : testF I p n t = false) : fwdI I p f t = t := by
  cases f with
  | zero => rfl
  | succ f =>
    simp only [fwdI]
    rw [if_neg]
    unfold testF at h
    intro ⟨h1, h2⟩
    rw [h2, decide_eq_true (by omega)] at h
    cases h
set_option maxRecDepth 100000 in
set_option maxHeartbeats 4000000 in
theorem stretch_any (A : Option Addr) (n cap g p place : Nat) (I : Itr) (w : World) (h : RdL w w.heap.size g A n I) (hc : n ≤ cap) (hn : n ≤ 1048576) (hsz : szI I ≤ 1048576) (hp : place + p < n) :
    Calls Try.prog 33 #[.slice A n cap, .int .i64 (p : Int), .int .i64 (place : Int)] w (Qui (.tuple #[.int .i64 (backI I p place : Nat), .int .i64 (fwdI I p I.length place : Nat)]) w) := by
  generalize hR : backI I p place = R
  generalize hT : fwdI I p I.length place = T
  have HR := Lib.hid hR
  have HT := Lib.hid hT
  have HL := Lib.hid h.len
  clear hR hT
  go_enter Try.func33, Try.ntmps33
  go_wp2_with fail
  go_loopw [8] (fun s wr => ∃ i q : Nat, i ≤ place ∧ s = .int .i64 i ∧ backI I p i = R ∧ wr = w.drewN q) (fun s _ => (intOf s).toNat)
  case atStart => exact ⟨place, 0, by omega, rfl, HR.out, rfl⟩
  case round =>
    obtain ⟨i, q, hi, rfl, hs, rfl⟩ := hrel
    have HS := Lib.hid hs
    clear hs
    obtain ⟨b, hb⟩ : ∃ b, testB I p i = b := ⟨_, rfl⟩
    have HB := Lib.hid hb
    clear hb
    go_upto_region 2 with fail
    go_cut [8, 28] from 12 to 30 (fun s8 c wx => s8 = .int .i64 i ∧ c = .bool b ∧ ∃ q2, wx = w.drewN q2)
    case first =>
      by_cases hlt : 0 < i
      · obtain ⟨k, rfl⟩ : ∃ k, i = k + 1 := ⟨i - 1, by omega⟩
        obtain ⟨ad, x, A1, c1, rfl, had, hx, d0, hl1, hr1⟩ := h.at_ (show k < n by omega)
        obtain ⟨ad2, y, A2, c2, e2, had2, hy, d1, hl2, hr2⟩ := h.at_ (show k + p < n by omega)
        injection e2 with e2
        subst e2
        have hlx : x.length ≤ 1048576 := Nat.le_trans (szI_mem hx) hsz
        have HNS := Lib.hid fun nn => nsame_any A1 A2 x.length y.length c1 c2 x y (w.drewN nn) (hr1.below (Below.drewN (Below.refl _ _) nn)) (hr2.below (Below.drewN (Below.refl _ _) nn)) hlx
        have hst := HB.out
        rw [testB_succ, sameAt_eq hx hy] at hst
        rw [hst] at HNS
        clear hst hx hy hlx hr1 hr2 had2
        generalize x.length = m1 at d0 hl1 HNS
        generalize y.length = m2 at d1 hl2 HNS
        have hkw : IntKind.i64.wrap (k : Int) = (k : Int) := IntWalk.i64_in _ (by omega)
        have hkn : k < n := by omega
        have hmn : k + p < n := by omega
        have hsum : (k : Int) + (p : Int) = ((k + p : Nat) : Int) := by omega
        generalize k + p = m at d1 hmn hsum
        have hkp : IntKind.i64.wrap (m : Int) = (m : Int) := IntWalk.i64_in _ (by omega)
        go_quiet ((go_at_call 45; exact Qui.sum (HNS.out _)))
        go_wp2_with fail
        go_meet
        case rel => exact ⟨rfl, rfl, q + nq, World.drewN_drewN _ _ _⟩
      · obtain rfl : i = 0 := by omega
        have hst := HB.out
        rw [testB_zero] at hst
        subst hst
        go_wp2_with fail
        go_quiet (fail)
        go_wp2_with fail
        go_meet
        case rel => exact ⟨rfl, rfl, q + nq, World.drewN_drewN _ _ _⟩
    case rest =>
      obtain ⟨rfl, rfl, q2, rfl⟩ := hcut
      cases b with
      | true =>
        obtain ⟨k, rfl, e⟩ := backI_yes HB.out
        have hst := HS.out
        rw [e] at hst
        have HST := Lib.hid hst
        clear hst HS e
        go_wp2_with fail
        go_roundw
        case rel => exact ⟨k, q2, by omega, by go_num, HST.out, rfl⟩
        case measure => simp [intOf]
      | false =>
        have e := backI_no HB.out
        have hst := HS.out
        rw [e] at hst
        subst hst
        clear HS e
        go_wp2_with fail
        go_loopw [9] (fun s wr => ∃ j q f : Nat, place ≤ j ∧ j ≤ n ∧ s = .int .i64 j ∧ n < j + (f + 1) ∧ fwdI I p f j = T ∧ wr = w.drewN q) (fun s _ => n - (intOf s).toNat)
        case atStart => exact ⟨place, q2, n, by omega, by omega, rfl, by omega, by rw [← HT.out, HL.out], rfl⟩
        case round =>
          obtain ⟨j, q, f, hj0, hj, rfl, hf, hs, rfl⟩ := hrel
          have HS := Lib.hid hs
          clear hs
          obtain ⟨b, hb⟩ : ∃ b, testF I p n j = b := ⟨_, rfl⟩
          have HB := Lib.hid hb
          clear hb
          go_upto_region 4 with fail
          go_cut [9, 49] from 31 to 51 (fun s9 c wx => s9 = .int .i64 j ∧ c = .bool b ∧ ∃ q2, wx = w.drewN q2)
          case first =>
            by_cases hlt : j + p < n
            · obtain ⟨ad, x, A1, c1, rfl, had, hx, d0, hl1, hr1⟩ := h.at_ (show j < n by omega)
              obtain ⟨ad2, y, A2, c2, e2, had2, hy, d1, hl2, hr2⟩ := h.at_ hlt
              injection e2 with e2
              subst e2
              have hlx : x.length ≤ 1048576 := Nat.le_trans (szI_mem hx) hsz
              have HNS := Lib.hid fun nn => nsame_any A1 A2 x.length y.length c1 c2 x y (w.drewN nn) (hr1.below (Below.drewN (Below.refl _ _) nn)) (hr2.below (Below.drewN (Below.refl _ _) nn)) hlx
              have hst := HB.out
              unfold testF at hst
              rw [decide_eq_true hlt, Bool.true_and, sameAt_eq hx hy] at hst
              rw [hst] at HNS
              clear hst hx hy hlx hr1 hr2 had2
              generalize x.length = m1 at d0 hl1 HNS
              generalize y.length = m2 at d1 hl2 HNS
              have hjn : j < n := by omega
              have hsum : (j : Int) + (p : Int) = ((j + p : Nat) : Int) := by omega
              generalize j + p = m at d1 hlt hsum
              have hkp : IntKind.i64.wrap (m : Int) = (m : Int) := IntWalk.i64_in _ (by omega)
              go_quiet ((go_at_call 45; exact Qui.sum (HNS.out _)))
              go_wp2_with fail
              go_meet
              case rel => exact ⟨rfl, rfl, q + nq, World.drewN_drewN _ _ _⟩
            · have hst := HB.out
              unfold testF at hst
              rw [decide_eq_false hlt, Bool.false_and] at hst
              subst hst
              have hkp : IntKind.i64.wrap ((j : Int) + (p : Int)) = (j : Int) + (p : Int) := IntWalk.i64_in _ (by omega)
              have hlt' : ¬ (j : Int) + (p : Int) < (n : Int) := by omega
              go_quiet (fail)
              go_wp2_with fail
              go_meet
              case rel => exact ⟨rfl, rfl, q + nq, rfl⟩
          case rest =>
            obtain ⟨rfl, rfl, q2, rfl⟩ := hcut
            cases b with
            | true =>
              have hB := HB.out
              have hjn : j + p < n := by
                unfold testF at hB
                simp only [Bool.and_eq_true, decide_eq_true_eq] at hB
                exact hB.1
              obtain ⟨f', rfl, e⟩ : ∃ f', f = f' + 1 ∧ fwdI I p f j = fwdI I p f' (j + 1) := by
                obtain ⟨f', rfl⟩ : ∃ f', f = f' + 1 := ⟨f - 1, by omega⟩
                refine ⟨f', rfl, ?_⟩
                unfold testF at hB
                simp only [Bool.and_eq_true, decide_eq_true_eq] at hB
                simp only [fwdI]
                rw [if_pos ⟨by rw [HL.out]; omega, hB.2⟩]
              have hst := HS.out
              rw [e] at hst
              have HST := Lib.hid hst
              clear hst HS e hB
              go_wp2_with fail
              go_roundw
              case rel => exact ⟨j + 1, q2, f', by omega, by omega, by go_num, by omega, HST.out, rfl⟩
              case measure => simp [intOf]; omega
            | false =>
              have e := fwdI_no (f := f) HL.out HB.out
              have hst := HS.out
              rw [e] at hst
              subst hst
              clear HS e
              go_wp2_with fail
              go_ret2
              exact ⟨rfl, q2, rfl⟩
end Go.Proofs.Ytjbflndlfdekiaa
