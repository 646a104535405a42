/- How many ticks in each period, at least; how many in all: by the document's own answer. -/
import Derived.Test.YtcdgofdnafbacaaLow4
import Derived.Test.YtcdgofdnafbacaaLow1
import Derived.Test.YtcdgofdnafbacaaLow2
namespace Go.Proofs.Ytcdgofdnafbacaa
open Go.RowKit Tab
set_option linter.unusedSimpArgs false
set_option linter.unusedVariables false

set_option maxRecDepth 100000 in
set_option maxHeartbeats 1600000 in
theorem total_any (A : Option Addr) (n cap : Nat) (L : List Rn) (w : World) (h : RdR w w.heap.size A n L) (hc : n ≤ cap) (hn : n ≤ 1048576) (ht : ticks L ≤ 1099511627776) :
    Calls Try.prog 20 #[.slice A n cap] w (Ans (.int .i64 (ticks L : Nat)) w) := by
  generalize hT : ticks L = T at ht
  have HT := Lib.hid hT
  clear hT
  go_enter Try.func20, Try.ntmps20
  go_wp2_with fail
  go_loopw [3, 5, 8] (fun q _ s wr => ∃ i k : Nat, i ≤ n ∧ s = .int .i64 i ∧ q = .int .i64 k ∧ k = ticks (L.take i) ∧ Below w.heap.size w wr) (fun _ _ s _ => n - (intOf s).toNat)
  case atStart => exact ⟨0, 0, by omega, rfl, rfl, by simp [ticks], Below.refl _ _⟩
  case round =>
    obtain ⟨i, k, hi, rfl, rfl, hk, hb⟩ := hrel
    have HK := Lib.hid hk
    clear hk
    by_cases hlt : i < n
    · obtain ⟨ad, r, rfl, had, hr, c0, c1⟩ := (h.on hb).at_ hlt
      have htk := take_more hr
      have hle := take_ticks L (i + 1)
      rw [HT.out] at hle
      have hk2 : k + r.n = ticks (L.take (i + 1)) := by rw [htk, HK.out]
      have hkb : k + r.n ≤ 1099511627776 := by omega
      have HK2 := Lib.hid hk2
      have hbl := bl1 wr (.cells #[.int .i64 r.p, .int .i64 (r.n : Int)] 31)
      have HB := Lib.hid (hb.trans (hbl.mono hb.size))
      obtain ⟨rp, rn⟩ := r
      dsimp only at c0 c1 hkb HK2 HB
      have HS := Lib.hid fun W => sum_any (k : Int) (rn : Int) (k : Int) (rn : Int) W (by omega) (by omega) (by omega) rfl rfl
      clear hr htk hle hk2 hbl
      go_wp2_with fail
      refine (HS.out _).mono ?_
      rintro e w5 ⟨rfl, rfl⟩
      go_wp2_with fail
      go_roundw
      case rel => exact ⟨i + 1, k + rn, by omega, by go_num, by go_num, HK2.out, HB.out⟩
      case measure => simp [intOf]; omega
    · have hge : n ≤ i := by omega
      have e : L.take i = L := List.take_of_length_le (by rw [h.len]; exact hge)
      have hk := HK.out
      rw [e, HT.out] at hk
      subst hk
      clear e HK
      go_wp2_with fail
      go_ret
      exact Ans.mk rfl hb
/-- How many are p. -/
def cntF (p : Int) : List Int → Nat
  | [] => 0
  | x :: l => (if x = p then 1 else 0) + cntF p l
theorem cntF_append (p : Int) (a b : List Int) : cntF p (a ++ b) = cntF p a + cntF p b := by
  induction a with
  | nil => simp [cntF]
  | cons x a ih => simp only [List.cons_append, cntF, ih]; omega
theorem cntF_le (p : Int) (a : List Int) : cntF p a ≤ a.length := by
  induction a with
  | nil => simp [cntF]
  | cons x a ih => simp only [cntF, List.length_cons]; split <;> omega
theorem cntF_more {W : List Int} {i : Nat} {x : Int} (p : Int) (h : W[i]? = some x) : cntF p (W.take (i + 1)) = cntF p (W.take i) + if x = p then 1 else 0 := by
  obtain ⟨hi, e⟩ := List.getElem?_eq_some_iff.1 h
  rw [List.take_succ_eq_append_getElem hi, cntF_append, e]
  simp [cntF]
/-- The least of the first k periods. -/
def budW (W : List Int) (p : Int) (P : Nat) : Nat → Nat
  | 0 => P + 1
  | k + 1 => min (budW W p P k) (cntF p ((W.drop (k * P)).take P))
def budL (W : List Int) (p z : Int) : Int := if z < 1 then -1 else if W.length = 0 then -1 else if W.length % z.toNat ≠ 0 then -1 else (budW W p z.toNat (W.length / z.toNat) : Int)
theorem budW_le (W : List Int) (p : Int) (P k : Nat) : budW W p P k ≤ P + 1 := by
  induction k with
  | zero => exact Nat.le_refl _
  | succ k ih => simp only [budW]; omega
end Go.Proofs.Ytcdgofdnafbacaa
