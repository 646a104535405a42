/- How many nodes items have; how many a fold saves. -/
import Derived.Test.YtjbflndlfdekiaaItm
import Derived.Test.YtjbflndlfdekiaaBestm
namespace Go.Proofs.Ytjbflndlfdekiaa
open Go.RowKit Tab
set_option linter.unusedSimpArgs false
set_option linter.unusedVariables false

/-- It answers v and turns nothing. -/
def Stil (v : Value) (w : World) (e : Ending) (w' : World) : Prop := e = .returned v ∧ w' = w
set_option maxRecDepth 100000 in
set_option maxHeartbeats 1600000 in
theorem sizeI_any (A : Option Addr) (n cap g : Nat) (I : Itr) (w : World) (h : RdL w w.heap.size g A n I) (hc : n ≤ cap) (hn : n ≤ 1048576) (hsz : szI I ≤ 1099511627776) :
    Calls Try.prog 32 #[.slice A n cap] w (Stil (.int .i64 (szI I : Nat)) w) := by
  generalize hS : szI I = S at hsz ⊢
  have HS := Lib.hid hS
  clear hS
  go_enter Try.func32, Try.ntmps32
  go_wp2_with fail
  go_loopw [3, 5, 8] (fun q _ s wr => ∃ i k : Nat, i ≤ n ∧ s = .int .i64 i ∧ q = .int .i64 k ∧ k = szI (I.take i) ∧ wr = w) (fun _ _ s _ => n - (intOf s).toNat)
  case atStart => exact ⟨0, 0, by omega, rfl, rfl, by simp [szI], rfl⟩
  case round =>
    obtain ⟨i, k, hi, rfl, rfl, hk, rfl⟩ := hrel
    have HK := Lib.hid hk
    clear hk
    by_cases hlt : i < n
    · obtain ⟨ad, x, A', c', rfl, had, hx, c0, hl, hr⟩ := h.at_ hlt
      have hm := szI_more hx
      have hle := szI_take I (i + 1)
      rw [HS.out] at hle
      have hk2 : k + x.length = szI (I.take (i + 1)) := by rw [hm, HK.out]
      have hb2 : k + x.length ≤ 1099511627776 := by omega
      have HK2 := Lib.hid hk2
      clear hm hle hk2 hx hr
      generalize x.length = m at c0 hl hb2 HK2
      go_wp2_with fail
      go_roundw
      case rel => exact ⟨i + 1, k + m, by omega, by go_num, by go_num, HK2.out, trivial⟩
      case measure => simp [intOf]; omega
    · have hge : n ≤ i := by omega
      have e : I.take i = I := List.take_of_length_le (by rw [h.len]; exact hge)
      have hk2 := HK.out
      rw [e, HS.out] at hk2
      subst hk2
      go_wp2_with fail
      go_ret
      exact ⟨rfl, rfl⟩
theorem savI_lt {I : Itr} {n : Nat} (h : n < 2) : savI I n = 0 := if_pos h
theorem savI_one {I : Itr} {n : Nat} (h : ¬ n < 2) (h1 : ¬ 1 < I.length) : savI I n = ((szI I * (n - 1) : Nat) : Int) - 1 := by unfold savI; rw [if_neg h, if_neg h1, Int.sub_zero]
theorem savI_more {I : Itr} {n : Nat} (h : ¬ n < 2) (h1 : 1 < I.length) : savI I n = ((szI I * (n - 1) : Nat) : Int) - 1 - 1 := by unfold savI; rw [if_neg h, if_pos h1]
set_option maxRecDepth 100000 in
set_option maxHeartbeats 1600000 in
theorem saves_any (A : Option Addr) (n cap g m : Nat) (I : Itr) (w : World) (h : RdL w w.heap.size g A n I) (hc : n ≤ cap) (hn : n ≤ 1048576) (hsz : szI I ≤ 1048576) (hm : m ≤ 1048576) :
    Calls Try.prog 34 #[.slice A n cap, .int .i64 (m : Int)] w (Stil (.int .i64 (savI I m)) w) := by
  by_cases h2 : m < 2
  · rw [savI_lt h2]
    have h2' : (m : Int) < 2 := by omega
    go_enter Try.func34, Try.ntmps34
    go_wp2_with fail
    go_ret
    exact ⟨rfl, rfl⟩
  · have h2' : ¬ (m : Int) < 2 := by omega
    have H := Lib.hid (sizeI_any A n cap g I w h hc hn (by omega))
    have hlen := h.len
    have hmul : szI I * (m - 1) ≤ 1048576 * 1048576 := Nat.mul_le_mul hsz (by omega)
    have e1 : ((szI I : Nat) : Int) * ((m : Int) - 1) = ((szI I * (m - 1) : Nat) : Int) := by
      rw [Int.natCast_mul, Int.natCast_sub (by omega)]
      rfl
    have hw : IntKind.i64.wrap (((szI I : Nat) : Int) * ((m : Int) - 1)) = ((szI I * (m - 1) : Nat) : Int) := by rw [e1]; exact IntWalk.i64_in _ (by omega)
    by_cases h1 : 1 < n
    · rw [savI_more h2 (by omega)]
      generalize szI I * (m - 1) = P at hmul hw ⊢
      generalize szI I = S at H hw ⊢
      have h1' : (1 : Int) < (n : Int) := by omega
      clear e1 h hlen hsz
      go_enter Try.func34, Try.ntmps34
      go_wp2_with fail
      refine H.out.mono ?_
      rintro e w1 ⟨rfl, rfl⟩
      go_wp2_with fail
      go_ret
      exact ⟨rfl, rfl⟩
    · rw [savI_one h2 (by omega)]
      generalize szI I * (m - 1) = P at hmul hw ⊢
      generalize szI I = S at H hw ⊢
      have h1' : ¬ (1 : Int) < (n : Int) := by omega
      clear e1 h hlen hsz
      go_enter Try.func34, Try.ntmps34
      go_wp2_with fail
      refine H.out.mono ?_
      rintro e w1 ⟨rfl, rfl⟩
      go_wp2_with fail
      go_ret
      exact ⟨rfl, rfl⟩
end Go.Proofs.Ytjbflndlfdekiaa
