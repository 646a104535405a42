/- A row of runs in memory: ticks of one, of all, whose a tick is, how often one begins, the same row, a frame's. -/
import Derived.Test.YtcdgofdnafbacaaLow3
import Derived.Laws.StructEq
import Derived.BigQuiet
namespace Go.Proofs.Ytcdgofdnafbacaa
open Go.RowKit Tab
set_option linter.unusedSimpArgs false
set_option linter.unusedVariables false

theorem cast_add_if (a b : Nat) (P : Prop) [Decidable P] (h : P) : ((a + (if P then b else 0) : Nat) : Int) = (a : Int) + (b : Int) := by rw [if_pos h]; omega
theorem tkOf_all (p : Int) (L : List Rn) (i : Nat) : tkOf p (L.take i) ≤ ticks L := by
  have h1 := tkOf_le p (L.take i)
  have h2 := take_ticks L i
  omega
set_option maxRecDepth 100000 in
set_option maxHeartbeats 1600000 in
theorem ticks_any (A : Option Addr) (n cap : Nat) (L : List Rn) (p : Int) (w : World) (h : RdR w w.heap.size A n L) (hc : n ≤ cap) (hn : n ≤ 1048576) (ht : ticks L ≤ 1099511627776) :
    Calls Try.prog 31 #[.slice A n cap, .int .i64 p] w (Ans (.int .i64 (tkOf p L : Nat)) w) := by
  go_enter Try.func31, Try.ntmps31
  go_wp2_with fail
  go_loopw [5, 10] (fun q s wr => ∃ (i m : Nat), i ≤ n ∧ s = .int .i64 i ∧ q = .int .i64 m ∧ m = tkOf p (L.take i) ∧ Below w.heap.size w wr) (fun _ s _ => n - (intOf s).toNat)
  case atStart => exact ⟨0, 0, by omega, rfl, rfl, by simp [tkOf], Below.refl _ _⟩
  case round =>
    obtain ⟨i, m, hi, rfl, rfl, hm, hb⟩ := hrel
    have hmt := tkOf_all p L i
    rw [← hm] at hmt
    by_cases hlt : i < n
    · obtain ⟨ad, r, rfl, had, hr, c0, c1⟩ := (h.on hb).at_ hlt
      have hmore := tkOf_more (p := p) hr
      have hall := tkOf_all p L (i + 1)
      rw [hmore, ← hm] at hall
      rw [← hm] at hmore
      have hbl := bl1 wr (.cells #[.int .i64 r.p, .int .i64 (r.n : Int)] 31)
      have HB := Lib.hid (hb.trans (hbl.mono hb.size))
      by_cases hp : r.p = p
      · rw [if_pos hp] at hall hmore
        have hpb : (r.p == p) = true := beq_iff_eq.2 hp
        have HM := Lib.hid hmore
        clear hp hmore hm hbl hr
        go_wp2_with fail
        refine (more_any (m : Int) (r.n : Int) _ _ _ (by omega) (by omega) (by omega) rfl rfl).mono ?_
        rintro e w1 ⟨rfl, rfl⟩
        go_wp2_with fail
        go_roundw
        case rel => exact ⟨i + 1, m + r.n, by omega, by go_num, by go_num, HM.out.symm, HB.out⟩
        case measure => simp [intOf]; omega
      · rw [if_neg hp] at hall hmore
        have hpb : (r.p == p) = false := beq_eq_false_iff_ne.2 hp
        have HM := Lib.hid hmore
        clear hp hmore hm hbl hr
        go_wp2_with fail
        go_roundw
        case rel => exact ⟨i + 1, m, by omega, by go_num, rfl, HM.out.symm, HB.out⟩
        case measure => simp [intOf]; omega
    · have hge : n ≤ i := by omega
      have e : m = tkOf p L := by rw [hm, List.take_of_length_le (by rw [h.len]; exact hge)]
      have HE := Lib.hid e
      clear e hm
      go_wp2_with fail
      go_ret
      exact Ans.mk (by rw [HE.out]; rfl) hb
theorem rv_neq (x y : Int) (W : World) : (binOp .neq 31 (rv x y) (rv x y)).run Try.prog W = .ok (.bool false) W := by
  simp [run_neq_struct, go_sem]
set_option maxRecDepth 100000 in
set_option maxHeartbeats 800000 in
theorem req_same (A1 A2 : Option Addr) (n c1 c2 : Nat) (L : List Rn) (w : World) (h1 : RdR w w.heap.size A1 n L) (h2 : RdR w w.heap.size A2 n L) (hn : n ≤ 1048576) :
    Calls Try.prog 35 #[.slice A1 n c1, .slice A2 n c2] w (Ans (.bool true) w) := by
  go_enter Try.func35, Try.ntmps35
  go_wp2_with fail
  go_loopw [5, 13] (fun _ s wr => ∃ i : Nat, i ≤ n ∧ s = .int .i64 i ∧ Below w.heap.size w wr) (fun _ s _ => n - (intOf s).toNat)
  case atStart => exact ⟨0, by omega, rfl, Below.refl _ _⟩
  case round =>
    obtain ⟨i, hi, rfl, hb⟩ := hrel
    by_cases hlt : i < n
    · obtain ⟨ad, x, rfl, _, hx, c0, c1'⟩ := (h1.on hb).at_ hlt
      obtain ⟨ad2, x2, rfl, _, hx2, d0, d1⟩ := (h2.on hb).at_ hlt
      rw [hx] at hx2
      injection hx2 with hx2
      subst hx2
      obtain ⟨xp, xn⟩ := x
      clear hx
      have hne := rv_neq xp (xn : Int)
      go_wp2_with fail
      go_quiet (fail)
      go_wp2_with fail
      go_roundw
      case rel => exact ⟨i + 1, by omega, by go_num, ⟨hb.os, hb.tape, hb.output, hb.size, hb.block⟩⟩
      case measure => simp [intOf]; omega
    · have hge : n ≤ i := by omega
      go_wp2_with fail
      go_ret
      exact Ans.mk rfl hb
set_option maxHeartbeats 400000 in
theorem rsame_self (A1 A2 : Option Addr) (n c1 c2 : Nat) (L : List Rn) (w : World) (h1 : RdR w w.heap.size A1 n L) (h2 : RdR w w.heap.size A2 n L) (hn : n ≤ 1048576) :
    Calls Try.prog 30 #[.slice A1 n c1, .slice A2 n c2] w (Ans (.bool true) w) := by
  go_enter Try.func30, Try.ntmps30
  go_wp2_with fail
  refine (req_same A1 A2 n c1 c2 L w h1 h2 hn).mono ?_
  rintro e w1 ⟨rfl, hb1⟩
  go_wp2_with fail
  go_ret
  exact Ans.mk rfl hb1
end Go.Proofs.Ytcdgofdnafbacaa
