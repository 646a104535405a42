/- A tape of numbers: the next one, held between. -/
import Derived.Test.YtpjppglaieohlaaMemG
import Derived.IntWalk
import Derived.BigQuiet
import Derived.Deep.QuietTactic
namespace Go.Proofs.Ytpjppglaieohlaa
open Go.RowKit
set_option linter.unusedSimpArgs false
set_option linter.unusedVariables false

def wv (n : Int) (m : Nat) : Int := if 0 ≤ n ∧ n ≤ m then n else if n.tmod (m + 1) < 0 then n.tmod (m + 1) + m + 1 else n.tmod (m + 1)
theorem wv_bd (n : Int) (m : Nat) : 0 ≤ wv n m ∧ wv n m ≤ m := by
  unfold wv
  split
  · omega
  · by_cases h : 0 ≤ n
    · have e : n.tmod ((m : Int) + 1) = n % ((m : Int) + 1) := Int.tmod_eq_emod_of_nonneg h
      have h2 := Int.emod_nonneg n (b := (m : Int) + 1) (by omega)
      have h3 := Int.emod_lt_of_pos n (b := (m : Int) + 1) (by omega)
      rw [e, if_neg (by omega)]
      omega
    · obtain ⟨h2, h3⟩ := tmod_low n m (by omega)
      split <;> omega
set_option maxRecDepth 100000 in
set_option maxHeartbeats 400000 in
theorem within_eq (n : Int) (m : Nat) (w : World) (hm : m < 4611686018427387904) :
    Calls Try.prog 26 #[.int .i64 n, .int .i64 0, .int .i64 m] w fun e w' => e = .returned (.int .i64 (wv n m)) ∧ w' = w := by
  generalize hv : wv n m = v
  have HV := Lib.hid hv
  clear hv
  have hm0 : (0 : Int) ≤ (m : Int) := Int.natCast_nonneg _
  by_cases h0 : 0 ≤ n
  · by_cases h1 : n ≤ (m : Int)
    · go_enter Try.func26, Try.ntmps26
      go_wp2
      go_ret
      exact ⟨by rw [← HV.out, wv, if_pos ⟨h0, h1⟩]; rfl, rfl⟩
    · have h2 := Int.emod_nonneg n (b := (m : Int) + 1) (by omega)
      have h3 : n % ((m : Int) + 1) ≤ m := by have := Int.emod_lt_of_pos n (b := (m : Int) + 1) (by omega); omega
      go_enter Try.func26, Try.ntmps26
      go_wp2
      go_ret
      refine ⟨?_, rfl⟩
      have e : n.tmod ((m : Int) + 1) = n % ((m : Int) + 1) := Int.tmod_eq_emod_of_nonneg h0
      rw [← HV.out, wv, if_neg (by omega), e, if_neg (by omega)]
      simp
  · obtain ⟨h2, h3⟩ := tmod_low n m (by omega)
    by_cases h4 : n.tmod ((m : Int) + 1) < 0
    · go_enter Try.func26, Try.ntmps26
      go_wp2
      go_ret
      refine ⟨?_, rfl⟩
      rw [← HV.out, wv, if_neg (by omega), if_pos h4]
      simp
    · go_enter Try.func26, Try.ntmps26
      go_wp2
      go_ret
      refine ⟨?_, rfl⟩
      rw [← HV.out, wv, if_neg (by omega), if_neg (by omega)]
      simp
/-- A tape in block b: the numbers f lie below block B. -/
structure TapeW (w : World) (B b : Nat) (A : Option Addr) (m c : Nat) (f : Nat → Int) (at_ : Nat) : Prop where
  rd : RdC w B A m (fun j => .int .i64 (f j))
  low : B ≤ b
  c0 : w.cell? ⟨b, 0, none⟩ = some (.slice A m c)
  c1 : w.cell? ⟨b, 1, none⟩ = some (.int .i64 (at_ : Int))
  fr : w.frozen? ⟨b, 1, none⟩ = false
  le : at_ ≤ m
/-- The next number of the tape, below n; no block but the tape's has turned. -/
def Nexts (B b : Nat) (A : Option Addr) (m c : Nat) (f : Nat → Int) (n : Nat) (w : World) (e : Ending) (w' : World) : Prop :=
  ∃ k at_ : Nat, k < n ∧ e = .returned (.int .i64 (k : Int)) ∧ TapeW w' B b A m c f at_ ∧ w.grownBy w' (some b)
set_option maxRecDepth 100000 in
set_option maxHeartbeats 1600000 in
theorem next_any (B b : Nat) (A : Option Addr) (m c : Nat) (f : Nat → Int) (at_ n : Nat) (w : World) (h : TapeW w B b A m c f at_) (hn : 1 ≤ n) (hn2 : n ≤ 64) (hm : m ≤ 140737488351232) :
    Calls Try.prog 17 #[.pointer (some ⟨b, 0, none⟩), .int .i64 (n : Int)] w (Nexts B b A m c f n w) := by
  have H := Lib.hid h
  have c0 := h.c0
  have c1 := h.c1
  have hle := h.le
  clear h
  by_cases hlt : at_ < m
  · obtain ⟨ad, rfl, hab, hcell⟩ := H.out.rd.at_ hlt
    have hfr := H.out.fr
    have hlow := H.out.low
    have hF : ∀ q, TapeW ((w.drewN q).setCell ⟨b, 1, none⟩ (.int .i64 ((at_ : Int) + 1))) B b (some ad) m c f (at_ + 1) ∧ w.grownBy ((w.drewN q).setCell ⟨b, 1, none⟩ (.int .i64 ((at_ : Int) + 1))) (some b) := fun q => by
      have hbl := World.block_lt_of_cell? w _ c1
      refine ⟨⟨H.out.rd.keep fun p hp => ?_, hlow, ?_, ?_, ?_, by omega⟩, ⟨rfl, rfl, rfl, by simp [World.setCell], fun k hk hne => ?_⟩⟩
      · exact World.cell?_of_block (Below.heap_setCell (w.drewN q) ⟨b, 1, none⟩ _ p.block (fun e => by dsimp only at e; omega))
      · rw [World.cell?_setCell_other _ _ _ _ (by simp)]; exact c0
      · exact World.cell?_setCell_same _ _ _ (u := .int .i64 (at_ : Int)) c1
      · simp; exact hfr
      · exact Below.heap_setCell (w.drewN q) ⟨b, 1, none⟩ _ k (fun e => hne (by rw [e]))
    have F := Lib.hid hF
    clear hF
    have hmd : decide (m ≤ at_) = false := decide_eq_false (by omega)
    go_enter Try.func17, Try.ntmps17
    go_wp2_with fail
    go_quiet (fail)
    go_wp2_with fail
    obtain ⟨T1, G1⟩ := F.out nq
    generalize (w.drewN nq).setCell ⟨b, 1, none⟩ (.int .i64 ((at_ : Int) + 1)) = w1 at T1 G1 ⊢
    have d0 := T1.c0
    have d1 : w1.cell? ⟨b, 1, none⟩ = some (.int .i64 ((at_ : Int) + 1)) := T1.c1
    obtain ⟨ad', e, _, dcell⟩ := T1.rd.at_ hlt
    injection e with e
    subst e
    clear c0 c1 hcell hfr
    have hwr : IntKind.i64.wrap ((at_ : Int) + 1 - 1) = (at_ : Int) := by rw [IntWalk.i64_in _ (by omega)]; omega
    have hwb := wv_bd (f at_) 1073741824
    have hW := within_eq (f at_) 1073741824
    generalize wv (f at_) 1073741824 = z at hwb hW
    obtain ⟨Z, rfl⟩ := Int.eq_ofNat_of_zero_le hwb.1
    have hrem : ¬ n = 0 := by omega
    have HW := Lib.hid hW
    clear hW
    go_quiet ((go_at_call 26; exact Calls.quiet_of_same (HW.out _ (by decide))))
    go_wp2_with fail
    go_ret
    exact ⟨Z % n, at_ + 1, Nat.mod_lt _ (by omega), by rw [Int.natCast_emod]; rfl, ⟨T1.rd, T1.low, T1.c0, T1.c1, T1.fr, T1.le⟩, ⟨G1.os, G1.tape, G1.output, G1.size, G1.block⟩⟩
  · have hmd : decide (m ≤ at_) = true := decide_eq_true (by omega)
    have F : Hid (∀ q, TapeW (w.drewN q) B b A m c f at_ ∧ w.grownBy (w.drewN q) (some b)) := Lib.hid fun q => by
      have h := H.out
      exact ⟨⟨h.rd, h.low, h.c0, h.c1, h.fr, h.le⟩, ⟨rfl, rfl, rfl, Nat.le_refl _, fun _ _ _ => rfl⟩⟩
    go_enter Try.func17, Try.ntmps17
    go_wp2_with fail
    go_quiet (fail)
    go_wp2_with fail
    go_ret
    exact ⟨0, at_, by omega, rfl, (F.out _).1, (F.out _).2⟩
end Go.Proofs.Ytpjppglaieohlaa
