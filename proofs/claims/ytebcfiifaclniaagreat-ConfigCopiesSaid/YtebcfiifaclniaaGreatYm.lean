/- ConfigNumbers: the walk, under what package config, odd and a tape's configuration are to answer. -/
import Derived.Test.YtebcfiifaclniaaGreatYl
import Derived.Test.YtebcfiifaclniaaGreatLow1
import Derived.LoopTactic
namespace Go.Proofs.YtebcfiifaclniaaGreat
open Go.RowKit Tab
set_option linter.unusedSimpArgs false
set_option linter.unusedVariables false

/-- It answers a row of numbers, new, of no more than 400. -/
def TapeL12 (w : World) (e : Ending) (w' : World) : Prop := ∃ (A : Option Addr) (n c : Nat) (f : Nat → Int), e = .returned (.slice A n c) ∧ RdC w' w'.heap.size A n (fun j => .int .i64 (f j)) ∧ n ≤ 400 ∧ Below w.heap.size w w'
theorem TapeL12.mk {w w' : World} {A : Option Addr} {n c B : Nat} {L : List Int} (h : OwnV 3 1 w' B A n c (is L)) (hn : n ≤ 400) (hb : Below w.heap.size w w') : TapeL12 w (.returned (.slice A n c)) w' := by
  refine ⟨A, n, c, fun j => L.getD j 0, rfl, fun h0 => ?_, hn, hb⟩
  have hl := h.len
  rw [is_length] at hl
  obtain ⟨ad, e, hlt, hc⟩ := h.rd (by rw [is_length]; omega)
  refine ⟨ad, e, hlt, fun j hj => hc j _ ?_⟩
  have hj' : j < L.length := by omega
  simp [is, hj']
/-- What a tape's configuration is: right. -/
structure TapeR : Prop where
  cfg : ∀ (A : Option Addr) (n cap : Nat) (f : Nat → Int) (w : World), RdC w w.heap.size A n (fun j => .int .i64 (f j)) → n ≤ 140737488351232 →
    Calls Tryz.prog 4 #[.pointer (some ⟨w.heap.size, 0, none⟩)] (w.alloc (.cells #[.slice A n cap, .int .i64 0] 30)) (fun e w' => ∃ y, e = .returned (cfv y) ∧ CfR w' y ∧ SmX 16 y ∧ (whF y).1 = 0 ∧ Below w.heap.size w w')
def LN12 : List Int := [-1, 0, 1, 2, 3, 8, 9, 255, 256, 511, 512, 4096, 4097, 1099511627776]
def LS12 : List ByteArray := [⟨#[]⟩, ⟨#[97]⟩, ⟨#[95]⟩, ⟨#[122, 57, 95]⟩, ⟨#[57]⟩, ⟨#[97, 65]⟩, ⟨#[97, 45, 98]⟩, ⟨#[97, 255]⟩, ⟨#[97, 98, 99, 100, 101, 102, 103, 104, 105, 106, 107, 108]⟩, ⟨#[97, 98, 99, 100, 101, 102, 103, 104, 105, 106, 107, 108, 109]⟩]
theorem LS12_few : ∀ s ∈ LS12, s.size ≤ 140737488351232 := by
  intro s hs
  simp only [LS12, List.mem_cons, List.not_mem_nil, or_false] at hs
  rcases hs with rfl | rfl | rfl | rfl | rfl | rfl | rfl | rfl | rfl | rfl <;> exact Nat.le_of_ble_eq_true rfl
theorem ln12_in : ∀ z ∈ LN12, In64 z := by
  intro z hz
  simp only [LN12, List.mem_cons, List.not_mem_nil, or_false] at hz
  rcases hz with rfl | rfl | rfl | rfl | rfl | rfl | rfl | rfl | rfl | rfl | rfl | rfl | rfl | rfl <;> (unfold In64; omega)
end Go.Proofs.YtebcfiifaclniaaGreat
