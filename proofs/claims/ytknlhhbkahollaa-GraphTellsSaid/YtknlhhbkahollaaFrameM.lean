/- A matrix of bools among a law's arguments. -/
import Derived.Test.YtknlhhbkahollaaLow2
import Derived.Deep.Grids
namespace Go.Proofs.Ytknlhhbkahollaa
open Go.ChangeShapes Go.WideShapes Go.ChangeAt Go.RowKit Go.Deep Tab

theorem bools2_view {H : Type} {enc : TypeId × Value → H} {W : World} {A : Option Addr} {n k : Nat} {d : DataW H} {p : List MemPlace}
    (h : DataW.Trod enc Try.prog W 0 (fun _ => true) true 38 (.slice A n k) d p) : ∃ (l : Nat → Nat) (m : Nat → Nat → Bool), RdM W W.heap.size A n l m ∧ n ≤ k ∧ k ≤ maxLen ∧ ∀ j, j < n → l j ≤ maxLen := by
  obtain ⟨fuel, hf⟩ := h
  rcases open_bool_rows Try.underlying38 Try.underlying40 Try.underlying4 (by kernel_rfl) (by kernel_rfl) hf with ⟨hcs, _⟩ | ⟨a, len, cap, R, L, C, B, hcs, hb, hl, hm, hx, hi⟩
  · simp [Value.cells] at hcs
    obtain ⟨rfl, rfl, rfl⟩ := hcs
    exact ⟨fun _ => 0, fun _ _ => false, RdM.none _ _ _ _, Nat.le_refl _, Nat.zero_le _, fun j h => by omega⟩
  · simp [Value.cells] at hcs
    obtain ⟨rfl, rfl, rfl⟩ := hcs
    refine ⟨L, B, ⟨fun r => (R r, C r), fun h0 => ⟨a, rfl, ?_, fun j hj => (hi j (by omega)).1⟩, fun r hr => ?_⟩, hl, hm, fun j hj => ?_⟩
    · have h1 := World.block_lt_of_cell? W _ (hi 0 (by omega)).1
      rw [Go.Proofs.Ytknlhhbkahollaa.add_block] at h1
      exact h1
    · obtain ⟨_, h2, _, h4, h5⟩ := hi r (by omega)
      refine ⟨h2, fun h0 => ?_⟩
      dsimp only at h0 ⊢
      cases hR : R r with
      | none => have := h4 hR; omega
      | some a' =>
        obtain ⟨_, h6⟩ := h5 a' hR
        refine ⟨a', rfl, ?_, fun c hc => h6 c (by omega)⟩
        have h1 := World.block_lt_of_cell? W _ (h6 0 (by omega))
        rw [Go.Proofs.Ytknlhhbkahollaa.add_block] at h1
        exact h1
    · obtain ⟨_, h2, h3, _⟩ := hi j (by omega)
      omega
end Go.Proofs.Ytknlhhbkahollaa
