/- A slice of integers among a law's arguments. -/
import Derived.Test.YtgoeikihjffeoaaGreatLow2
import Derived.ProofKit
import Derived.OpenShut
import Derived.ChangeOld
import Derived.SizedLaws
import Derived.Deep.CondSized
import Derived.JoinedCond
import Derived.Deep.Strs
namespace Go.Proofs.YtgoeikihjffeoaaGreat
open Go.ChangeShapes Go.WideShapes Go.ChangeAt Go.RowKit Go.Deep

theorem own : ownKnob Tryz.prog.godebug = none := by kernel_rfl
theorem laidOut : laidOutB Tryz.prog = true := by kernel_rfl
theorem ints_view {H : Type} {enc : TypeId × Value → H} {W : World} {A : Option Addr} {n k : Nat} {d : DataW H} {p : List MemPlace}
    (h : DataW.Trod enc Tryz.prog W 0 (fun _ => true) true 28 (.slice A n k) d p) :
    ∃ f : Nat → Int, RdC W W.heap.size A n (fun j => .int .i64 (f j)) ∧ n ≤ k ∧ (∀ j, j < n → (Lit.int .i64 (f j)).wf = true) ∧ (k = 0 ∨ ∃ elems spare, d = .slice elems spare ∧ elems.length + spare.length = k) := by
  obtain ⟨fuel, hf⟩ := h
  rcases open_ints Tryz.underlying28 Tryz.underlying3 (by kernel_rfl) hf with ⟨hcs, _⟩ | ⟨x, l, c, zs, hcs, _, hl, hm, hz, hx, hcell, hwz⟩
  · simp [Value.cells] at hcs
    obtain ⟨rfl, rfl, rfl⟩ := hcs
    exact ⟨fun _ => 0, fun h => absurd h (by omega), Nat.le_refl _, fun j h => absurd h (by omega), .inl rfl⟩
  · simp [Value.cells] at hcs
    obtain ⟨rfl, rfl, rfl⟩ := hcs
    have hz' : zs.length = k := by simpa using hz
    refine ⟨fun j => zs.getD j 0, fun h0 => ⟨x, rfl, ?_, fun j hj => hcell j (by omega)⟩, hl, fun j hj => ?_, .inr ⟨_, _, (Prod.mk.inj hx).1, ?_⟩⟩
    · have h1 := hcell 0 (by omega)
      have h2 := World.block_lt_of_cell? W _ h1
      have e1 : (x.add 0).block = x.block := by unfold Addr.add; split <;> rfl
      rw [← e1]; exact h2
    · have : j < zs.length := by omega
      simp only [List.getD, List.getElem?_eq_getElem this, Option.getD_some]
      exact hwz _ (List.getElem_mem this)
    · simp [lits]; omega
theorem ints_sized {H : Type} {enc : TypeId × Value → H} {W : World} {A : Option Addr} {n k : Nat} {d : DataW H} {p : List MemPlace}
    (h : DataW.Trod enc Tryz.prog W 0 (fun _ => true) true 28 (.slice A n k) d p)
    (hs : ∀ elems spare, d = .slice elems spare → (elems.length + spare.length) * Tryz.prog.bytesOf 3 ≤ reachBytes) :
    ∃ f : Nat → Int, RdC W W.heap.size A n (fun j => .int .i64 (f j)) ∧ n ≤ k ∧ k ≤ 140737488351232 ∧ ∀ j, j < n → (Lit.int .i64 (f j)).wf = true := by
  obtain ⟨f, h1, h2, h4, h3⟩ := ints_view h
  refine ⟨f, h1, h2, ?_, h4⟩
  rcases h3 with h3 | ⟨elems, spare, hd, hk⟩
  · omega
  · have := hs elems spare hd
    have e : Tryz.prog.bytesOf 3 = 8 := by kernel_rfl
    rw [e, hk] at this
    simp only [reachBytes] at this
    omega
end Go.Proofs.YtgoeikihjffeoaaGreat
