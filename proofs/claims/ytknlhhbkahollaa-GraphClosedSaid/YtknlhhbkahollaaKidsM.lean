/- The places of a node's children: what both answers lean on. -/
import Derived.Test.YtknlhhbkahollaaLow1
namespace Go.Proofs.Ytknlhhbkahollaa
open Go.RowKit Tab
set_option linter.unusedSimpArgs false
set_option linter.unusedVariables false

/-- Tables behind one another end where the node's does. -/
theorem pos_fit {l : List Nd} {a : Nat} (h : size l (a : Int) ≠ 0) : ∃ x, l[a]? = some x ∧ fine x = true ∧ ∀ j, j ≤ kn x → pos l (a + 1) j ≤ l.length := by
  obtain ⟨x, k, t, hok, _, h2, h3, h4⟩ := size_tree h
  rw [Int.toNat_natCast] at h3
  have hd : l.drop (a + 1) = k.flat ++ t := by
    rw [← List.drop_drop, h3]
    rfl
  refine ⟨x, ?_, hok.1, fun j hj => (pos_dr hok.2.2.1 hd (by omega) j (by rw [hok.2.1]; exact hj)).2.2.2⟩
  have : (l.drop a)[0]? = some x := by rw [h3]; rfl
  simpa using this
theorem kids_none (l : List Nd) (a : Int) (h : size l a = 0) : kids l a = [] := by unfold kids; rw [if_pos h]
theorem madeI_nil (w w' : World) (hb : Below w.heap.size w w') : MadeI [] w (.returned (.slice none 0 0)) w' := ⟨none, 0, 0, rfl, ⟨rfl, RdV.nil⟩, Nat.le_refl _, hb⟩
end Go.Proofs.Ytknlhhbkahollaa
