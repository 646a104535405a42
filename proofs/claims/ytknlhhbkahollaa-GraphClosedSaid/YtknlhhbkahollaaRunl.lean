/- Rows of runs beside a cursor. -/
import Derived.Test.YtknlhhbkahollaaLow2
import Derived.Test.YtknlhhbkahollaaRdeep
import Derived.Test.YtknlhhbkahollaaRight
import Derived.Test.YtknlhhbkahollaaCur
import Derived.Test.YtknlhhbkahollaaReset
import Derived.Great.BuildSlice
namespace Go.Proofs.Ytknlhhbkahollaa
open Go.RowKit Tab
set_option linter.unusedSimpArgs false
set_option linter.unusedVariables false

theorem RdR.at_gb {w w' : World} {b n : Nat} {A : Option Addr} {L : List Rn} (h : RdR w w.heap.size A n L) (hg : w.grownBy w' (some b)) (hf : ∀ ad, A = some ad → ad.block ≠ b) {i : Nat} (hi : i < n) : ∃ (ad : Addr) (r : Rn), A = some ad ∧ L[i]? = some r ∧
    w'.cell? (ad.add (i * 2)) = some (.int .i64 r.p) ∧ w'.cell? ⟨(ad.add (i * 2)).block, (ad.add (i * 2)).off + 1, none⟩ = some (.int .i64 (r.n : Int)) := by
  obtain ⟨ad, r, rfl, hlt, hr, c0, c1⟩ := h.at_ hi
  have hk : w'.heap[ad.block]? = w.heap[ad.block]? := hg.block _ hlt (fun e => by injection e with e; exact hf ad rfl e)
  exact ⟨ad, r, rfl, hr, (World.cell?_of_block (by rw [add_block]; exact hk)).trans c0, (World.cell?_of_block (a := ⟨(ad.add (i * 2)).block, (ad.add (i * 2)).off + 1, none⟩) (by rw [add_block]; exact hk)).trans c1⟩
theorem take_more {L : List Rn} {i : Nat} {r : Rn} (h : L[i]? = some r) : ticks (L.take (i + 1)) = ticks (L.take i) + r.n := by
  obtain ⟨hi, e⟩ := List.getElem?_eq_some_iff.1 h
  rw [List.take_succ_eq_append_getElem hi, ticks_append, e]
  simp [ticks]
theorem drop_more {L : List Rn} {i : Nat} {r : Rn} (h : L[i]? = some r) : L.drop i = r :: L.drop (i + 1) := by
  obtain ⟨hi, e⟩ := List.getElem?_eq_some_iff.1 h
  rw [List.drop_eq_getElem_cons hi, e]
theorem take_ticks (L : List Rn) (i : Nat) : ticks (L.take i) ≤ ticks L := by
  have := ticks_append (L.take i) (L.drop i)
  rw [List.take_append_drop] at this
  omega
end Go.Proofs.Ytknlhhbkahollaa
