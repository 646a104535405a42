/- A cursor in memory: back to the beginning. -/
import Derived.Test.YtknlhhbkahollaaCur
import Derived.Deep.RegionWith
namespace Go.Proofs.Ytknlhhbkahollaa
open Go.RowKit Tab
set_option linter.unusedSimpArgs false
set_option linter.unusedVariables false

/-- Noughts from cell o on, so many. -/
def zr (c : Nat → Value) (o m : Nat) : Nat → Value := fun j => if o ≤ j ∧ j < o + m then .int .i64 0 else c j
theorem zr_in {c : Nat → Value} {o m j : Nat} (h : o ≤ j ∧ j < o + m) : zr c o m j = .int .i64 0 := if_pos h
theorem zr_out {c : Nat → Value} {o m j : Nat} (h : ¬ (o ≤ j ∧ j < o + m)) : zr c o m j = c j := if_neg h
theorem zr_step (c : Nat → Value) (o m : Nat) : zr (upd c o (.int .i64 0)) (o + 1) m = zr c o (m + 1) := by
  funext j
  by_cases h1 : o + 1 ≤ j ∧ j < o + 1 + m
  · rw [zr_in h1, zr_in (by omega)]
  · rw [zr_out h1]
    by_cases h2 : j = o
    · subst h2
      rw [upd_same, zr_in (by omega)]
    · rw [upd_other h2, zr_out (by omega)]
theorem run_zeros (b m : Nat) : ∀ (i : Nat) (c : Nat → Value) (a w : World), Blk w b c → 1 + i + m ≤ 37 → a.grownBy w (some b) → ∃ w', (storeCells ⟨b, 1, none⟩ (List.replicate m (.int .i64 0)) i).run Try.prog w = .ok () w' ∧ Blk w' b (zr c (1 + i) m) ∧ a.grownBy w' (some b) := by
  induction m with
  | zero =>
    intro i c a w h hi hg
    refine ⟨w, rfl, ?_, hg⟩
    have : zr c (1 + i) 0 = c := by
      funext j
      exact zr_out (by omega)
    rw [this]
    exact h
  | succ m ih =>
    intro i c a w h hi hg
    have hadd : (⟨b, 1, none⟩ : Addr).add i = ⟨b, 1 + i, none⟩ := by unfold Addr.add; split <;> simp_all
    obtain ⟨w', h1, h2, h3⟩ := ih (i + 1) _ a _ (h.set (i := 1 + i) (by omega) (.int .i64 0)) (by omega) (gb_set hg _ _)
    refine ⟨w', ?_, ?_, h3⟩
    · rw [List.replicate_succ]
      have hst : (store ((⟨b, 1, none⟩ : Addr).add i) (.int .i64 0)).run Try.prog w = .ok () (w.setCell ⟨b, 1 + i, none⟩ (.int .i64 0)) := by
        rw [hadd, run_store Try.prog w _ _ _ rfl, (h (1 + i) (by omega)).1, (h (1 + i) (by omega)).2]
        rfl
      simp only [storeCells, Sem.run_bind, hst, Result.andThen_ok]
      exact h1
    · rw [← zr_step, show 1 + i + 1 = 1 + (i + 1) by omega]
      exact h2
/-- A cursor goes on in block b alone, of those that were there. -/
theorem Cur.gb {w w' : World} {b b' : Nat} {A : Option Addr} {n cap : Nat} {l : List Nd} {td : List Rn} {tk gn : Nat} (h : Cur w b A n cap l td tk gn) (hg : w.grownBy w' (some b')) (hb : b < b') : Cur w' b A n cap l td tk gn := by
  obtain ⟨c, st, p, hB, r⟩ := h.ex
  have hlt := hB.lt
  exact ⟨⟨⟨h.tb.rd.len, h.tb.rd.rd.keep fun q hq => World.cell?_of_block (hg.block q.block (by omega) (fun e => by injection e with e; omega)), h.tb.rd.bd⟩, h.tb.cap, h.tb.hn⟩, ⟨c, st, p, hB.keep (hg.block b hlt (fun e => by injection e with e; omega)), r⟩, h.low, h.low0, h.sum, h.pos⟩
theorem gb_bl {a w w' : World} {x : Option Nat} (h : a.grownBy w x) (k : Below w.heap.size w w') : a.grownBy w' x := gb_below h k h.size
end Go.Proofs.Ytknlhhbkahollaa
