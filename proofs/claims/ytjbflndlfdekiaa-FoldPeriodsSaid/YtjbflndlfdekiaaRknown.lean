/- Chapter 5's runs. -/
import Derived.Test.YtjbflndlfdekiaaOf
namespace Go.Proofs.Ytjbflndlfdekiaa
open Go.RowKit Tab
set_option linter.unusedSimpArgs false
set_option linter.unusedVariables false

theorem rv_eql (x y : Int) (W : World) : (binOp .eql 41 (rv x y) (rv x y)).run Try.prog W = .ok (.bool true) W := by
  simp [run_eql_struct, go_sem]
theorem RdR.lit (w : World) (C : Array Value) (L : List Rn) (m : Nat) (hl : L.length = m) (hC : C.toList = rs L) : RdR (w.alloc (.cells C 41)) (w.alloc (.cells C 41)).heap.size (some ⟨w.heap.size, 0, none⟩) m L :=
  ⟨hl, rdV_new w C 41 (rs L) hC⟩
theorem RdN.lit (w : World) (C : Array Value) (l : List Nd) (m : Nat) (hl : l.length = m) (hC : C.toList = ns l) (hb : ∀ x ∈ l, NdIn x) : RdN (w.alloc (.cells C 53)) (w.alloc (.cells C 53)).heap.size (some ⟨w.heap.size, 0, none⟩) m l :=
  ⟨hl, rdV_new w C 53 (ns l) hC, hb⟩
theorem RdR.first {w : World} {B n : Nat} {A : Option Addr} {r : Rn} {L : List Rn} (h : RdR w B A n (r :: L)) : ∃ ad, A = some ad ∧ ad.block < B ∧ w.cell? ad = some (.int .i64 r.p) ∧ w.cell? ⟨ad.block, ad.off + 1, none⟩ = some (.int .i64 (r.n : Int)) := by
  have hn : 0 < n := by rw [← h.len]; simp
  obtain ⟨ad, r', rfl, hb, hr, c0, c1⟩ := h.at_ hn
  have e : ad.add (0 * 2) = ad := by unfold Addr.add; simp
  rw [e] at c0 c1
  simp at hr
  subst hr
  exact ⟨ad, rfl, hb, c0, c1⟩
end Go.Proofs.Ytjbflndlfdekiaa
