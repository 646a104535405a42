/- Of a raw configuration no more than some. -/
import Derived.Test.YtebcfiifaclniaaGreatYg
import Derived.Test.YtebcfiifaclniaaGreatLow7
namespace Go.Proofs.YtebcfiifaclniaaGreat
open Go.RowKit Tab
set_option linter.unusedSimpArgs false
set_option linter.unusedVariables false

theorem flat_take {α : Type} {f : α → List Value} {s : Nat} (hf : ∀ x, (f x).length = s) (l : List α) (k : Nat) : (l.take k).flatMap f = (l.flatMap f).take (k * s) := by
  induction l generalizing k with
  | nil => simp
  | cons x l ih =>
    cases k with
    | zero => simp
    | succ k =>
      rw [List.take_succ_cons, List.flatMap_cons, List.flatMap_cons, ih, List.take_append, hf, Nat.succ_mul, List.take_of_length_le (l := f x) (by rw [hf]; omega)]
      congr 2
      omega
theorem RdV.take {w : World} {B : Nat} {A : Option Addr} {l : List Value} (h : RdV w B A l) (k : Nat) : RdV w B A (l.take k) := fun hl => by
  obtain ⟨ad, e, hb, hc⟩ := h (by rw [List.length_take] at hl; omega)
  refine ⟨ad, e, hb, fun j v hj => hc j v ?_⟩
  rw [List.getElem?_take] at hj
  split at hj
  · exact hj
  · cases hj
theorem RdB.take {α : Type} {f : α → List Value} {s : Nat} {w : World} {B n k : Nat} {A : Option Addr} {l : List α} (h : RdB f w B A n l) (hf : ∀ x, (f x).length = s) (hk : k ≤ n) : RdB f w B A k (l.take k) :=
  ⟨by rw [List.length_take, h.len]; omega, by rw [flat_take hf]; exact h.rd.take _⟩
/-- No more than some. -/
def fewX (x : Cf) : Cf := ⟨x.A1, x.A2, x.A3, min x.n1 8, min x.n2 12, min x.n3 5, x.c1, x.c2, x.c3, x.P.take (min x.n1 8), x.C.take (min x.n2 12), x.T.take (min x.n3 5)⟩
theorem CfR.few {w : World} {x : Cf} (h : CfR w x) : CfR w (fewX x) := by
  have k1 := h.k1
  have k2 := h.k2
  have k3 := h.k3
  have m1 := h.m1
  have m2 := h.m2
  have m3 := h.m3
  have z := h.z
  exact ⟨h.pp.take pcq_len (Nat.min_le_left _ _), h.ch.take cc_len (Nat.min_le_left _ _), h.tb.take tcn_len (Nat.min_le_left _ _), fun y hy => h.pt y (List.mem_of_mem_take hy), fun y hy => h.tt y (List.mem_of_mem_take hy), by show min x.n1 8 ≤ x.c1; omega, by show min x.n2 12 ≤ x.c2; omega, by show min x.n3 5 ≤ x.c3; omega, by show min x.n1 8 ≤ _; omega, by show min x.n2 12 ≤ _; omega, by show min x.n3 5 ≤ _; omega, by have := z.1; show min x.n1 8 * 104 ≤ _; omega, by have := z.2.1; show min x.n2 12 * 48 ≤ _; omega, by have := z.2.2.1; show min x.n3 5 * 24 ≤ _; omega, fun y hy => z.2.2.2.1 y (List.mem_of_mem_take hy), fun y hy => z.2.2.2.2 y (List.mem_of_mem_take hy)⟩
end Go.Proofs.YtebcfiifaclniaaGreat
