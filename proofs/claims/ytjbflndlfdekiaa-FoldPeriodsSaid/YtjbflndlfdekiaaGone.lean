/- What is gone of a cursor's ticks. -/
import Derived.Test.YtjbflndlfdekiaaReset
import Derived.Test.YtjbflndlfdekiaaLow3
import Derived.Great.BuildSlice
namespace Go.Proofs.Ytjbflndlfdekiaa
open Go.RowKit Tab
set_option linter.unusedSimpArgs false
set_option linter.unusedVariables false

def goneOf (w : World) (b : Nat) : Nat := match w.cell? ⟨b, 36, none⟩ with
  | some (.int _ z) => z.toNat
  | _ => 0
theorem goneOf_eq {w : World} {b : Nat} {A : Option Addr} {n cap : Nat} {l : List Nd} {td : List Rn} {tk gn : Nat} (h : Cur w b A n cap l td tk gn) : goneOf w b = gn := by
  obtain ⟨c, st, p, hB, _, _, _, _, e, _⟩ := h.ex
  unfold goneOf
  rw [(hB 36 (by omega)).1, e]
  simp
theorem below_gb {B b : Nat} {w w1 w2 : World} (h : Below B w w1) (hG : w1.grownBy w2 (some b)) (hB : B ≤ b) (hs : B ≤ w1.heap.size) : Below B w w2 :=
  ⟨hG.os.trans h.os, hG.tape.trans h.tape, hG.output.trans h.output, Nat.le_trans h.size hG.size, fun j hj => (hG.block j (by omega) (fun e => by injection e with e; omega)).trans (h.block j hj)⟩
end Go.Proofs.Ytjbflndlfdekiaa
