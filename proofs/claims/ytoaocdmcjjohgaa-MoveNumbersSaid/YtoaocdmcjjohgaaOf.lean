/- The runs of a table, by the program. -/
import Derived.Test.YtoaocdmcjjohgaaLow9
import Derived.Test.YtoaocdmcjjohgaaRtc
import Derived.Test.YtoaocdmcjjohgaaLow4
import Derived.Test.YtoaocdmcjjohgaaLow3
import Derived.Great.BuildSlice
import Derived.Test.YtoaocdmcjjohgaaLow6
namespace Go.Proofs.Ytoaocdmcjjohgaa
open Go.RowKit Tab
set_option linter.unusedSimpArgs false
set_option linter.unusedVariables false

theorem Cur.belowB {w w' : World} {b B : Nat} {A : Option Addr} {n cap : Nat} {l : List Nd} {td : List Rn} {tk gn : Nat} (h : Cur w b A n cap l td tk gn) (hb : Below B w w') (hlt : b < B) : Cur w' b A n cap l td tk gn := by
  obtain ⟨c, st, p, hB, r⟩ := h.ex
  exact ⟨⟨⟨h.tb.rd.len, h.tb.rd.rd.keep fun q hq => World.cell?_of_block (hb.block q.block (by omega)), h.tb.rd.bd⟩, h.tb.cap, h.tb.hn⟩, ⟨c, st, p, hB.keep (hb.block b hlt), r⟩, h.low, h.low0, h.sum, h.pos⟩
/-- It answers a row of runs, new, and no refusal; if it is too long, that. -/
def OfR (T : List Rn) (w : World) (e : Ending) (w' : World) : Prop :=
  if 96 < T.length then Ans (.tuple #[.slice none 0 0, .int .i64 3]) w e w' else
    ∃ A c, e = .returned (.tuple #[.slice A T.length c, .int .i64 0]) ∧ RdR w' w'.heap.size A T.length T ∧ T.length ≤ c ∧ Below w.heap.size w w' ∧ ∀ ad, A = some ad → w.heap.size ≤ ad.block
end Go.Proofs.Ytoaocdmcjjohgaa
