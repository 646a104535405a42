/- What package move answers is what the document's own text does. -/
import Derived.Test.YtoaocdmcjjohgaaLow8
import Derived.Test.YtoaocdmcjjohgaaPk
namespace Go.Proofs.Ytoaocdmcjjohgaa
open Go.RowKit Tab
set_option linter.unusedSimpArgs false
set_option linter.unusedVariables false

theorem moveW : MoveW where
  may A A3 n c n3 c3 ps m I J rt w h hM hc hn h3 _ := may_any A A3 n c n3 c3 ps m I J rt w h hM hc (by omega) h3
  all A A3 n c n3 c3 ps m w h hM hc hn h3 _ := all_any A A3 n c n3 c3 ps m w h hM hc hn h3
  do_ A n c0 L I J rt w h hc hn ht := do_any A n c0 L I J rt w h hc (by omega) (by omega)
  fits A1 A2 A3 A n1 n2 n3 n c1 c2 c3 c P C L I J rt w hCf hL q1 q2 hc hn ht hz _ :=
    mfits_any A1 A2 A3 A n1 n2 n3 n c1 c2 c3 c P C (L.map Rn.p) (doZ L I J rt) I J rt w hCf hL.rdp q1 q2 hc (by omega) (by have h1 := doZ_len L I J rt; have h2 := hL.len; omega) (by rw [doZ_ticks]; exact ht) hz
      (fun _ W hb => do_any A n c L I J rt W (hL.on hb) hc (by omega) (by omega))
  known := known10_any
end Go.Proofs.Ytoaocdmcjjohgaa
