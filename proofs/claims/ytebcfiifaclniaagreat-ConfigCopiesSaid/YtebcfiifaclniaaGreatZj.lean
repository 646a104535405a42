/- What package config answers: Where, Right, Name, Same, Copy. -/
import Derived.Test.YtebcfiifaclniaaGreatZi
import Derived.Test.YtebcfiifaclniaaGreatYg
namespace Go.Proofs.YtebcfiifaclniaaGreat
open Go.RowKit Tab

theorem configW : ConfigW where
  where_ := fun x w h => cwhere_any x.A1 x.A2 x.A3 x.n1 x.n2 x.n3 x.c1 x.c2 x.c3 x.P x.C x.T w h.pp h.ch h.tb (fun y hy => (h.pt y hy).1) h.tt h.k1
  right := fun x w h => cfright_any x.A1 x.A2 x.A3 x.n1 x.n2 x.n3 x.c1 x.c2 x.c3 x.P x.C x.T w h.pp h.ch h.tb (fun y hy => (h.pt y hy).1) h.tt h.k1
  name := fun s w h => nm_any s w h
  same := fun x y w hx hy => csame_any x y w hx hy
  copy := fun x w h => ccopy_any x w h
end Go.Proofs.YtebcfiifaclniaaGreat
