import Derived.Test.YtfddpnhaejkacaaGreatSm
import Derived.Test.YtfddpnhaejkacaaGreatLow12
set_option linter.unusedSimpArgs false
set_option linter.unusedVariables false
namespace Go.Proofs.YtfddpnhaejkacaaGreat
open Go.RowKit Tab
theorem ofg_bad {z:Int} (hz:¬ z=0) {w w':World} {e:Ending} (h:Ans (.tuple #[.slice none 0 0,.int .i64 z]) w e w'):OfG z [] w e w' :=
 ⟨none,0,0,h.1,Nat.le_refl _,fun h0=>absurd h0 hz,h.2⟩
theorem rn_ne (n:Nat):¬ rn n=0:=by unfold rn;split <;> omega
set_option maxRecDepth 100000 in
theorem raw_of (A:Option Addr) (n c:Nat) (l:List Nd) (w:World) (h:RdN w w.heap.size A n l) (hc:n≤c) (hn:n≤1048576) :
  ∃(z:Int) (X:List Rn),(z=0→Frm X X.length)∧(∀ V,Below w.heap.size w V→Calls Tryz.prog 41 #[.slice A n c] V (OfG z X V))∧(∀ V,Below w.heap.size w V→Calls Tryz.prog 17 #[.slice A n c] V (OfG z X V)):=by
 by_cases hw:wholeB l=true
 ·obtain⟨x,k,hok,rfl⟩:=whole_tree hw
  exact⟨_,_,fun hz=>frm_of_ofz hok hz,fun V hv=>of_any A n c x k V (h.on hv) hc hok hn,fun V hv=>rof_any A n c x k V (h.on hv) hc hok hn⟩
 ·have hw':wholeB l=false:=by simpa using hw
  exact⟨rn n,[],fun hz=>absurd hz (rn_ne n),fun V hv=>(of_wrong A n c V _ (right_none A n c l V (h.on hv) hc hn hw') (rn_ne n)).mono fun _ _ k=>ofg_bad (rn_ne n) k,
   fun V hv=>(rof_wrong A n c V _ (rright_none A n c l V (h.on hv) hc hn hw') (rn_ne n)).mono fun _ _ k=>ofg_bad (rn_ne n) k⟩
end Go.Proofs.YtfddpnhaejkacaaGreat
