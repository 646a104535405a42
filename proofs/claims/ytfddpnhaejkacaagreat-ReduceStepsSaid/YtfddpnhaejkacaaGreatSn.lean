import Derived.Test.YtfddpnhaejkacaaGreatCfg
import Derived.Test.YtfddpnhaejkacaaGreatLow8
import Derived.Test.YtfddpnhaejkacaaGreatSm
import Derived.Test.YtfddpnhaejkacaaGreatLow12
set_option linter.unusedSimpArgs false
set_option linter.unusedVariables false
namespace Go.Proofs.YtfddpnhaejkacaaGreat
open Go.RowKit Tab
def CfgY (w:World) (e:Ending) (w':World):Prop :=
 ∃(A1 A2 A3:Option Addr) (n1 n2 n3 c1 c2 c3:Nat) (P:List PtV) (C:List ChV) (T:List TbV),e=.returned (.agg #[.slice A1 n1 c1,.slice A2 n2 c2,.slice A3 n3 c3])∧CfW w' w'.heap.size A1 A2 n1 n2 P C∧1≤n1∧n1≤4∧n2≤3∧n1≤c1∧n2≤c2 ∧
  RdB tcl w' w'.heap.size A3 n3 T∧(∀ t∈T,TbAt w' w'.heap.size t∧Frame t∧holdsF (wordsL (rowF t)) P C=0)∧1≤n3∧n3≤2∧n3≤c3∧(∀ x∈P,In64 x.per)∧Below w.heap.size w w'
theorem config_boxy (A:Option Addr) (n cap:Nat) (f:Nat→Int) (w:World) (h:RdC w w.heap.size A n fun j=>.int .i64 (f j)) (hn:n≤140737488351232) :
  Calls Tryz.prog 9 #[.pointer (some ⟨w.heap.size,0,none⟩)] (w.alloc (.cells #[.slice A n cap,.int .i64 0] 26)) (CfgY w):=by
 refine(config_anyx w.heap.size w.heap.size A n cap f hn 0 _ (tape_boxed A n cap f w h)).mono ?_
 rintro e w1 ⟨A1,A2,A3,n1,n2,n3,c1,c2,c3,P,C,T,at',rfl,hCf,q1,q2,q3,q4,q5,hco,hT,hTt,q6,q7,q8,_,G1,hper,hlo,hso,_,_,_⟩
 exact⟨A1,A2,A3,n1,n2,n3,c1,c2,c3,P,C,T,rfl,hCf,q1,q2,q3,q4,q5,hT,fun t ht=>⟨(hTt t ht).1,(hTt t ht).2,holdsF_ok (by
  rw[List.any_eq_false]
  intro x hx
  rw[hlo x hx t ht]
  decide) (shortF_iff.2 fun k x hx=>hso k x hx t ht)⟩,q6,q7,q8,hper,gb_boxed G1⟩
theorem told_t {w:World} {P:List PtV} {C:List ChV} {t:TbV} (ht:TbAt w w.heap.size t) (hf:Frame t) (hk:holdsF (wordsL (rowF t)) P C=0):∃ now Z r,Told P C (t.x::t.k.flat) (rowF t) now Z r :=
 told ht.ok rfl (by rw[ht.rd.len];exact hf.1) hk
set_option maxRecDepth 100000 in
theorem Told.rof {P:List PtV} {C:List ChV} {t now:List Nd} {X Z:List Rn} {r:Rep} (h:Told P C t X now Z r) (A:Option Addr) (n c:Nat) (w:World) (hr:RdN w w.heap.size A n now) (hc:n≤c) (hn:n≤1048576) :
  Calls Tryz.prog 17 #[.slice A n c] w (OfG 0 Z w):=by
 obtain⟨x,k,e,hok,h1,h2⟩:=h.tbl
 subst e
 have hl:=hr.len
 subst hl
 have h3:=rof_any A _ c x k w hr hc hok hn
 rw[h1,h2] at h3
 exact h3
set_option maxRecDepth 100000 in
theorem Told.pof {P:List PtV} {C:List ChV} {t now:List Nd} {X Z:List Rn} {r:Rep} (h:Told P C t X now Z r) (A:Option Addr) (n c:Nat) (w:World) (hr:RdN w w.heap.size A n now) (hc:n≤c) (hn:n≤1048576) :
  Calls Tryz.prog 41 #[.slice A n c] w (OfG 0 Z w):=by
 obtain⟨x,k,e,hok,h1,h2⟩:=h.tbl
 subst e
 have hl:=hr.len
 subst hl
 have h3:=of_any A _ c x k w hr hc hok hn
 rw[h1,h2] at h3
 exact h3
set_option maxRecDepth 100000 in
theorem tb_of {w:World} {t:TbV} (ht:TbAt w w.heap.size t) (hf:Frame t):Calls Tryz.prog 41 #[.slice t.A t.n t.c] w (OfG 0 (rowF t) w):=by
 have h3:=of_any t.A t.n t.c t.x t.k w ht.rd ht.cap ht.ok ht.few
 rw[hf.1] at h3
 exact h3
set_option maxRecDepth 100000 in
theorem tb_rof {w:World} {t:TbV} (ht:TbAt w w.heap.size t) (hf:Frame t):Calls Tryz.prog 17 #[.slice t.A t.n t.c] w (OfG 0 (rowF t) w):=by
 have h3:=rof_any t.A t.n t.c t.x t.k w ht.rd ht.cap ht.ok ht.few
 rw[hf.1] at h3
 exact h3
end Go.Proofs.YtfddpnhaejkacaaGreat
