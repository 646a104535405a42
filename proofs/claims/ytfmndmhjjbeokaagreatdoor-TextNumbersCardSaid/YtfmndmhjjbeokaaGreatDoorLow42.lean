import Derived.Test.YtfmndmhjjbeokaaGreatDoorLow41
import Derived.Laws.IdiomStrings
set_option maxRecDepth 100000
set_option linter.unusedSimpArgs false
set_option linter.unusedVariables false
namespace Go.Proofs.YtfmndmhjjbeokaaGreatDoor
open Go.RowKit Tab Txt
def ByF(w:World)(g:Nat)(l:List UInt8):Prop:=∀(j:Nat) (hj:j < l.length),w.cell? ⟨g,j,none⟩=some (.int .u8 (l[j].toNat:Int))
theorem ByF.on{w w':World}{g:Nat}{l:List UInt8}(h:ByF w g l)(hb:Below w.heap.size w w'):ByF w' g l:=fun j hj=>(hb.cell (Bj _ _ (h j hj))).trans (h j hj)
theorem ByF.set{w:World}{g:Nat}{l:List UInt8}(h:ByF w g l)(i:Nat)(hi:i < l.length)(b:UInt8):ByF (w.setCell ⟨g,i,none⟩ (.int .u8 (b.toNat:Int))) g (l.set i b):=fun j hj=>by
 have aA:j < l.length:=by simpa using hj
 by_cases e:i=j
 ·subst e
  rw[Ci _ _ _ (h i hi)]
  simp
 ·rw[Cg _ _ _ _ (fun e2=>e (by injection e2)),h j aA,List.getElem_set_ne e]
theorem Uj(s:List UInt8)(w:World):∃(c:Nat) (w':World),(convert 9 38 (.string (bsOf s))).run Tryz.prog w=.ok (.slice (some ⟨w.heap.size,0,none⟩) s.length c) w'/\Below w.heap.size w w'/\ByF w' w.heap.size s/\(∀ j,j < s.length->w'.frozen? ⟨w.heap.size,j,none⟩=false)/\w.heap.size < w'.heap.size:=by
 refine⟨_,_,run_bytes_of_string w _ _ 5 (bsOf s) Tryz.underlying9 Tryz.underlying38 Tryz.underlying5,?_,?_,?_,?_⟩
 ·exact(Aj _ _).drew.alloc (Ag _) _
 ·intro j hj;have e:(w.drew.alloc (.cells (bytesRow (bsOf s) (grownCap w (bsOf s).size 0 5)) 5 ((bytesRow (bsOf s) (grownCap w (bsOf s).size 0 5)).size,(bytesRow (bsOf s) (grownCap w (bsOf s).size 0 5)).size+1))).cell? ⟨w.heap.size,j,none⟩=(bytesRow (bsOf s) (grownCap w (bsOf s).size 0 5))[j]?:=Ab _ _ _ _ _;rw[e];unfold bytesRow;have hs:j < (bsOf s).data.size:=by show j < s.toArray.size;simpa using hj
  rw[Array.getElem?_append_left (by simpa using hs)];simp[bsOf,hj]
 ·intro j hj;have hs:j < (bytesRow (bsOf s) (grownCap w (bsOf s).size 0 5)).size:=by
   unfold bytesRow;have hs:j < (bsOf s).data.size:=by show j < s.toArray.size;simpa using hj
   rw[Array.size_append,Array.size_map];omega
  have e:(w.drew.alloc (.cells (bytesRow (bsOf s) (grownCap w (bsOf s).size 0 5)) 5 ((bytesRow (bsOf s) (grownCap w (bsOf s).size 0 5)).size,(bytesRow (bsOf s) (grownCap w (bsOf s).size 0 5)).size+1))).heap[w.heap.size]? = some (.cells (bytesRow (bsOf s) (grownCap w (bsOf s).size 0 5)) 5 ((bytesRow (bsOf s) (grownCap w (bsOf s).size 0 5)).size,(bytesRow (bsOf s) (grownCap w (bsOf s).size 0 5)).size+1)):=by
   show (w.heap.push _)[w.heap.size]? = _;simp
  unfold World.frozen?;dsimp only;rw[e];dsimp only;simp;omega
 show w.heap.size < (w.heap.push _).size;simp
theorem Pa{ops:Array Oper}{aA:List Oper}{o:Oper}{a:Act}{Q:Exit->Act->World->Prop}{w:World}(aC:o.guard=none)(x:Operand)(ho:o.op=.convert 9 38 x)(s:List UInt8)(sv:ByteArray)(hx:a.eval x=.string sv)(hs:sv=bsOf s)(n:Nat)(hn:s.length=n)
  (hK:∀ c w',Below w.heap.size w w'->ByF w' w.heap.size s->(∀ j,j < s.length->w'.frozen? ⟨w.heap.size,j,none⟩=false)->w.heap.size < w'.heap.size->wpList Tryz.prog ops Q aA (a.put o.dst (.slice (some ⟨w.heap.size,0,none⟩) n c)) w'):wpList Tryz.prog ops Q (o::aA) a w:=by
 subst hs;subst hn;refine wpList_plain aC fun K hk=>?_;obtain⟨c,w',aB,h1,h2,h3,h4⟩:=Uj s w;unfold Oper.wp;simp[execOp,ho,hx,aB,Result.andThen];exact hk _ _ (hK c w' h1 h2 h3 h4)
theorem Qs{ops:Array Oper}{aA:List Oper}{o:Oper}{a:Act}{Q:Exit->Act->World->Prop}{w:World}(aC:Region.wanted o (yielded ops a.tmps)=true)(x:Operand)(ho:o.op=.convert 38 9 x)(g n c:Nat)(l:List UInt8)(hx:a.eval x=.slice (some ⟨g,0,none⟩) n c)(hn:l.length=n)(hb:ByF w g l)
  (hK:wpList Tryz.prog ops Q aA (a.put o.dst (.string (bsOf l))) w):wpList Tryz.prog ops Q (o::aA) a w:=by
 subst hn;refine wpList_step fun K hk=>?_;rw[if_pos aC];have aB:(convert 38 9 (.slice (some ⟨g,0,none⟩) l.length c)).run Tryz.prog w=.ok (.string (bsOf l)) w :=
  run_convert_bytes_back w 38 9 5 ⟨g,0,none⟩ c l Tryz.underlying38 Tryz.underlying5 Tryz.underlying9 fun j hj=>by
   rw[Jh];exact hb j hj
 unfold Oper.wp;simp[execOp,ho,hx,aB,Result.andThen];exact hk _ _ hK
def Z0:Value->Nat
 | .string s=>s.size
 | _=>0
