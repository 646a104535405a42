import Derived.Test.YtgoeikihjffeoaaGreatFrameN
import Derived.Test.YtgoeikihjffeoaaGreatLow1
import Derived.Deep.Slices
namespace Go.Proofs.YtgoeikihjffeoaaGreat
open Go.ChangeShapes Go.WideShapes Go.ChangeAt Go.RowKit Go.Deep Tab
def numOf:Option Value→Int
 | some (.int _ z)=>z
 | _=>0
def ndOf (W:World) (a:Addr) (i:Nat):Nd:=⟨numOf (W.cell? (a.add (i*3))),numOf (W.cell? (a.add (i*3+1))),numOf (W.cell? (a.add (i*3+2)))⟩
theorem ns_range (g:Nat→Nd) (n i:Nat) (hi:i < n):(ns ((List.range n).map g))[i*3]? = some (.int .i64 (g i).k)∧(ns ((List.range n).map g))[i*3+1]? = some (.int .i64 (g i).p)∧(ns ((List.range n).map g))[i*3+2]? = some (.int .i64 (g i).n):=by
 have:=ns_get ((List.range n).map g) i (by simpa using hi)
 simpa using this
theorem wf_in64 {z:Int} (h:(Lit.int .i64 z).wf=true):In64 z:=by
 obtain⟨h1,h2⟩:-9223372036854775808≤z∧z≤9223372036854775807:=by simpa using bounds_i64 h
 exact⟨h1,h2⟩
set_option maxRecDepth 100000 in
theorem nodes_view {H:Type} {enc:TypeId×Value→H} {W:World} {A:Option Addr} {n k:Nat} {d:DataW H} {p:List MemPlace}
  (h:DataW.Trod enc Tryz.prog W 0 (fun _=>true) true 54 (.slice A n k) d p):∃ l:List Nd,RdN W W.heap.size A n l∧n≤k:=by
 obtain⟨fuel,hf⟩:=h
 rcases open_slice Tryz.underlying54 hf with ⟨hcs,_⟩ | ⟨a,len,cap,m,q,D,Pl,hcs,hb,hl,hm,hmm,hx,hi⟩
 ·simp[Value.cells] at hcs
  obtain⟨rfl,rfl,rfl⟩:=hcs
  exact⟨[],⟨rfl,RdV.nil,fun _ h=>by cases h⟩,Nat.le_refl _⟩
 ·simp[Value.cells] at hcs
  obtain⟨rfl,rfl,rfl⟩:=hcs
  have hmc:m=k:=by rw[hmm];simp
  have key:∀ i,i < n→W.cell? (a.add (i*3))=some (.int .i64 (ndOf W a i).k)∧W.cell? (a.add (i*3+1))=some (.int .i64 (ndOf W a i).p)∧W.cell? (a.add (i*3+2))=some (.int .i64 (ndOf W a i).n)∧NdIn (ndOf W a i):=fun i hin=>by
   obtain⟨cs',h1,h2⟩:=hi i (by omega)
   rw[show Tryz.prog.cellsOf 53=3 by kernel_rfl] at h1
   obtain⟨_,hcl,hat⟩:=World.cells?_some h1
   obtain⟨ys,n',_,_,_,hyl,hfd⟩:=DataW.trod_struct Tryz.underlying53 h2
   have hat0:=hat 0 (by omega)
   have hat1:=hat 1 (by omega)
   have hat2:=hat 2 (by omega)
   rw[Go.Proofs.YtgoeikihjffeoaaGreat.add_add] at hat0 hat1 hat2
   match cs',hcl with
   | [v0,v1,v2],_ =>
    have f0:=hfd 0 _ rfl
    have f1:=hfd 1 _ rfl
    have f2:=hfd 2 _ rfl
    change DataW.trod enc Tryz.prog W 0 (fun _=>true) true n' 3 (List.take (Tryz.prog.cellsOf 3) [v0,v1,v2])=ys[0]? at f0
    change DataW.trod enc Tryz.prog W 0 (fun _=>true) true n' 3 (List.take (Tryz.prog.cellsOf 3) [v1,v2])=ys[1]? at f1
    change DataW.trod enc Tryz.prog W 0 (fun _=>true) true n' 2 (List.take (Tryz.prog.cellsOf 2) [v2])=ys[2]? at f2
    rw[show Tryz.prog.cellsOf 3=1 by kernel_rfl] at f0 f1
    rw[show Tryz.prog.cellsOf 2=1 by kernel_rfl] at f2
    simp only[List.take_succ_cons,List.take_zero] at f0 f1 f2
    have hy3:ys.length=3:=hyl
    rw[List.getElem?_eq_getElem (by omega)] at f0 f1 f2
    obtain⟨z0,e0,_,w0⟩:=DataW.trod_int Tryz.underlying3 f0
    obtain⟨z1,e1,_,w1⟩:=DataW.trod_int Tryz.underlying3 f1
    obtain⟨z2,e2,_,w2⟩:=DataW.trod_int Tryz.underlying2 f2
    simp only[List.cons.injEq,and_true] at e0 e1 e2
    subst e0 e1 e2
    simp only[List.getElem?_cons_zero,List.getElem?_cons_succ,Nat.add_zero] at hat0 hat1 hat2
    have b0:=wf_in64 w0
    have b1:=wf_in64 w1
    have b2:=wf_in64 w2
    unfold ndOf
    rw[hat0,hat1,hat2]
    exact⟨rfl,rfl,rfl,b0,b1,b2⟩
  refine⟨(List.range n).map (ndOf W a),⟨by simp,fun h0=>⟨a,rfl,?_,fun j v hj=>?_⟩,fun x hx=>?_⟩,hl⟩
  ·rw[ns_length] at h0
   simp only[List.length_map,List.length_range] at h0
   have h1:=World.block_lt_of_cell? W _ (key 0 (by omega)).1
   rw[Go.Proofs.YtgoeikihjffeoaaGreat.add_block] at h1
   exact h1
  ·have hjl:j < (ns ((List.range n).map (ndOf W a))).length:=(List.getElem?_eq_some_iff.1 hj).1
   rw[ns_length] at hjl
   simp only[List.length_map,List.length_range] at hjl
   obtain⟨k0,k1,k2,_⟩:=key (j / 3) (by omega)
   obtain⟨r0,r1,r2⟩:=ns_range (ndOf W a) n (j / 3) (by omega)
   have hm3:j % 3=0∨j % 3=1∨j % 3=2:=by omega
   rcases hm3 with e | e | e
   ·have ej:j=j / 3*3:=by omega
    rw[ej] at hj ⊢
    rw[r0] at hj
    rw[k0,hj]
   ·have ej:j=j / 3*3+1:=by omega
    rw[ej] at hj ⊢
    rw[r1] at hj
    rw[k1,hj]
   ·have ej:j=j / 3*3+2:=by omega
    rw[ej] at hj ⊢
    rw[r2] at hj
    rw[k2,hj]
  ·obtain⟨i,hi2,rfl⟩:=List.mem_map.1 hx
   exact(key i (by simpa using hi2)).2.2.2
theorem nodes_sized {H:Type} {enc:TypeId×Value→H} {W:World} {A:Option Addr} {n k:Nat} {d:DataW H} {p:List MemPlace}
  (h:DataW.Trod enc Tryz.prog W 0 (fun _=>true) true 54 (.slice A n k) d p)
  (hs:∀ elems spare,d=.slice elems spare→(elems.length+spare.length)*Tryz.prog.bytesOf 53≤reachBytes) :
  ∃ l:List Nd,RdN W W.heap.size A n l∧n≤k∧k≤140737488351232:=by
 obtain⟨l,h1,h2⟩:=nodes_view h
 refine⟨l,h1,h2,?_⟩
 obtain⟨fuel,hf⟩:=h
 rcases open_slice Tryz.underlying54 hf with ⟨hcs,_⟩ | ⟨a,len,cap,m,q,D,Pl,hcs,hb,hl,hm,hmm,hx,hi⟩
 ·simp[Value.cells] at hcs
  omega
 ·simp[Value.cells] at hcs
  obtain⟨rfl,rfl,rfl⟩:=hcs
  simp only[Prod.mk.injEq] at hx
  have:=hs _ _ hx.1
  have e:Tryz.prog.bytesOf 53=24:=by kernel_rfl
  rw[e] at this
  simp only[List.length_map,List.length_range,reachBytes,hmm,if_true] at this
  omega
end Go.Proofs.YtgoeikihjffeoaaGreat
