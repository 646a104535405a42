import Derived.Test.YtdkngfdnfekgfaaGreatLot27
set_option maxRecDepth 100000
set_option linter.unusedSimpArgs false
set_option linter.unusedVariables false
namespace Go.Proofs.YtdkngfdnfekgfaaGreat
open Go.RowKit Tab
structure Cf where
 A1:Option Addr
 A2:Option Addr
 A3:Option Addr
 n1:Nat
 n2:Nat
 n3:Nat
 c1:Nat
 c2:Nat
 c3:Nat
 P:List Pq
 C:List ChV
 T:List NdT
abbrev cfv(x:Cf):Value:=.agg #[.slice x.A1 x.n1 x.c1,.slice x.A2 x.n2 x.c2,.slice x.A3 x.n3 x.c3]
def SizX(x:Cf):Prop:=x.n1*104≤140737488351232∧x.n2*48≤140737488351232∧x.n3*24≤140737488351232∧(∀ y∈x.P,y.1.pn*16≤140737488351232)∧∀ y∈x.T,y.n*24≤140737488351232
structure CfR(w:World)(x:Cf):Prop where
 pp:RdB pcq w w.heap.size x.A1 x.n1 x.P
 ch:RdB cc w w.heap.size x.A2 x.n2 x.C
 tb:RdB tcn w w.heap.size x.A3 x.n3 x.T
 pt:∀ y∈x.P,PtAx w w.heap.size y∧y.1.pn≤y.1.pc∧y.1.pn≤140737488351232
 tt:∀ y∈x.T,NdAt w w.heap.size y
 k1:x.n1≤x.c1
 k2:x.n2≤x.c2
 k3:x.n3≤x.c3
 m1:x.n1≤140737488351232
 m2:x.n2≤140737488351232
 m3:x.n3≤140737488351232
 z:SizX x
theorem CfR.on{w w':World}{x:Cf}(h:CfR w x)(hb:Below w.heap.size w w'):CfR w' x :=
 ⟨h.pp.on hb,h.ch.on hb,h.tb.on hb,fun y hy=>⟨(h.pt y hy).1.on hb,(h.pt y hy).2⟩,fun y hy=>(h.tt y hy).on hb,h.k1,h.k2,h.k3,h.m1,h.m2,h.m3,h.z⟩
noncomputable def whF(x:Cf):Int×Int:=whereF x.P x.C x.T
def SamX(x y:Cf):Prop:=SameC x.P x.C x.T y.P y.C y.T
theorem SameP.symm{x y:Pq}(h:SameP x y):SameP y x:=by
 obtain⟨h1,h2,h3,h4,h5,⟨h6,h7,h8,h9,h10⟩,h11⟩:=h;exact⟨h1.symm,h2.symm,h3.symm,h4.symm,h5.symm,⟨h6.symm,h7.symm,h8.symm,h9.symm,h10.symm⟩,h11.symm⟩
theorem SameP.refl(x:Pq):SameP x x:=⟨rfl,rfl,rfl,rfl,rfl,⟨rfl,rfl,rfl,rfl,rfl⟩,rfl⟩
theorem nd_eta{x y:Nd}(h:ndEq x y=true):x=y:=by
 obtain⟨a,b,c⟩:=x;obtain⟨d,e,f⟩:=y;unfold ndEq at h;simp at h;obtain⟨⟨h1,h2⟩,h3⟩:=h;subst h1 h2 h3;rfl
theorem sameN_eq:∀ {a b:List Nd},sameN a b=true→a=b
 | [],[],_=>rfl
 | [],_::_,h=>by simp[sameN] at h
 | _::_,[],h=>by simp[sameN] at h
 | x::a,y::b,h=>by
  simp only[sameN,Bool.and_eq_true] at h
  rw[nd_eta h.1,sameN_eq h.2]
theorem sameN_refl:∀ a:List Nd,sameN a a=true
 | []=>rfl
 | x::a=>by simp[sameN,ndEq,sameN_refl a]
theorem SamX.symm{x y:Cf}(h:SamX x y):SamX y x:=by
 obtain⟨⟨h1,h2,h3⟩,h4,h5⟩:=h;exact⟨⟨h1.symm,fun i a b ha hb=>(h2 i b a hb ha).symm,h3.symm⟩,h4.symm,fun i a b ha hb=>by rw[sameN_eq (h5 i b a hb ha)];exact sameN_refl _⟩
theorem SamX.refl(x:Cf):SamX x x:=⟨⟨rfl,fun i a b ha hb=>by rw[ha] at hb;injection hb with hb;subst hb;exact SameP.refl a,rfl⟩,rfl,fun i a b ha hb=>by rw[ha] at hb;injection hb with hb;subst hb;exact sameN_refl _⟩
theorem CfR.rsame{w:World}{x y:Cf}(hx:CfR w x)(hy:CfR w y):Calls Tryz.prog 19 #[cfv x,cfv y] w (Ans (.bool (sameF x.P x.C x.T y.P y.C y.T)) w) :=
 rsamec_any x.A1 x.A2 x.A3 y.A1 y.A2 y.A3 x.n1 x.n2 x.n3 x.c1 x.c2 x.c3 y.n1 y.n2 y.n3 y.c1 y.c2 y.c3 x.P y.P x.C y.C x.T y.T w hx.pp hx.ch hx.tb hy.pp hy.ch hy.tb (fun z hz=>⟨(hx.pt z hz).1.procs,(hx.pt z hz).2.2⟩) (fun z hz=>(hy.pt z hz).1.procs) hx.tt hy.tt hx.m1 hx.m2 hx.m3
structure CfO(w:World)(B:Nat)(x:Cf):Prop where
 pp:OwnV 57 11 w B x.A1 x.n1 x.c1 (x.P.flatMap pcq)
 ch:OwnV 63 6 w B x.A2 x.n2 x.c2 (x.C.flatMap cc)
 tb:OwnV 64 1 w B x.A3 x.n3 x.c3 (x.T.flatMap tcn)
 pt:∀ y∈x.P,OwnV 59 2 w B y.1.pa y.1.pn y.1.pc (y.2.flatMap prc)∧∀ k,obk y.1.pa=some k→obk x.A1≠some k∧obk x.A2≠some k∧obk x.A3≠some k
 tt:∀ y∈x.T,OwnV 70 3 w B y.A y.n y.c (ns y.l)∧∀ k,obk y.A=some k→obk x.A1≠some k∧obk x.A2≠some k∧obk x.A3≠some k
 d12:∀ k,obk x.A1=some k→obk x.A2≠some k
 d13:∀ k,obk x.A1=some k→obk x.A3≠some k
 d23:∀ k,obk x.A2=some k→obk x.A3≠some k
 dp:∀(i j:Nat) (a b:Pq),x.P[i]? = some a→x.P[j]? = some b→i≠j→∀ k,obk a.1.pa=some k→obk b.1.pa≠some k
 dt:∀(i j:Nat) (a b:NdT),x.T[i]? = some a→x.T[j]? = some b→i≠j→∀ k,obk a.A=some k→obk b.A≠some k
 dq:∀(i j:Nat) (a:Pq) (b:NdT),x.P[i]? = some a→x.T[j]? = some b→∀ k,obk a.1.pa=some k→obk b.A≠some k
end Go.Proofs.YtdkngfdnfekgfaaGreat
namespace Go.Proofs.YtdkngfdnfekgfaaGreat
open Go.ChangeShapes Go.WideShapes Go.ChangeAt Go.RowKit Go.Deep Tab
instance:Inhabited PtV:=⟨⟨⟨#[]⟩,0,0,false,false,none,0,0,0,0,0,0,0⟩⟩
instance:Inhabited ChV:=⟨⟨0,0,false,0,0,0⟩⟩
instance:Inhabited Pq:=⟨(default,[])⟩
theorem slice_formX{H:Type}{enc:TypeId×Value→H}{W:World}{n:Nat}{t e:TypeId}{cs:List Value}{y:DataW H×List MemPlace}(ht:Tryz.prog.underlying t=some (.slice e))(h:DataW.trod enc Tryz.prog W 0 (fun _=>true) true n t cs=some y):∃ A m k,cs=[.slice A m k]:=by
 rcases open_slice ht h with ⟨hcs,_⟩ | ⟨a,len,cap,m,q,D,Pl,hcs,_⟩
 ·exact⟨none,0,0,hcs⟩
 exact⟨some a,len,cap,hcs⟩
theorem chan_keyX{H:Type}{enc:TypeId×Value→H}{W:World}{n:Nat}{cs:List Value}{y:DataW H×List MemPlace}(h:DataW.trod enc Tryz.prog W 0 (fun _=>true) true n 63 cs=some y):∃ x:ChV,cs=cc x:=by
 obtain⟨ys,n',_,_,hcl,hyl,hfd⟩:=DataW.trod_struct Tryz.underlying63 h;rw[show Tryz.prog.cellsOf 63=6 by kernel_rfl] at hcl
 match cs,hcl with
 | [v0,v1,v2,v3,v4,v5],_ =>
  have hyl':ys.length=6:=hyl;have f0:=hfd 0 _ rfl;change DataW.trod enc Tryz.prog W 0 (fun _=>true) true n' 3 (List.take (Tryz.prog.cellsOf 3) [v0,v1,v2,v3,v4,v5])=ys[0]? at f0;rw[show Tryz.prog.cellsOf 3=1 by kernel_rfl] at f0;simp only[List.take_succ_cons,List.take_zero] at f0;rw[List.getElem?_eq_getElem (by omega)] at f0;obtain⟨z0,e0,_,_⟩:=DataW.trod_int Tryz.underlying3 f0;simp only[List.cons.injEq,and_true] at e0;subst e0;have f1:=hfd 1 _ rfl;change DataW.trod enc Tryz.prog W 0 (fun _=>true) true n' 3 (List.take (Tryz.prog.cellsOf 3) [v1,v2,v3,v4,v5])=ys[1]? at f1;rw[show Tryz.prog.cellsOf 3=1 by kernel_rfl] at f1;simp only[List.take_succ_cons,List.take_zero] at f1;rw[List.getElem?_eq_getElem (by omega)] at f1;obtain⟨z1,e1,_,_⟩:=DataW.trod_int Tryz.underlying3 f1;simp only[List.cons.injEq,and_true] at e1;subst e1;have f2:=hfd 2 _ rfl;change DataW.trod enc Tryz.prog W 0 (fun _=>true) true n' 4 (List.take (Tryz.prog.cellsOf 4) [v2,v3,v4,v5])=ys[2]? at f2;rw[show Tryz.prog.cellsOf 4=1 by kernel_rfl] at f2;simp only[List.take_succ_cons,List.take_zero] at f2;rw[List.getElem?_eq_getElem (by omega)] at f2;obtain⟨z2,e2,_⟩:=DataW.trod_bool Tryz.underlying4 f2;simp only[List.cons.injEq,and_true] at e2;subst e2;have f3:=hfd 3 _ rfl;change DataW.trod enc Tryz.prog W 0 (fun _=>true) true n' 3 (List.take (Tryz.prog.cellsOf 3) [v3,v4,v5])=ys[3]? at f3;rw[show Tryz.prog.cellsOf 3=1 by kernel_rfl] at f3;simp only[List.take_succ_cons,List.take_zero] at f3;rw[List.getElem?_eq_getElem (by omega)] at f3;obtain⟨z3,e3,_,_⟩:=DataW.trod_int Tryz.underlying3 f3;simp only[List.cons.injEq,and_true] at e3;subst e3;have f4:=hfd 4 _ rfl;change DataW.trod enc Tryz.prog W 0 (fun _=>true) true n' 60 (List.take (Tryz.prog.cellsOf 60) [v4,v5])=ys[4]? at f4;rw[show Tryz.prog.cellsOf 60=1 by kernel_rfl] at f4;simp only[List.take_succ_cons,List.take_zero] at f4;rw[List.getElem?_eq_getElem (by omega)] at f4;obtain⟨z4,e4,_,_⟩:=DataW.trod_int Tryz.underlying60 f4;simp only[List.cons.injEq,and_true] at e4;subst e4;have f5:=hfd 5 _ rfl;change DataW.trod enc Tryz.prog W 0 (fun _=>true) true n' 2 (List.take (Tryz.prog.cellsOf 2) [v5])=ys[5]? at f5;rw[show Tryz.prog.cellsOf 2=1 by kernel_rfl] at f5;simp only[List.take_succ_cons,List.take_zero] at f5;rw[List.getElem?_eq_getElem (by omega)] at f5;obtain⟨z5,e5,_,_⟩:=DataW.trod_int Tryz.underlying2 f5;simp only[List.cons.injEq,and_true] at e5;subst e5;exact⟨⟨z0,z1,z2,z3,z4,z5⟩,rfl⟩
instance:Inhabited NdT:=⟨⟨none,0,0,[]⟩⟩
theorem wAll_mem{H:Type}{P:Program}{e:TypeId}:∀ {ds:List (DataW H)} {d:DataW H},d∈ds→∀ n∈d.weights P e,n∈DataW.weightsAll P e ds
 | [],_,h,_,_=>by cases h
 | x::r,d,h,n,hn=>by
  simp only[DataW.weightsAll,List.mem_append]
  rcases List.mem_cons.1 h with rfl | h
  ·exact Or.inl hn
  ·exact Or.inr (wAll_mem h n hn)
theorem wAll_of{H:Type}{P:Program}{e:TypeId}{ds:List (DataW H)}{d:DataW H}(h:(DataW.weightsAll P e ds).all (·≤reachBytes)=true)(hd:d∈ds):(d.weights P e).all (·≤reachBytes)=true :=
 List.all_eq_true.2 fun n hn=>List.all_eq_true.1 h n (wAll_mem hd n hn)
theorem wEach_of{H:Type}{P:Program}{ts:List TypeId}{ds:List (DataW H)}{j:Nat}{t:TypeId}{d:DataW H}(h:(DataW.weightsEach P ts ds).all (·≤reachBytes)=true)(ht:ts[j]? = some t)(hd:ds[j]? = some d):(d.weights P t).all (·≤reachBytes)=true :=
 List.all_eq_true.2 fun n hn=>List.all_eq_true.1 h n (DataW.weights_mem_each ht hd n hn)
theorem rows_sized{α:Type}[Inhabited α](f:α→List Value)(s:Nat)(hf:∀ x,(f x).length=s)(hs:0 < s){H:Type}{enc:TypeId×Value→H}{W:World}{t e:TypeId}(ht:Tryz.prog.underlying t=some (.slice e))(hc:Tryz.prog.cellsOf e=s)(K:α→Prop)
  (key:∀(n:Nat) (cs:List Value) (y:DataW H×List MemPlace),DataW.trod enc Tryz.prog W 0 (fun _=>true) true n e cs=some y→(y.1.weights Tryz.prog e).all (·≤reachBytes)=true→∃ x,cs=f x∧K x) {fuel:Nat} {cs:List Value} {y:DataW H×List MemPlace} (h:DataW.trod enc Tryz.prog W 0 (fun _=>true) true fuel t cs=some y) (hw:(y.1.weights Tryz.prog t).all (·≤reachBytes)=true) :
  ∃(A:Option Addr) (n k:Nat) (L:List α),cs=[.slice A n k]∧RdB f W W.heap.size A n L∧n≤k∧k≤maxLen∧(∀ x∈L,K x)∧n*Tryz.prog.bytesOf e≤140737488351232:=by
 rcases open_slice ht h with ⟨hcs,_⟩ | ⟨a,len,cap,m,q,D,Pl,hcs,hb,hl,hm,hmm,hx,hi⟩
 ·exact⟨none,0,0,[],hcs,⟨rfl,RdV.nil⟩,Nat.le_refl _,Nat.zero_le _,(fun x hx=>by cases hx),by rw[Nat.zero_mul];exact Nat.zero_le _⟩
 ·have hmc:m=cap:=by rw[hmm];simp
  rw[hx] at hw
  simp only[DataW.weights,ht,List.all_cons,List.all_append,Bool.and_eq_true,decide_eq_true_eq,List.length_map,List.length_range,reachBytes] at hw
  obtain⟨hw1,hw2,_⟩:=hw
  obtain⟨g,hg⟩:=choose_lt (α:=α) (n:=len) (p:=fun i x=>(∀ j,j < s→W.cell? (a.add (i*s+j))=(f x)[j]?)∧K x) (fun i hin=>by
   obtain⟨cs',h1,h2⟩:=hi i (by omega)
   rw[hc] at h1
   obtain⟨_,hcl,hat⟩:=World.cells?_some h1
   obtain⟨x,rfl,hk⟩:=key _ _ _ h2 (wAll_of hw2 (List.mem_map.2 ⟨i,List.mem_range.2 hin,rfl⟩))
   exact⟨x,fun j hj=>by rw[← Go.Proofs.YtdkngfdnfekgfaaGreat.add_add];exact hat j hj,hk⟩)
  refine⟨some a,len,cap,(List.range len).map g,hcs,⟨by simp,fun h0=>⟨a,rfl,?_,fun j v hj=>?_⟩⟩,hl,hm,fun x hx=>?_,Nat.le_trans (Nat.mul_le_mul_right _ (by omega)) (of_decide_eq_true hw1)⟩
  ·have hlen:0 < len:=by
    rw[flat_len hf,List.length_map,List.length_range] at h0
    exact Nat.pos_of_mul_pos_right h0
   have h1:=(hg 0 hlen).1 0 hs
   have hne:(f (g 0))[0]?≠none:=by
    rw[List.getElem?_eq_getElem (by rw[hf];exact hs)]
    exact fun e=>by cases e
   obtain⟨u,hu⟩:=Option.ne_none_iff_exists'.1 hne
   rw[hu] at h1
   have h2:=World.block_lt_of_cell? W _ h1
   rwa [Go.Proofs.YtdkngfdnfekgfaaGreat.add_block] at h2
  ·have hjl:=(List.getElem?_eq_some_iff.1 hj).1
   rw[flat_len hf,List.length_map,List.length_range] at hjl
   have hi1:j / s < len:=Nat.div_lt_of_lt_mul (by rw[Nat.mul_comm];exact hjl)
   have hr1:j % s < s:=Nat.mod_lt _ hs
   have ej:j / s*s+j % s=j:=by rw[Nat.mul_comm];exact Nat.div_add_mod j s
   have h3:=flat_get hf ((List.range len).map g) (j / s) (j % s) (g (j / s)) (by simp[hi1]) hr1
   rw[ej,hj] at h3
   have h4:=(hg (j / s) hi1).1 (j % s) hr1
   rw[ej] at h4
   rw[h4,← h3]
  ·obtain⟨i,hi2,rfl⟩:=List.mem_map.1 hx
   exact(hg i (List.mem_range.1 hi2)).2
theorem proc_whole{H:Type}{enc:TypeId×Value→H}{W:World}{n:Nat}{cs:List Value}{y:DataW H×List MemPlace}(h:DataW.trod enc Tryz.prog W 0 (fun _=>true) true n 59 cs=some y):∃ x:Int×Int,cs=prc x∧True:=by
 obtain⟨ys,n',_,_,hcl,hyl,hfd⟩:=DataW.trod_struct Tryz.underlying59 h;rw[show Tryz.prog.cellsOf 59=2 by kernel_rfl] at hcl
 match cs,hcl with
 | [v0,v1],_ =>
  have hyl':ys.length=2:=hyl;have f0:=hfd 0 _ rfl;have f1:=hfd 1 _ rfl;change DataW.trod enc Tryz.prog W 0 (fun _=>true) true n' 3 (List.take (Tryz.prog.cellsOf 3) [v0,v1])=ys[0]? at f0;change DataW.trod enc Tryz.prog W 0 (fun _=>true) true n' 3 (List.take (Tryz.prog.cellsOf 3) [v1])=ys[1]? at f1;rw[show Tryz.prog.cellsOf 3=1 by kernel_rfl] at f0 f1;simp only[List.take_succ_cons,List.take_zero] at f0 f1;rw[List.getElem?_eq_getElem (by omega)] at f0 f1;obtain⟨z0,e0,_,_⟩:=DataW.trod_int Tryz.underlying3 f0;obtain⟨z1,e1,_,_⟩:=DataW.trod_int Tryz.underlying3 f1;simp only[List.cons.injEq,and_true] at e0 e1;subst e0 e1;exact⟨(z0,z1),rfl,trivial⟩
theorem part_whole{H:Type}{enc:TypeId×Value→H}{W:World}{n:Nat}{cs:List Value}{y:DataW H×List MemPlace}(h:DataW.trod enc Tryz.prog W 0 (fun _=>true) true n 57 cs=some y)(hw:(y.1.weights Tryz.prog 57).all (·≤reachBytes)=true):∃ x:Pq,cs=pcq x∧PtAx W W.heap.size x∧x.1.pn≤x.1.pc∧x.1.pn*16≤140737488351232:=by
 obtain⟨ys,n',_,hx,hcl,hyl,hfd⟩:=DataW.trod_struct Tryz.underlying57 h;rw[hx] at hw;simp only[DataW.weights,Tryz.underlying57] at hw;rw[show Tryz.prog.cellsOf 57=11 by kernel_rfl] at hcl
 match cs,hcl with
 | [v0,v1,v2,v3,v4,v5,v6,v7,v8,v9,v10],_ =>
  have hyl':ys.length=7:=hyl;have f0:=hfd 0 _ rfl;change DataW.trod enc Tryz.prog W 0 (fun _=>true) true n' 9 (List.take (Tryz.prog.cellsOf 9) [v0,v1,v2,v3,v4,v5,v6,v7,v8,v9,v10])=ys[0]? at f0;rw[show Tryz.prog.cellsOf 9=1 by kernel_rfl] at f0;simp only[List.take_succ_cons,List.take_zero] at f0;rw[List.getElem?_eq_getElem (by omega)] at f0;obtain⟨z0,e0,x0,_⟩:=DataW.trod_string Tryz.underlying9 f0;simp only[List.cons.injEq,and_true] at e0;subst e0;have f1:=hfd 1 _ rfl;change DataW.trod enc Tryz.prog W 0 (fun _=>true) true n' 2 (List.take (Tryz.prog.cellsOf 2) [v1,v2,v3,v4,v5,v6,v7,v8,v9,v10])=ys[1]? at f1;rw[show Tryz.prog.cellsOf 2=1 by kernel_rfl] at f1;simp only[List.take_succ_cons,List.take_zero] at f1;rw[List.getElem?_eq_getElem (by omega)] at f1;obtain⟨z1,e1,_,_⟩:=DataW.trod_int Tryz.underlying2 f1;simp only[List.cons.injEq,and_true] at e1;subst e1;have f2:=hfd 2 _ rfl;change DataW.trod enc Tryz.prog W 0 (fun _=>true) true n' 2 (List.take (Tryz.prog.cellsOf 2) [v2,v3,v4,v5,v6,v7,v8,v9,v10])=ys[2]? at f2;rw[show Tryz.prog.cellsOf 2=1 by kernel_rfl] at f2;simp only[List.take_succ_cons,List.take_zero] at f2;rw[List.getElem?_eq_getElem (by omega)] at f2;obtain⟨z2,e2,_,w2⟩:=DataW.trod_int Tryz.underlying2 f2;simp only[List.cons.injEq,and_true] at e2;subst e2;have f3:=hfd 3 _ rfl;change DataW.trod enc Tryz.prog W 0 (fun _=>true) true n' 4 (List.take (Tryz.prog.cellsOf 4) [v3,v4,v5,v6,v7,v8,v9,v10])=ys[3]? at f3;rw[show Tryz.prog.cellsOf 4=1 by kernel_rfl] at f3;simp only[List.take_succ_cons,List.take_zero] at f3;rw[List.getElem?_eq_getElem (by omega)] at f3;obtain⟨z3,e3,_⟩:=DataW.trod_bool Tryz.underlying4 f3;simp only[List.cons.injEq,and_true] at e3;subst e3;have f4:=hfd 4 _ rfl;change DataW.trod enc Tryz.prog W 0 (fun _=>true) true n' 4 (List.take (Tryz.prog.cellsOf 4) [v4,v5,v6,v7,v8,v9,v10])=ys[4]? at f4;rw[show Tryz.prog.cellsOf 4=1 by kernel_rfl] at f4;simp only[List.take_succ_cons,List.take_zero] at f4;rw[List.getElem?_eq_getElem (by omega)] at f4;obtain⟨z4,e4,_⟩:=DataW.trod_bool Tryz.underlying4 f4;simp only[List.cons.injEq,and_true] at e4;subst e4;have f5:=hfd 5 _ rfl;change DataW.trod enc Tryz.prog W 0 (fun _=>true) true n' 54 (List.take (Tryz.prog.cellsOf 54) [v5,v6,v7,v8,v9,v10])=ys[5]? at f5;rw[show Tryz.prog.cellsOf 54=1 by kernel_rfl] at f5;simp only[List.take_succ_cons,List.take_zero] at f5;rw[List.getElem?_eq_getElem (by omega)] at f5;have hw5:=wEach_of hw (j:=5) (t:=54) rfl (by rw[List.getElem?_map,List.getElem?_eq_getElem (show 5 < ys.length by omega)];rfl);obtain⟨A5,n5,k5,L5,e5,hP5,hc5,_,_,hb5⟩:=rows_sized prc 2 prc_len (by omega) Tryz.underlying54 (by kernel_rfl) (fun _=>True) (fun n cs y h _=>proc_whole h) f5 hw5;rw[show Tryz.prog.bytesOf 59=16 by kernel_rfl] at hb5;simp only[List.cons.injEq,and_true] at e5;subst e5;have f6:=hfd 6 _ rfl;change DataW.trod enc Tryz.prog W 0 (fun _=>true) true n' 55 (List.take (Tryz.prog.cellsOf 55) [v6,v7,v8,v9,v10])=ys[6]? at f6;rw[show Tryz.prog.cellsOf 55=5 by kernel_rfl] at f6;simp only[List.take_succ_cons,List.take_zero] at f6;rw[List.getElem?_eq_getElem (by omega)] at f6;obtain⟨zs,m',_,_,_,hzl,hzd⟩:=DataW.trod_array Tryz.underlying55 f6;have g0:=hzd 0 (by omega);rw[show Tryz.prog.cellsOf 3=1 by kernel_rfl] at g0;rw[List.getElem?_eq_getElem (by omega)] at g0;change DataW.trod enc Tryz.prog W 0 (fun _=>true) true m' 3 [v6]=_ at g0;obtain⟨z6,e6_0,_,_⟩:=DataW.trod_int Tryz.underlying3 g0;simp only[List.cons.injEq,and_true] at e6_0;subst e6_0;have g1:=hzd 1 (by omega);rw[show Tryz.prog.cellsOf 3=1 by kernel_rfl] at g1;rw[List.getElem?_eq_getElem (by omega)] at g1;change DataW.trod enc Tryz.prog W 0 (fun _=>true) true m' 3 [v7]=_ at g1;obtain⟨z7,e6_1,_,_⟩:=DataW.trod_int Tryz.underlying3 g1;simp only[List.cons.injEq,and_true] at e6_1;subst e6_1;have g2:=hzd 2 (by omega);rw[show Tryz.prog.cellsOf 3=1 by kernel_rfl] at g2;rw[List.getElem?_eq_getElem (by omega)] at g2;change DataW.trod enc Tryz.prog W 0 (fun _=>true) true m' 3 [v8]=_ at g2;obtain⟨z8,e6_2,_,_⟩:=DataW.trod_int Tryz.underlying3 g2;simp only[List.cons.injEq,and_true] at e6_2;subst e6_2;have g3:=hzd 3 (by omega);rw[show Tryz.prog.cellsOf 3=1 by kernel_rfl] at g3;rw[List.getElem?_eq_getElem (by omega)] at g3;change DataW.trod enc Tryz.prog W 0 (fun _=>true) true m' 3 [v9]=_ at g3;obtain⟨z9,e6_3,_,_⟩:=DataW.trod_int Tryz.underlying3 g3;simp only[List.cons.injEq,and_true] at e6_3;subst e6_3;have g4:=hzd 4 (by omega);rw[show Tryz.prog.cellsOf 3=1 by kernel_rfl] at g4;rw[List.getElem?_eq_getElem (by omega)] at g4;change DataW.trod enc Tryz.prog W 0 (fun _=>true) true m' 3 [v10]=_ at g4;obtain⟨z10,e6_4,_,_⟩:=DataW.trod_int Tryz.underlying3 g4;simp only[List.cons.injEq,and_true] at e6_4;subst e6_4;have hw0:=wEach_of hw (j:=0) (t:=9) rfl (by rw[List.getElem?_map,List.getElem?_eq_getElem (show 0 < ys.length by omega)];rfl);rw[x0] at hw0;simp only[DataW.weights,List.all_cons,List.all_nil,Bool.and_true,decide_eq_true_eq,Array.length_toList,reachBytes] at hw0;exact⟨(⟨z0,z1,z2,z3,z4,A5,n5,k5,z6,z7,z8,z9,z10⟩,L5),rfl,⟨wf_in64 w2,of_decide_eq_true hw0,hP5⟩,hc5,hb5⟩
theorem table_whole{H:Type}{enc:TypeId×Value→H}{W:World}{n:Nat}{cs:List Value}{y:DataW H×List MemPlace}(h:DataW.trod enc Tryz.prog W 0 (fun _=>true) true n 64 cs=some y)(hw:(y.1.weights Tryz.prog 64).all (·≤reachBytes)=true):
  ∃ x:NdT,cs=tcn x∧NdAt W W.heap.size x∧x.n*24≤140737488351232:=by
 obtain⟨A,n',k,rfl⟩:=slice_formX Tryz.underlying64 h;obtain⟨l,hl,hk⟩:=nodes_view (A:=A) (n:=n') (k:=k) (d:=y.1) (p:=y.2) ⟨n,by simpa [Value.cells] using h⟩;have hb:n'*24≤140737488351232:=by
  rcases open_slice Tryz.underlying64 h with ⟨hcs,_⟩ | ⟨a,len,cap,m,q,D,Pl,hcs,hb,hl,hm,hmm,hx,hi⟩
  ·simp at hcs;omega
  rw[hx] at hw;simp only[DataW.weights,Tryz.underlying64,List.all_cons,Bool.and_eq_true,decide_eq_true_eq,List.length_map,List.length_range,reachBytes] at hw;have h1:=of_decide_eq_true hw.1;rw[show Tryz.prog.bytesOf 70=24 by kernel_rfl] at h1;simp only[List.cons.injEq,Value.slice.injEq,and_true] at hcs;have:=hcs.2.1;omega
 exact⟨⟨A,n',k,l⟩,rfl,⟨hl,hk,by show n'≤_;omega⟩,hb⟩
theorem chan_whole{H:Type}{enc:TypeId×Value→H}{W:World}{n:Nat}{cs:List Value}{y:DataW H×List MemPlace}(h:DataW.trod enc Tryz.prog W 0 (fun _=>true) true n 63 cs=some y):∃ x:ChV,cs=cc x∧True:=by
 obtain⟨x,hx⟩:=chan_keyX h;exact⟨x,hx,trivial⟩
theorem config_raw{H:Type}{enc:TypeId×Value→H}{W:World}{v:Value}{d:DataW H}{p:List MemPlace}{base:Nat}(hv:Value.okWide Tryz.prog W .any base 26 v)
  (h:DataW.Trod enc Tryz.prog W 0 (fun _=>true) true 26 v d p) (hw:(d.weights Tryz.prog 26).all (·≤reachBytes)=true):∃ r:Cf,v=cfv r∧CfR W r∧r.c1≤maxLen∧r.c2≤maxLen∧r.c3≤maxLen:=by
 obtain⟨cs,rfl,hsz⟩:=okWide_struct Tryz.underlying26 hv;obtain⟨fuel,hf⟩:=h;obtain⟨ys,n',_,hx,hcl,hyl,hfd⟩:=DataW.trod_struct Tryz.underlying26 hf;rw[show Tryz.prog.cellsOf 26=3 by kernel_rfl] at hsz;have hx1:d=.agg (ys.map (·.1)):=by injection hx
 rw[hx1] at hw;simp only[DataW.weights,Tryz.underlying26] at hw;obtain⟨l,rfl⟩:∃ l:List Value,cs=l.toArray:=⟨cs.toList,by simp⟩;have hl:l.length=3:=by simpa using hsz
 match l,hl with
 | [v0,v1,v2],_ =>
  have hyl':ys.length=3:=hyl;have f0:=hfd 0 _ rfl;have f1:=hfd 1 _ rfl;have f2:=hfd 2 _ rfl;change DataW.trod enc Tryz.prog W 0 (fun _=>true) true n' 22 (List.take (Tryz.prog.cellsOf 22) [v0,v1,v2])=ys[0]? at f0;change DataW.trod enc Tryz.prog W 0 (fun _=>true) true n' 23 (List.take (Tryz.prog.cellsOf 23) [v1,v2])=ys[1]? at f1;change DataW.trod enc Tryz.prog W 0 (fun _=>true) true n' 24 (List.take (Tryz.prog.cellsOf 24) [v2])=ys[2]? at f2;rw[show Tryz.prog.cellsOf 22=1 by kernel_rfl] at f0;rw[show Tryz.prog.cellsOf 23=1 by kernel_rfl] at f1;rw[show Tryz.prog.cellsOf 24=1 by kernel_rfl] at f2;simp only[List.take_succ_cons,List.take_zero] at f0 f1 f2;rw[List.getElem?_eq_getElem (by omega)] at f0 f1 f2;have w0:=wEach_of hw (j:=0) (t:=22) rfl (by rw[List.getElem?_map,List.getElem?_eq_getElem (show 0 < ys.length by omega)];rfl);have w1:=wEach_of hw (j:=1) (t:=23) rfl (by rw[List.getElem?_map,List.getElem?_eq_getElem (show 1 < ys.length by omega)];rfl);have w2:=wEach_of hw (j:=2) (t:=24) rfl (by rw[List.getElem?_map,List.getElem?_eq_getElem (show 2 < ys.length by omega)];rfl);obtain⟨A1,n1,k1,P,e0,hP,a1,a2,a3,a4⟩:=rows_sized pcq 11 pcq_len (by omega) Tryz.underlying22 (by kernel_rfl) (fun x:Pq=>PtAx W W.heap.size x∧x.1.pn≤x.1.pc∧x.1.pn*16≤140737488351232) (fun n cs y h w=>part_whole h w) f0 w0;obtain⟨A2,n2,k2,C,e1,hC,b1,b2,_,b4⟩:=rows_sized cc 6 cc_len (by omega) Tryz.underlying23 (by kernel_rfl) (fun _=>True) (fun n cs y h _=>chan_whole h) f1 w1;obtain⟨A3,n3,k3,T,e2,hT,c1,c2,c3,c4⟩:=rows_sized tcn 1 tcn_len (by omega) Tryz.underlying24 (by kernel_rfl) (fun x:NdT=>NdAt W W.heap.size x∧x.n*24≤140737488351232) (fun n cs y h w=>table_whole h w) f2 w2;rw[show Tryz.prog.bytesOf 57=104 by kernel_rfl] at a4;rw[show Tryz.prog.bytesOf 63=48 by kernel_rfl] at b4;rw[show Tryz.prog.bytesOf 64=24 by kernel_rfl] at c4;simp only[List.cons.injEq,and_true] at e0 e1 e2;subst e0 e1 e2;exact⟨⟨A1,A2,A3,n1,n2,n3,k1,k2,k3,P,C,T⟩,rfl,⟨hP,hC,hT,fun y hy=>⟨(a3 y hy).1,(a3 y hy).2.1,by have:=(a3 y hy).2.2;omega⟩,fun y hy=>(c3 y hy).1,a1,b1,c1,by show n1≤_;omega,by show n2≤_;omega,by show n3≤_;omega,a4,b4,c4,fun y hy=>(a3 y hy).2.2,fun y hy=>(c3 y hy).2⟩,a2,b2,c2⟩
end Go.Proofs.YtdkngfdnfekgfaaGreat
namespace Go.Proofs.YtdkngfdnfekgfaaGreat
open Go.RowKit Tab
def ptA(pa:Option Addr):Pq:=(⟨⟨#[97]⟩,0,0,false,false,pa,1,1,0,0,0,0,0⟩,[(0,0)])
def tbA(A:Option Addr):NdT:=⟨A,1,1,[⟨1,0,1⟩]⟩
def cfA(A1 A3 pa ta:Option Addr):Cf:=⟨A1,none,A3,1,0,1,1,0,1,[ptA pa],[],[tbA ta]⟩
def cfZ:Cf:=⟨none,none,none,0,0,0,0,0,0,[],[],[]⟩
theorem ofF_w1:ofF [⟨1,0,1⟩]=(0,[⟨0,1⟩]):=by
 obtain⟨x,k,hok,hl,e⟩:=ofF_whole (l:=[⟨1,0,1⟩]) (by kernel_rfl);injection hl with h1 h2;subst h1;cases k with
 | nil=>rw[e];kernel_rfl
 | cons y k r=>simp[F.flat] at h2
theorem ptA_ok(pa:Option Addr):∀ j,j < [ptA pa].length→ptE [ptA pa] j=0:=fun j hj=>by
 obtain rfl:j=0:=by simpa using hj
 have hn:nameF (ptA pa).1.name=true:=by kernel_rfl
 have e:=ptE_end (P:=[ptA pa]) (i:=0) (x:=ptA pa) rfl hn (fun k y hk=>by omega)
 have hp:partF (ptA pa).1 (ptA pa).2=true:=by kernel_rfl
 rw[hp] at e
 exact e
theorem szA(pa ta:Option Addr)(C:List ChV)(h:C.length≤8):sizesB [ptA pa] C [tbA ta]:=⟨Nat.le_refl 1,by show 1≤6;omega,h,Nat.le_refl 1,by show 1≤3;omega⟩
theorem whF_A(A1 A3 pa ta:Option Addr):whF (cfA A1 A3 pa ta)=(0,-1):=by
 refine whereF_ok (szA pa ta [] (by show 0≤8;omega)) (ptA_ok pa) (fun j hj=>by simp[cfA] at hj) fun j hj=>?_;obtain rfl:j=0:=by simpa [cfA] using hj
 rw[tbE_at (t:=tbA ta) rfl];unfold tbW;show (if (ofF [⟨1,0,1⟩]).1=0 then (if (ofF [⟨1,0,1⟩]).2.any (fun r=>decide (((1:Nat):Int)≤r.p))=true then 16 else holdsF (wordsL (ofF [⟨1,0,1⟩]).2) _ []) else (ofF [⟨1,0,1⟩]).1)=0;rw[ofF_w1];rfl
theorem whF_Z:whF cfZ=(3,0):=whereF_big fun h=>by have:=h.1;simp[cfZ] at this
theorem cfZ_rd(w:World):CfR w cfZ :=
 ⟨⟨rfl,fun h=>by simp[cfZ] at h⟩,⟨rfl,fun h=>by simp[cfZ] at h⟩,⟨rfl,fun h=>by simp[cfZ] at h⟩,fun y hy=>by simp[cfZ] at hy,fun y hy=>by simp[cfZ] at hy,Nat.le_refl _,Nat.le_refl _,Nat.le_refl _,Nat.zero_le _,Nat.zero_le _,Nat.zero_le _,by simp[SizX,cfZ]⟩
section
variable {w:World} {g0 g1 g2 g3 g4:Nat}
theorem rdb_one{α:Type}{f:α→List Value}{B g:Nat}(x:α)(h:RdV w B (some ⟨g,0,none⟩) (f x)):RdB f w B (some ⟨g,0,none⟩) 1 [x]:=⟨rfl,by simpa using h⟩
theorem cfA_rd(h0:RdV w w.heap.size (some ⟨g0,0,none⟩) [.int .i64 0,.int .i64 0])(h1:RdV w w.heap.size (some ⟨g1,0,none⟩) (pcq (ptA (some ⟨g0,0,none⟩))))(h2:RdV w w.heap.size (some ⟨g2,0,none⟩) [.int .i64 1,.int .i64 0,.int .i64 1])(h3:RdV w w.heap.size (some ⟨g3,0,none⟩) [.slice (some ⟨g2,0,none⟩) 1 1]):
  CfR w (cfA (some ⟨g1,0,none⟩) (some ⟨g3,0,none⟩) (some ⟨g0,0,none⟩) (some ⟨g2,0,none⟩)):=by
 refine⟨rdb_one _ h1,⟨rfl,fun h=>by simp[cfA] at h⟩,rdb_one _ h3,fun y hy=>?_,fun y hy=>?_,Nat.le_refl _,Nat.le_refl _,Nat.le_refl _,by show 1≤_;omega,by show 0≤_;omega,by show 1≤_;omega,by simp[SizX,cfA,ptA,tbA]⟩
 ·obtain rfl:y=ptA (some ⟨g0,0,none⟩):=by simpa [cfA] using hy
  exact⟨⟨⟨by show (-9223372036854775808:Int)≤0;omega,by show (0:Int)≤9223372036854775807;omega⟩,by show 1≤140737488351232;omega,rdb_one (0,0) h0⟩,Nat.le_refl _,by show 1≤_;omega⟩
 obtain rfl:y=tbA (some ⟨g2,0,none⟩):=by simpa [cfA] using hy
 exact⟨⟨rfl,h2,fun z hz=>by simp[tbA] at hz;subst hz;exact ndIn_mk (by omega) (by omega) (by omega)⟩,Nat.le_refl _,by show 1≤_;omega⟩
end
end Go.Proofs.YtdkngfdnfekgfaaGreat
