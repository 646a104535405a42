import Derived.Test.YtdkngfdnfekgfaaGreatLon26
import Derived.Maps.AppendAt
import Derived.Laws.IdiomStrings
import Derived.Deep.AppendLies
import Derived.Laws.CopyOwn
import Derived.OwnWalk
set_option maxRecDepth 100000
set_option linter.unusedSimpArgs false
set_option linter.unusedVariables false
namespace Go.Proofs.YtdkngfdnfekgfaaGreat
open Go.RowKit Tab
structure Cf where
 A1:Option Addr
 A2:Option Addr
 A3:Option Addr
 n1:Nat
 n2:Nat
 n3:Nat
 c1:Nat
 c2:Nat
 c3:Nat
 P:List Pq
 C:List ChV
 T:List NdT
abbrev cfv(x:Cf):Value:=.agg #[.slice x.A1 x.n1 x.c1,.slice x.A2 x.n2 x.c2,.slice x.A3 x.n3 x.c3]
def SizX(x:Cf):Prop:=x.n1*104≤140737488351232∧x.n2*48≤140737488351232∧x.n3*24≤140737488351232∧(∀ y∈x.P,y.1.pn*16≤140737488351232)∧∀ y∈x.T,y.n*24≤140737488351232
structure CfR(w:World)(x:Cf):Prop where
 pp:RdB pcq w w.heap.size x.A1 x.n1 x.P
 ch:RdB cc w w.heap.size x.A2 x.n2 x.C
 tb:RdB tcn w w.heap.size x.A3 x.n3 x.T
 pt:∀ y∈x.P,PtAx w w.heap.size y∧y.1.pn≤y.1.pc∧y.1.pn≤140737488351232
 tt:∀ y∈x.T,NdAt w w.heap.size y
 k1:x.n1≤x.c1
 k2:x.n2≤x.c2
 k3:x.n3≤x.c3
 m1:x.n1≤140737488351232
 m2:x.n2≤140737488351232
 m3:x.n3≤140737488351232
 z:SizX x
theorem CfR.on{w w':World}{x:Cf}(h:CfR w x)(hb:Below w.heap.size w w'):CfR w' x :=
 ⟨h.pp.on hb,h.ch.on hb,h.tb.on hb,fun y hy=>⟨(h.pt y hy).1.on hb,(h.pt y hy).2⟩,fun y hy=>(h.tt y hy).on hb,h.k1,h.k2,h.k3,h.m1,h.m2,h.m3,h.z⟩
noncomputable def whF(x:Cf):Int×Int:=whereF x.P x.C x.T
def SamX(x y:Cf):Prop:=SameC x.P x.C x.T y.P y.C y.T
theorem SameP.symm{x y:Pq}(h:SameP x y):SameP y x:=by
 obtain⟨h1,h2,h3,h4,h5,⟨h6,h7,h8,h9,h10⟩,h11⟩:=h;exact⟨h1.symm,h2.symm,h3.symm,h4.symm,h5.symm,⟨h6.symm,h7.symm,h8.symm,h9.symm,h10.symm⟩,h11.symm⟩
theorem SameP.refl(x:Pq):SameP x x:=⟨rfl,rfl,rfl,rfl,rfl,⟨rfl,rfl,rfl,rfl,rfl⟩,rfl⟩
theorem nd_eta{x y:Nd}(h:ndEq x y=true):x=y:=by
 obtain⟨a,b,c⟩:=x;obtain⟨d,e,f⟩:=y;unfold ndEq at h;simp at h;obtain⟨⟨h1,h2⟩,h3⟩:=h;subst h1 h2 h3;rfl
theorem sameN_eq:∀ {a b:List Nd},sameN a b=true→a=b
 | [],[],_=>rfl
 | [],_::_,h=>by simp[sameN] at h
 | _::_,[],h=>by simp[sameN] at h
 | x::a,y::b,h=>by
  simp only[sameN,Bool.and_eq_true] at h
  rw[nd_eta h.1,sameN_eq h.2]
theorem sameN_refl:∀ a:List Nd,sameN a a=true
 | []=>rfl
 | x::a=>by simp[sameN,ndEq,sameN_refl a]
theorem SamX.symm{x y:Cf}(h:SamX x y):SamX y x:=by
 obtain⟨⟨h1,h2,h3⟩,h4,h5⟩:=h;exact⟨⟨h1.symm,fun i a b ha hb=>(h2 i b a hb ha).symm,h3.symm⟩,h4.symm,fun i a b ha hb=>by rw[sameN_eq (h5 i b a hb ha)];exact sameN_refl _⟩
theorem SamX.refl(x:Cf):SamX x x:=⟨⟨rfl,fun i a b ha hb=>by rw[ha] at hb;injection hb with hb;subst hb;exact SameP.refl a,rfl⟩,rfl,fun i a b ha hb=>by rw[ha] at hb;injection hb with hb;subst hb;exact sameN_refl _⟩
theorem CfR.rsame{w:World}{x y:Cf}(hx:CfR w x)(hy:CfR w y):Calls Tryz.prog 19 #[cfv x,cfv y] w (Ans (.bool (sameF x.P x.C x.T y.P y.C y.T)) w) :=
 rsamec_any x.A1 x.A2 x.A3 y.A1 y.A2 y.A3 x.n1 x.n2 x.n3 x.c1 x.c2 x.c3 y.n1 y.n2 y.n3 y.c1 y.c2 y.c3 x.P y.P x.C y.C x.T y.T w hx.pp hx.ch hx.tb hy.pp hy.ch hy.tb (fun z hz=>⟨(hx.pt z hz).1.procs,(hx.pt z hz).2.2⟩) (fun z hz=>(hy.pt z hz).1.procs) hx.tt hy.tt hx.m1 hx.m2 hx.m3
structure CfO(w:World)(B:Nat)(x:Cf):Prop where
 pp:OwnV 57 11 w B x.A1 x.n1 x.c1 (x.P.flatMap pcq)
 ch:OwnV 63 6 w B x.A2 x.n2 x.c2 (x.C.flatMap cc)
 tb:OwnV 64 1 w B x.A3 x.n3 x.c3 (x.T.flatMap tcn)
 pt:∀ y∈x.P,OwnV 59 2 w B y.1.pa y.1.pn y.1.pc (y.2.flatMap prc)∧∀ k,obk y.1.pa=some k→obk x.A1≠some k∧obk x.A2≠some k∧obk x.A3≠some k
 tt:∀ y∈x.T,OwnV 70 3 w B y.A y.n y.c (ns y.l)∧∀ k,obk y.A=some k→obk x.A1≠some k∧obk x.A2≠some k∧obk x.A3≠some k
 d12:∀ k,obk x.A1=some k→obk x.A2≠some k
 d13:∀ k,obk x.A1=some k→obk x.A3≠some k
 d23:∀ k,obk x.A2=some k→obk x.A3≠some k
 dp:∀(i j:Nat) (a b:Pq),x.P[i]? = some a→x.P[j]? = some b→i≠j→∀ k,obk a.1.pa=some k→obk b.1.pa≠some k
 dt:∀(i j:Nat) (a b:NdT),x.T[i]? = some a→x.T[j]? = some b→i≠j→∀ k,obk a.A=some k→obk b.A≠some k
 dq:∀(i j:Nat) (a:Pq) (b:NdT),x.P[i]? = some a→x.T[j]? = some b→∀ k,obk a.1.pa=some k→obk b.A≠some k
def ptA(pa:Option Addr):Pq:=(⟨⟨#[97]⟩,0,0,false,false,pa,1,1,0,0,0,0,0⟩,[(0,0)])
def tbA(A:Option Addr):NdT:=⟨A,1,1,[⟨1,0,1⟩]⟩
def cfA(A1 A3 pa ta:Option Addr):Cf:=⟨A1,none,A3,1,0,1,1,0,1,[ptA pa],[],[tbA ta]⟩
def cfZ:Cf:=⟨none,none,none,0,0,0,0,0,0,[],[],[]⟩
theorem ofF_w1:ofF [⟨1,0,1⟩]=(0,[⟨0,1⟩]):=by
 obtain⟨x,k,hok,hl,e⟩:=ofF_whole (l:=[⟨1,0,1⟩]) (by kernel_rfl);injection hl with h1 h2;subst h1;cases k with
 | nil=>rw[e];kernel_rfl
 | cons y k r=>simp[F.flat] at h2
theorem ptA_ok(pa:Option Addr):∀ j,j < [ptA pa].length→ptE [ptA pa] j=0:=fun j hj=>by
 obtain rfl:j=0:=by simpa using hj
 have hn:nameF (ptA pa).1.name=true:=by kernel_rfl
 have e:=ptE_end (P:=[ptA pa]) (i:=0) (x:=ptA pa) rfl hn (fun k y hk=>by omega)
 have hp:partF (ptA pa).1 (ptA pa).2=true:=by kernel_rfl
 rw[hp] at e
 exact e
theorem szA(pa ta:Option Addr)(C:List ChV)(h:C.length≤8):sizesB [ptA pa] C [tbA ta]:=⟨Nat.le_refl 1,by show 1≤6;omega,h,Nat.le_refl 1,by show 1≤3;omega⟩
theorem whF_A(A1 A3 pa ta:Option Addr):whF (cfA A1 A3 pa ta)=(0,-1):=by
 refine whereF_ok (szA pa ta [] (by show 0≤8;omega)) (ptA_ok pa) (fun j hj=>by simp[cfA] at hj) fun j hj=>?_;obtain rfl:j=0:=by simpa [cfA] using hj
 rw[tbE_at (t:=tbA ta) rfl];unfold tbW;show (if (ofF [⟨1,0,1⟩]).1=0 then (if (ofF [⟨1,0,1⟩]).2.any (fun r=>decide (((1:Nat):Int)≤r.p))=true then 16 else holdsF (wordsL (ofF [⟨1,0,1⟩]).2) _ []) else (ofF [⟨1,0,1⟩]).1)=0;rw[ofF_w1];rfl
theorem whF_Z:whF cfZ=(3,0):=whereF_big fun h=>by have:=h.1;simp[cfZ] at this
theorem cfZ_rd(w:World):CfR w cfZ :=
 ⟨⟨rfl,fun h=>by simp[cfZ] at h⟩,⟨rfl,fun h=>by simp[cfZ] at h⟩,⟨rfl,fun h=>by simp[cfZ] at h⟩,fun y hy=>by simp[cfZ] at hy,fun y hy=>by simp[cfZ] at hy,Nat.le_refl _,Nat.le_refl _,Nat.le_refl _,Nat.zero_le _,Nat.zero_le _,Nat.zero_le _,by simp[SizX,cfZ]⟩
section
variable {w:World} {g0 g1 g2 g3 g4:Nat}
theorem rdb_one{α:Type}{f:α→List Value}{B g:Nat}(x:α)(h:RdV w B (some ⟨g,0,none⟩) (f x)):RdB f w B (some ⟨g,0,none⟩) 1 [x]:=⟨rfl,by simpa using h⟩
theorem cfA_rd(h0:RdV w w.heap.size (some ⟨g0,0,none⟩) [.int .i64 0,.int .i64 0])(h1:RdV w w.heap.size (some ⟨g1,0,none⟩) (pcq (ptA (some ⟨g0,0,none⟩))))(h2:RdV w w.heap.size (some ⟨g2,0,none⟩) [.int .i64 1,.int .i64 0,.int .i64 1])(h3:RdV w w.heap.size (some ⟨g3,0,none⟩) [.slice (some ⟨g2,0,none⟩) 1 1]):
  CfR w (cfA (some ⟨g1,0,none⟩) (some ⟨g3,0,none⟩) (some ⟨g0,0,none⟩) (some ⟨g2,0,none⟩)):=by
 refine⟨rdb_one _ h1,⟨rfl,fun h=>by simp[cfA] at h⟩,rdb_one _ h3,fun y hy=>?_,fun y hy=>?_,Nat.le_refl _,Nat.le_refl _,Nat.le_refl _,by show 1≤_;omega,by show 0≤_;omega,by show 1≤_;omega,by simp[SizX,cfA,ptA,tbA]⟩
 ·obtain rfl:y=ptA (some ⟨g0,0,none⟩):=by simpa [cfA] using hy
  exact⟨⟨⟨by show (-9223372036854775808:Int)≤0;omega,by show (0:Int)≤9223372036854775807;omega⟩,by show 1≤140737488351232;omega,rdb_one (0,0) h0⟩,Nat.le_refl _,by show 1≤_;omega⟩
 obtain rfl:y=tbA (some ⟨g2,0,none⟩):=by simpa [cfA] using hy
 exact⟨⟨rfl,h2,fun z hz=>by simp[tbA] at hz;subst hz;exact ndIn_mk (by omega) (by omega) (by omega)⟩,Nat.le_refl _,by show 1≤_;omega⟩
end
end Go.Proofs.YtdkngfdnfekgfaaGreat
namespace Go.Proofs.YtdkngfdnfekgfaaGreat
open Go.RowKit
theorem u8_info:(Tryz.prog.info? 5).map (fun i=>(i.zero,i.size,i.bytes))=some (some (.int .u8 0),1,1):=by kernel_rfl
def bs(l:List UInt8):List Value:=l.map fun b=>.int .u8 (b.toNat:Int)
theorem bs_one(l:List UInt8):∀ u∈bs l,u.oneCell'=true:=by
 intro u hu;obtain⟨b,_,rfl⟩:=List.mem_map.1 hu;rfl
theorem bs_length(l:List UInt8):(bs l).length=l.length:=by simp[bs]
theorem bs_append(l m:List UInt8):bs (l++m)=bs l++bs m:=by simp[bs]
theorem bs_get(l:List UInt8)(j:Nat)(u:Value)(h:(bs l)[j]? = some u):∃ hj:j < l.length,u=.int .u8 (l[j].toNat:Int):=by
 unfold bs at h;rw[List.getElem?_map] at h;obtain⟨b,hb,rfl⟩:=Option.map_eq_some_iff.1 h;obtain⟨hj,rfl⟩:=List.getElem?_eq_some_iff.1 hb;exact⟨hj,rfl⟩
def Own(w:World)(B:Nat)(A:Option Addr)(n c:Nat)(l:List UInt8):Prop :=
 w.ownsRow B 5 1 (.slice A n c) n (bs l)
section
variable {w w':World} {B B' n c:Nat} {A:Option Addr} {l:List UInt8}
theorem Own.len(h:Own w B A n c l):l.length=n:=by
 have:=h.1;rw[bs_length] at this;omega
theorem Own.rd(h:Own w B A n c l):Rd w w.heap.size A n l:=by
 refine⟨h.len,fun hn=>?_⟩;obtain⟨g,cap,hv,_,hlt⟩:=h.form hn;obtain rfl:A=some ⟨g,0,none⟩:=by injection hv
 refine⟨_,rfl,hlt,fun j hj=>?_⟩;exact h.cells (g:=g) rfl j _ (by simp[bs,hj])
theorem Own.cap(h:Own w B A n c l):n≤c:=by
 rcases h.2 with ⟨hv,h0⟩ | ⟨g,cap,cur,hv,_,_,hnc,_⟩
 ·omega
 injection hv;omega
theorem Own.below(h:Own w B A n c l)(hs:B'=w.heap.size)(hb:Below B' w w'):Own w' B A n c l:=by
 subst hs;refine⟨h.1,?_⟩;rcases h.2 with hv | ⟨g,cap,cur,hv,hbg,hg,r⟩
 ·exact .inl hv
 refine .inr ⟨g,cap,cur,hv,hbg,?_,r⟩;have hlt:g < w.heap.size:=by
  rcases Nat.lt_or_ge g w.heap.size with h | h
  ·exact h
  rw[Array.getElem?_eq_none h] at hg;cases hg
 rw[hb.block g hlt,hg]
theorem own_lit(w:World)(B:Nat)(l:List UInt8)(C:Array Value)(hC:C.toList=bs l)(hB:B≤w.heap.size)(hl:l.length≤4096):
  Own (w.alloc (.cells C 5)) B (some ⟨w.heap.size,0,none⟩) l.length l.length l:=by
 have hs:C.size=l.length:=by rw[← Array.length_toList,hC,bs_length]
 unfold Own;rw[← hC];exact World.ownsRow_lit w C l.length hB (by unfold maxLen;omega) (by omega)
theorem rd_nil(w:World)(B:Nat):Rd w B none 0 []:=⟨rfl,fun h=>absurd h (by omega)⟩
end
theorem append_nil_src(w:World)(B:Nat)(A:Option Addr)(n c c':Nat)(l:List UInt8)(h:Own w B A n c l):
  (Builtin.append_ #[35,35] 35 #[.slice A n c,.slice none 0 c']).run Tryz.prog w=.ok (.slice A n c) w:=by
 obtain⟨i,hi,_⟩:=info_parts u8_info;rcases h.2 with ⟨hv,_⟩ | ⟨g,cap,cur,hv,_,_,hnc,_⟩
 ·simp only[Value.slice.injEq] at hv;obtain⟨rfl,rfl,rfl⟩:=hv;simp[Builtin.append_,run_underlying Tryz.underlying35,sizeOf,typeInfo,hi,Builtin.lenOf,Builtin.firstCells]
 simp only[Value.slice.injEq] at hv;obtain⟨rfl,_,rfl⟩:=hv;simp[Builtin.append_,run_underlying Tryz.underlying35,sizeOf,typeInfo,hi,Builtin.lenOf,Builtin.firstCells,hnc,storeCells]
theorem run_app(w:World)(B:Nat)(A:Option Addr)(n c:Nat)(l0:List UInt8)(h:Own w B A n c l0)(S:Option Addr)(m d:Nat)(l:List UInt8)(Bs:Nat)(hr:Rd w Bs S m l)
  (hb:n+m≤140737488355328) (hB:B≤w.heap.size) :
  ∃ A' c' w',(Builtin.append_ #[35,35] 35 #[.slice A n c,.slice S m d]).run Tryz.prog w=.ok (.slice A' (n+m) c') w'∧Own w' B A' (n+m) c' (l0++l)∧Below B w w':=by
 obtain⟨i,hi,hz,hs,hby⟩:=info_parts u8_info
 rcases S with _ | ad
 ·have hm:m=0:=by
   rcases Nat.eq_zero_or_pos m with h0 | h0
   ·exact h0
   ·obtain⟨_,h1,_⟩:=hr.2 h0
    cases h1
  subst hm
  obtain rfl:l=[]:=List.eq_nil_of_length_eq_zero hr.1
  exact⟨A,c,w,append_nil_src w B A n c d l0 h,by simpa using h,Below.refl _ _⟩
 ·have hl:(bs l).length=m*1:=by rw[bs_length,hr.1];omega
  have hnews:∀ j u,(bs l)[j]? = some u→w.cell? (ad.add j)=some u:=fun j u hu=>by
   obtain⟨hj,rfl⟩:=bs_get l j u hu
   obtain⟨ad',h1,_,hc⟩:=hr.2 (by have:=hr.1;omega)
   injection h1 with h1
   subst h1
   exact hc j hj
  obtain⟨v',w',hrun,hown,hgr,hnil,hat⟩:=run_append_own_at (P:=Tryz.prog) w B 35 35 5 i _ 1 1 Tryz.underlying35 hi hz hs hby rfl (by omega) (.slice A n c) n (bs l0) h ad m d (bs l) hl hnews (bs_one l)
   (by unfold maxLen;omega) (by omega) hB
  have hbel:Below B w w':=(Below.refl _ _).grown hgr hB (fun k hk=>by
   rcases h.2 with ⟨hv,_⟩ | ⟨g,cap,cur,hv,hbg,_⟩
   ·rw[hv] at hk;simp[Value.ownBlock] at hk
   ·rw[hv] at hk;simp[Value.ownBlock] at hk;omega)
  rw[← bs_append] at hown
  rcases hown.2 with ⟨hv,h0⟩ | ⟨g,cap,cur,hv,_⟩
  ·subst hv
   have e:n+m=0:=h0
   refine⟨none,0,w',by rw[hrun,e],?_,hbel⟩
   unfold Own;rw[e] at hown ⊢;exact hown
  ·subst hv
   exact⟨_,_,w',hrun,hown,hbel⟩
theorem wpList_app{ops:Array Oper}{rest:List Oper}{o:Oper}{a:Act}{Q:Exit→Act→World→Prop}{w:World}(hgd:o.guard=none)(s x:Operand)
  (ho:o.op=.call { callee:=.builtin .append,args:=#[s,x],argTypes:=#[35,35] }) (hty:o.type=35)
  (B:Nat) (A:Option Addr) (n c:Nat) (l0:List UInt8) (hs:a.eval s=.slice A n c) (h:Own w B A n c l0) (S:Option Addr) (m d:Nat) (l:List UInt8) (Bs:Nat) (hx:a.eval x=.slice S m d) (hr:Rd w Bs S m l)
  (N:Nat) (hN:n+m=N) (L:List UInt8) (hL:l0++l=L) (hb:N≤140737488355328) (hB:B≤w.heap.size)
  (hK:∀ A' c' w',Own w' B A' N c' L→Below B w w'→wpList Tryz.prog ops Q rest (a.put o.dst (.slice A' N c')) w'):wpList Tryz.prog ops Q (o::rest) a w:=by
 subst hN;subst hL
 refine wpList_plain hgd fun K hk=>?_
 obtain⟨A',c',w',hrun,h1,h2⟩:=run_app w B A n c l0 h S m d l Bs hr hb hB
 unfold Oper.wp execOp
 simp only[ho,hty,resolve,invoke,builtin,Sem.run_bind,Sem.run_pure,Result.andThen_ok,List.map_toArray,List.map_cons,List.map_nil,hs,hx,hrun]
 exact hk _ _ (hK A' c' w' h1 h2)
def str(l:List UInt8):ByteArray:=⟨l.toArray⟩
theorem run_conv(w:World)(B:Nat)(A:Option Addr)(n c:Nat)(l:List UInt8)(h:Rd w B A n l):
  (convert 35 9 (.slice A n c)).run Tryz.prog w=.ok (.string (str l)) w:=by
 rcases A with _ | ad
 ·have hn:n=0:=by
   rcases Nat.eq_zero_or_pos n with h0 | h0
   ·exact h0
   obtain⟨_,h1,_⟩:=h.2 h0;cases h1
  subst hn;obtain rfl:l=[]:=List.eq_nil_of_length_eq_zero h.1;rw[run_convert_bytes_string w _ _ _ _ _ _ Tryz.underlying35 Tryz.underlying5 Tryz.underlying9];simp[Conv.bytesToString];rfl
 obtain rfl:=h.1;exact run_convert_bytes_back w 35 9 5 ad c l Tryz.underlying35 Tryz.underlying5 Tryz.underlying9 fun j hj=>by
  obtain⟨ad',h1,_,hc⟩:=h.2 (by omega);injection h1 with h1;subst h1;exact hc j hj
theorem made_bytes(z:Value)(n:Nat):(madeCells #[z] n).toList=List.replicate n z:=by
 apply List.ext_getElem
 ·simp[size_madeCells]
 intro i h1 h2;simp[madeCells];rw[Nat.mod_one];simp
theorem wpList_mk{ops:Array Oper}{rest:List Oper}{o:Oper}{a:Act}{Q:Exit→Act→World→Prop}{w:World}(hgd:o.guard=none)(s x:Operand)
  (ho:o.op=.makeSlice 35 s x) (B:Nat) (n N:Nat) (C:Int) (hs:a.eval s=.int .i64 (n:Int)) (hx:a.eval x=.int .i64 C) (hC:C=(N:Int)) (hn:n≤N) (hN:N≤281474976710656) (hB:B≤w.heap.size)
  (hK:∀ w',Own w' B (some ⟨w.heap.size,0,none⟩) n N (List.replicate n 0)→Below B w w'→wpList Tryz.prog ops Q rest (a.put o.dst (.slice (some ⟨w.heap.size,0,none⟩) n N)) w'):wpList Tryz.prog ops Q (o::rest) a w:=by
 refine wpList_plain hgd fun K hk=>?_
 obtain⟨i,hi,hz,hsz,hby⟩:=info_parts u8_info
 subst hC
 have hr:=run_make (P:=Tryz.prog) w 35 5 i _ Tryz.underlying35 hi hz .i64 .i64 n N (by omega) (by omega) (by rw[hby];omega) (by omega)
 rw[hsz] at hr
 simp only[Int.toNat_natCast,Nat.mul_one] at hr
 unfold Oper.wp
 simp[execOp,ho,hs,hx,hr,Result.andThen]
 refine hk _ _ (hK _ ?_ ((Below.refl _ _).alloc hB _))
 refine⟨by simp[bs],.inr ⟨w.heap.size,N,_,rfl,hB,heap_alloc_new w _,hn,by unfold maxLen;omega,by simp[size_madeCells],?_⟩⟩
 show (madeCells #[Value.int .u8 0] N).toList.take (n*1)=_
 rw[made_bytes,Nat.mul_one,List.take_replicate,bs,List.map_replicate,Nat.min_eq_left hn]
 rfl
theorem wpList_cp{ops:Array Oper}{rest:List Oper}{o:Oper}{a:Act}{Q:Exit→Act→World→Prop}{w:World}(hgd:o.guard=none)(s x:Operand)
  (ho:o.op=.call { callee:=.builtin .copy,args:=#[s,x],argTypes:=#[35,35] }) (B g n c m d:Nat) (l0:List UInt8) (hs:a.eval s=.slice (some ⟨g,0,none⟩) n c) (h:Own w B (some ⟨g,0,none⟩) n c l0)
  (S:Option Addr) (l:List UInt8) (Bs:Nat) (hx:a.eval x=.slice S m d) (hr:Rd w Bs S m l) (hnm:n≤m)
  (hK:∀ w',Own w' B (some ⟨g,0,none⟩) n c (l.take n)→Below B w w'→wpList Tryz.prog ops Q rest (a.put o.dst (goInt (n:Nat))) w'):wpList Tryz.prog ops Q (o::rest) a w:=by
 have hsz:(Tryz.prog.info? 5).map (·.size)=some 1:=by kernel_rfl
 rcases Nat.eq_zero_or_pos n with h0 | h0
 ·subst h0
  refine wpList_copy_nothing hgd s x 35 35 ho 5 Tryz.underlying35 hsz _ _ 0 c m d hs hx (by simp) ?_
  refine hK w ?_ (Below.refl _ _)
  have e:l0=[]:=List.eq_nil_of_length_eq_zero h.len
  subst e
  simpa using h
 ·obtain⟨ad,rfl,_,hc⟩:=hr.2 (by omega)
  rcases h.2 with ⟨hv,_⟩ | ⟨g',c',cur,hv,hbg,hg,hnc,hcm,hcs,htake⟩
  ·cases hv
  ·simp only[Value.slice.injEq,Option.some.injEq,Addr.mk.injEq,and_true,true_and] at hv
   obtain⟨rfl,rfl⟩:=hv
   have hl:(bs (l.take n)).length=n:=by rw[bs_length,List.length_take,hr.1];omega
   refine wpList_copy_own hgd s x 35 35 ho 5 Tryz.underlying35 hsz g 0 n c ad m d hs hx cur 5 hg (bs (l.take n)) (by rw[hl];exact(Nat.min_eq_right hnm).symm)
    (fun j u hu=>?_) (by rw[hl,hcs];omega) (bs_one _) ?_
   ·obtain⟨hj,rfl⟩:=bs_get _ j u hu
    rw[List.length_take] at hj
    rw[List.getElem_take]
    exact hc j (by omega)
   ·have hz:((bs (l.take n)).length:Nat)=n:=hl
    have:=hK (w.setRow g (cur.toList.take 0++(bs (l.take n)++cur.toList.drop (0+(bs (l.take n)).length))).toArray) ?_ (below_setRow (Below.refl _ _) hbg _)
    ·rwa [hz] at this ⊢
    ·refine⟨by rw[hl];omega,.inr ⟨g,c,_,rfl,hbg,setRow_heap w g cur _ 5 _ hg,hnc,hcm,?_,?_⟩⟩
     ·simp only[List.size_toArray,List.length_append,List.length_take,List.length_drop,Array.length_toList,hl,hcs]
      omega
     ·simp only[List.take_zero,List.nil_append,Nat.mul_one]
      exact List.take_left' hl
theorem Own.at_{w:World}{B n c:Nat}{A:Option Addr}{l:List UInt8}(h:Own w B A n c l)(hn:0 < n):∃ g,A=some ⟨g,0,none⟩∧B≤g:=by
 obtain⟨g,cap,hv,hb,_⟩:=h.form hn;injection hv with h1;exact⟨g,h1,hb⟩
theorem Own.cell{w:World}{B n c g:Nat}{l:List UInt8}(h:Own w B (some ⟨g,0,none⟩) n c l){k:Nat}{b:UInt8}(hb:l[k]? = some b):w.cell? ⟨g,k,none⟩=some (.int .u8 (b.toNat:Int)):=by
 obtain⟨hk,rfl⟩:=List.getElem?_eq_some_iff.1 hb;have:=h.len;rw[World.ownsRow.cellAt h k (by omega)];simp[bs,hk]
theorem Own.free{w:World}{B n c g:Nat}{l:List UInt8}(h:Own w B (some ⟨g,0,none⟩) n c l)(k:Nat):w.frozen? ⟨g,k,none⟩=false:=World.ownsRow.frozenAt h k
theorem Own.store{w:World}{B n c g:Nat}{l:List UInt8}(h:Own w B (some ⟨g,0,none⟩) n c l)(k:Nat)(b:UInt8):Own (w.setCell ⟨g,k,none⟩ (.int .u8 (b.toNat:Int))) B (some ⟨g,0,none⟩) n c (l.set k b):=by
 have:=(World.ownsRow.stored h k (.int .u8 (b.toNat:Int))).1;unfold Own bs;rw[List.map_set];exact this
theorem bx8(a b:UInt8):bits .xor .u8 (a.toNat:Int) (b.toNat:Int)=((a ^^^ b).toNat:Int):=by
 have ha:a.toNat < 256:=a.toBitVec.isLt;have hb:b.toNat < 256:=b.toBitVec.isLt;rw[u8_xor_nat _ _ ha hb,UInt8.toNat_xor]
theorem Own.weak{w:World}{B B' n c:Nat}{A:Option Addr}{l:List UInt8}(h:Own w B A n c l)(hB:B'≤B):Own w B' A n c l :=
 ⟨h.1,h.2.elim .inl fun⟨g,cap,cur,hv,hbg,r⟩=>.inr ⟨g,cap,cur,hv,Nat.le_trans hB hbg,r⟩⟩
def Made(w:World)(n:Nat)(l:List UInt8)(e:Ending)(w':World):Prop :=
 ∃ A c,e=.returned (.slice A n c)∧Own w' w.heap.size A n c l∧Below w.heap.size w w'
theorem rd_mark(w:World)(C:Array Value)(fr:Nat×Nat)(l:List UInt8)(n g:Nat)(hg:g=w.heap.size)(hn:l.length=n)(hC:C.toList=bs l):Rd (w.alloc (.cells C 5 fr)) (w.heap.size+1) (some ⟨g,0,none⟩) n l:=by
 subst hg;refine⟨hn,fun _=>⟨_,rfl,Nat.lt_succ_self _,fun j hj=>?_⟩⟩;have e:(⟨w.heap.size,0,none⟩:Addr).add j=⟨w.heap.size,j,none⟩:=by unfold Addr.add;split <;> simp_all
 rw[e,World.cell?_alloc_mark];have:C[j]? = (bs l)[j]?:=by rw[← hC,Array.getElem?_toList]
 rw[this];simp[bs,hj]
end Go.Proofs.YtdkngfdnfekgfaaGreat
