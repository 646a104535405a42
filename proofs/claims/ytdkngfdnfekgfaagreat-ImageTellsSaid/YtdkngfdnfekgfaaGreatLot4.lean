import Derived.Test.YtdkngfdnfekgfaaGreatLot3
import Derived.ProofKit
import Derived.OpenShut
import Derived.ChangeOld
import Derived.SizedLaws
import Derived.Deep.CondSized
import Derived.JoinedCond
import Derived.Deep.Strs
import Derived.Maps.AppendAt
import Derived.Laws.IdiomStrings
import Derived.Deep.AppendLies
import Derived.Laws.CopyOwn
import Derived.OwnWalk
set_option maxRecDepth 100000
namespace Go.Proofs.YtdkngfdnfekgfaaGreat
open Go.ChangeShapes Go.WideShapes Go.ChangeAt Go.RowKit Go.Deep
theorem own:ownKnob Tryz.prog.godebug=none:=by kernel_rfl
theorem laidOut:laidOutB Tryz.prog=true:=by kernel_rfl
theorem ints_view{H:Type}{enc:TypeId×Value→H}{W:World}{A:Option Addr}{n k:Nat}{d:DataW H}{p:List MemPlace}
  (h:DataW.Trod enc Tryz.prog W 0 (fun _=>true) true 28 (.slice A n k) d p) :
  ∃ f:Nat→Int,RdC W W.heap.size A n (fun j=>.int .i64 (f j))∧n≤k∧(∀ j,j < n→(Lit.int .i64 (f j)).wf=true)∧(k=0∨∃ elems spare,d=.slice elems spare∧elems.length+spare.length=k):=by
 obtain⟨fuel,hf⟩:=h
 rcases open_ints Tryz.underlying28 Tryz.underlying3 (by kernel_rfl) hf with ⟨hcs,_⟩ | ⟨x,l,c,zs,hcs,_,hl,hm,hz,hx,hcell,hwz⟩
 ·simp[Value.cells] at hcs
  obtain⟨rfl,rfl,rfl⟩:=hcs
  exact⟨fun _=>0,fun h=>absurd h (by omega),Nat.le_refl _,fun j h=>absurd h (by omega),.inl rfl⟩
 ·simp[Value.cells] at hcs
  obtain⟨rfl,rfl,rfl⟩:=hcs
  have hz':zs.length=k:=by simpa using hz
  refine⟨fun j=>zs.getD j 0,fun h0=>⟨x,rfl,?_,fun j hj=>hcell j (by omega)⟩,hl,fun j hj=>?_,.inr ⟨_,_,(Prod.mk.inj hx).1,?_⟩⟩
  ·have h1:=hcell 0 (by omega)
   have h2:=World.block_lt_of_cell? W _ h1
   have e1:(x.add 0).block=x.block:=by unfold Addr.add;split <;> rfl
   rw[← e1];exact h2
  ·have:j < zs.length:=by omega
   simp only[List.getD,List.getElem?_eq_getElem this,Option.getD_some]
   exact hwz _ (List.getElem_mem this)
  ·simp[lits];omega
theorem ints_sized{H:Type}{enc:TypeId×Value→H}{W:World}{A:Option Addr}{n k:Nat}{d:DataW H}{p:List MemPlace}
  (h:DataW.Trod enc Tryz.prog W 0 (fun _=>true) true 28 (.slice A n k) d p)
  (hs:∀ elems spare,d=.slice elems spare→(elems.length+spare.length)*Tryz.prog.bytesOf 3≤reachBytes) :
  ∃ f:Nat→Int,RdC W W.heap.size A n (fun j=>.int .i64 (f j))∧n≤k∧k≤140737488351232∧∀ j,j < n→(Lit.int .i64 (f j)).wf=true:=by
 obtain⟨f,h1,h2,h4,h3⟩:=ints_view h
 refine⟨f,h1,h2,?_,h4⟩
 rcases h3 with h3 | ⟨elems,spare,hd,hk⟩
 ·omega
 ·have:=hs elems spare hd
  have e:Tryz.prog.bytesOf 3=8:=by kernel_rfl
  rw[e,hk] at this
  simp only[reachBytes] at this
  omega
end Go.Proofs.YtdkngfdnfekgfaaGreat
namespace Go.Proofs.YtdkngfdnfekgfaaGreat
open Go.RowKit
theorem u8_info:(Tryz.prog.info? 5).map (fun i=>(i.zero,i.size,i.bytes))=some (some (.int .u8 0),1,1):=by kernel_rfl
def bs(l:List UInt8):List Value:=l.map fun b=>.int .u8 (b.toNat:Int)
theorem bs_one(l:List UInt8):∀ u∈bs l,u.oneCell'=true:=by
 intro u hu;obtain⟨b,_,rfl⟩:=List.mem_map.1 hu;rfl
theorem bs_length(l:List UInt8):(bs l).length=l.length:=by simp[bs]
theorem bs_append(l m:List UInt8):bs (l++m)=bs l++bs m:=by simp[bs]
theorem bs_get(l:List UInt8)(j:Nat)(u:Value)(h:(bs l)[j]? = some u):∃ hj:j < l.length,u=.int .u8 (l[j].toNat:Int):=by
 unfold bs at h;rw[List.getElem?_map] at h;obtain⟨b,hb,rfl⟩:=Option.map_eq_some_iff.1 h;obtain⟨hj,rfl⟩:=List.getElem?_eq_some_iff.1 hb;exact⟨hj,rfl⟩
def Own(w:World)(B:Nat)(A:Option Addr)(n c:Nat)(l:List UInt8):Prop :=
 w.ownsRow B 5 1 (.slice A n c) n (bs l)
section
variable {w w':World} {B B' n c:Nat} {A:Option Addr} {l:List UInt8}
theorem Own.len(h:Own w B A n c l):l.length=n:=by
 have:=h.1;rw[bs_length] at this;omega
theorem Own.rd(h:Own w B A n c l):Rd w w.heap.size A n l:=by
 refine⟨h.len,fun hn=>?_⟩;obtain⟨g,cap,hv,_,hlt⟩:=h.form hn;obtain rfl:A=some ⟨g,0,none⟩:=by injection hv
 refine⟨_,rfl,hlt,fun j hj=>?_⟩;exact h.cells (g:=g) rfl j _ (by simp[bs,hj])
theorem Own.cap(h:Own w B A n c l):n≤c:=by
 rcases h.2 with ⟨hv,h0⟩ | ⟨g,cap,cur,hv,_,_,hnc,_⟩
 ·omega
 injection hv;omega
theorem Own.below(h:Own w B A n c l)(hs:B'=w.heap.size)(hb:Below B' w w'):Own w' B A n c l:=by
 subst hs;refine⟨h.1,?_⟩;rcases h.2 with hv | ⟨g,cap,cur,hv,hbg,hg,r⟩
 ·exact .inl hv
 refine .inr ⟨g,cap,cur,hv,hbg,?_,r⟩;have hlt:g < w.heap.size:=by
  rcases Nat.lt_or_ge g w.heap.size with h | h
  ·exact h
  rw[Array.getElem?_eq_none h] at hg;cases hg
 rw[hb.block g hlt,hg]
theorem own_lit(w:World)(B:Nat)(l:List UInt8)(C:Array Value)(hC:C.toList=bs l)(hB:B≤w.heap.size)(hl:l.length≤4096):
  Own (w.alloc (.cells C 5)) B (some ⟨w.heap.size,0,none⟩) l.length l.length l:=by
 have hs:C.size=l.length:=by rw[← Array.length_toList,hC,bs_length]
 unfold Own;rw[← hC];exact World.ownsRow_lit w C l.length hB (by unfold maxLen;omega) (by omega)
theorem rd_nil(w:World)(B:Nat):Rd w B none 0 []:=⟨rfl,fun h=>absurd h (by omega)⟩
end
theorem append_nil_src(w:World)(B:Nat)(A:Option Addr)(n c c':Nat)(l:List UInt8)(h:Own w B A n c l):
  (Builtin.append_ #[35,35] 35 #[.slice A n c,.slice none 0 c']).run Tryz.prog w=.ok (.slice A n c) w:=by
 obtain⟨i,hi,_⟩:=info_parts u8_info;rcases h.2 with ⟨hv,_⟩ | ⟨g,cap,cur,hv,_,_,hnc,_⟩
 ·simp only[Value.slice.injEq] at hv;obtain⟨rfl,rfl,rfl⟩:=hv;simp[Builtin.append_,run_underlying Tryz.underlying35,sizeOf,typeInfo,hi,Builtin.lenOf,Builtin.firstCells]
 simp only[Value.slice.injEq] at hv;obtain⟨rfl,_,rfl⟩:=hv;simp[Builtin.append_,run_underlying Tryz.underlying35,sizeOf,typeInfo,hi,Builtin.lenOf,Builtin.firstCells,hnc,storeCells]
theorem run_app(w:World)(B:Nat)(A:Option Addr)(n c:Nat)(l0:List UInt8)(h:Own w B A n c l0)(S:Option Addr)(m d:Nat)(l:List UInt8)(Bs:Nat)(hr:Rd w Bs S m l)
  (hb:n+m≤140737488355328) (hB:B≤w.heap.size) :
  ∃ A' c' w',(Builtin.append_ #[35,35] 35 #[.slice A n c,.slice S m d]).run Tryz.prog w=.ok (.slice A' (n+m) c') w'∧Own w' B A' (n+m) c' (l0++l)∧Below B w w':=by
 obtain⟨i,hi,hz,hs,hby⟩:=info_parts u8_info
 rcases S with _ | ad
 ·have hm:m=0:=by
   rcases Nat.eq_zero_or_pos m with h0 | h0
   ·exact h0
   ·obtain⟨_,h1,_⟩:=hr.2 h0
    cases h1
  subst hm
  obtain rfl:l=[]:=List.eq_nil_of_length_eq_zero hr.1
  exact⟨A,c,w,append_nil_src w B A n c d l0 h,by simpa using h,Below.refl _ _⟩
 ·have hl:(bs l).length=m*1:=by rw[bs_length,hr.1];omega
  have hnews:∀ j u,(bs l)[j]? = some u→w.cell? (ad.add j)=some u:=fun j u hu=>by
   obtain⟨hj,rfl⟩:=bs_get l j u hu
   obtain⟨ad',h1,_,hc⟩:=hr.2 (by have:=hr.1;omega)
   injection h1 with h1
   subst h1
   exact hc j hj
  obtain⟨v',w',hrun,hown,hgr,hnil,hat⟩:=run_append_own_at (P:=Tryz.prog) w B 35 35 5 i _ 1 1 Tryz.underlying35 hi hz hs hby rfl (by omega) (.slice A n c) n (bs l0) h ad m d (bs l) hl hnews (bs_one l)
   (by unfold maxLen;omega) (by omega) hB
  have hbel:Below B w w':=(Below.refl _ _).grown hgr hB (fun k hk=>by
   rcases h.2 with ⟨hv,_⟩ | ⟨g,cap,cur,hv,hbg,_⟩
   ·rw[hv] at hk;simp[Value.ownBlock] at hk
   ·rw[hv] at hk;simp[Value.ownBlock] at hk;omega)
  rw[← bs_append] at hown
  rcases hown.2 with ⟨hv,h0⟩ | ⟨g,cap,cur,hv,_⟩
  ·subst hv
   have e:n+m=0:=h0
   refine⟨none,0,w',by rw[hrun,e],?_,hbel⟩
   unfold Own;rw[e] at hown ⊢;exact hown
  ·subst hv
   exact⟨_,_,w',hrun,hown,hbel⟩
theorem wpList_app{ops:Array Oper}{rest:List Oper}{o:Oper}{a:Act}{Q:Exit→Act→World→Prop}{w:World}(hgd:o.guard=none)(s x:Operand)
  (ho:o.op=.call { callee:=.builtin .append,args:=#[s,x],argTypes:=#[35,35] }) (hty:o.type=35)
  (B:Nat) (A:Option Addr) (n c:Nat) (l0:List UInt8) (hs:a.eval s=.slice A n c) (h:Own w B A n c l0) (S:Option Addr) (m d:Nat) (l:List UInt8) (Bs:Nat) (hx:a.eval x=.slice S m d) (hr:Rd w Bs S m l)
  (N:Nat) (hN:n+m=N) (L:List UInt8) (hL:l0++l=L) (hb:N≤140737488355328) (hB:B≤w.heap.size)
  (hK:∀ A' c' w',Own w' B A' N c' L→Below B w w'→wpList Tryz.prog ops Q rest (a.put o.dst (.slice A' N c')) w'):wpList Tryz.prog ops Q (o::rest) a w:=by
 subst hN;subst hL
 refine wpList_plain hgd fun K hk=>?_
 obtain⟨A',c',w',hrun,h1,h2⟩:=run_app w B A n c l0 h S m d l Bs hr hb hB
 unfold Oper.wp execOp
 simp only[ho,hty,resolve,invoke,builtin,Sem.run_bind,Sem.run_pure,Result.andThen_ok,List.map_toArray,List.map_cons,List.map_nil,hs,hx,hrun]
 exact hk _ _ (hK A' c' w' h1 h2)
theorem wpList_wantedB{P:Program}{ops:Array Oper}{Q:Exit→Act→World→Prop}{a:Act}{w:World}{rest:List Oper}{o:Oper}(hw:Region.wanted o (yielded ops a.tmps)=true)
  (h:∀ K:Act→World→Prop,(∀ a w,wpList P ops Q rest a w→K a w)→o.wp P a w K Q):wpList P ops Q (o::rest) a w :=
 wpList_step fun K hK=>by rw[if_pos hw];exact h K hK
def str(l:List UInt8):ByteArray:=⟨l.toArray⟩
theorem run_conv(w:World)(B:Nat)(A:Option Addr)(n c:Nat)(l:List UInt8)(h:Rd w B A n l):
  (convert 35 9 (.slice A n c)).run Tryz.prog w=.ok (.string (str l)) w:=by
 rcases A with _ | ad
 ·have hn:n=0:=by
   rcases Nat.eq_zero_or_pos n with h0 | h0
   ·exact h0
   obtain⟨_,h1,_⟩:=h.2 h0;cases h1
  subst hn;obtain rfl:l=[]:=List.eq_nil_of_length_eq_zero h.1;rw[run_convert_bytes_string w _ _ _ _ _ _ Tryz.underlying35 Tryz.underlying5 Tryz.underlying9];simp[Conv.bytesToString];rfl
 obtain rfl:=h.1;exact run_convert_bytes_back w 35 9 5 ad c l Tryz.underlying35 Tryz.underlying5 Tryz.underlying9 fun j hj=>by
  obtain⟨ad',h1,_,hc⟩:=h.2 (by omega);injection h1 with h1;subst h1;exact hc j hj
theorem made_bytes(z:Value)(n:Nat):(madeCells #[z] n).toList=List.replicate n z:=by
 apply List.ext_getElem
 ·simp[size_madeCells]
 intro i h1 h2;simp[madeCells];rw[Nat.mod_one];simp
theorem wpList_mk{ops:Array Oper}{rest:List Oper}{o:Oper}{a:Act}{Q:Exit→Act→World→Prop}{w:World}(hgd:o.guard=none)(s x:Operand)
  (ho:o.op=.makeSlice 35 s x) (B:Nat) (n N:Nat) (C:Int) (hs:a.eval s=.int .i64 (n:Int)) (hx:a.eval x=.int .i64 C) (hC:C=(N:Int)) (hn:n≤N) (hN:N≤281474976710656) (hB:B≤w.heap.size)
  (hK:∀ w',Own w' B (some ⟨w.heap.size,0,none⟩) n N (List.replicate n 0)→Below B w w'→wpList Tryz.prog ops Q rest (a.put o.dst (.slice (some ⟨w.heap.size,0,none⟩) n N)) w'):wpList Tryz.prog ops Q (o::rest) a w:=by
 refine wpList_plain hgd fun K hk=>?_
 obtain⟨i,hi,hz,hsz,hby⟩:=info_parts u8_info
 subst hC
 have hr:=run_make (P:=Tryz.prog) w 35 5 i _ Tryz.underlying35 hi hz .i64 .i64 n N (by omega) (by omega) (by rw[hby];omega) (by omega)
 rw[hsz] at hr
 simp only[Int.toNat_natCast,Nat.mul_one] at hr
 unfold Oper.wp
 simp[execOp,ho,hs,hx,hr,Result.andThen]
 refine hk _ _ (hK _ ?_ ((Below.refl _ _).alloc hB _))
 refine⟨by simp[bs],.inr ⟨w.heap.size,N,_,rfl,hB,heap_alloc_new w _,hn,by unfold maxLen;omega,by simp[size_madeCells],?_⟩⟩
 show (madeCells #[Value.int .u8 0] N).toList.take (n*1)=_
 rw[made_bytes,Nat.mul_one,List.take_replicate,bs,List.map_replicate,Nat.min_eq_left hn]
 rfl
theorem wpList_cp{ops:Array Oper}{rest:List Oper}{o:Oper}{a:Act}{Q:Exit→Act→World→Prop}{w:World}(hgd:o.guard=none)(s x:Operand)
  (ho:o.op=.call { callee:=.builtin .copy,args:=#[s,x],argTypes:=#[35,35] }) (B g n c m d:Nat) (l0:List UInt8) (hs:a.eval s=.slice (some ⟨g,0,none⟩) n c) (h:Own w B (some ⟨g,0,none⟩) n c l0)
  (S:Option Addr) (l:List UInt8) (Bs:Nat) (hx:a.eval x=.slice S m d) (hr:Rd w Bs S m l) (hnm:n≤m)
  (hK:∀ w',Own w' B (some ⟨g,0,none⟩) n c (l.take n)→Below B w w'→wpList Tryz.prog ops Q rest (a.put o.dst (goInt (n:Nat))) w'):wpList Tryz.prog ops Q (o::rest) a w:=by
 have hsz:(Tryz.prog.info? 5).map (·.size)=some 1:=by kernel_rfl
 rcases Nat.eq_zero_or_pos n with h0 | h0
 ·subst h0
  refine wpList_copy_nothing hgd s x 35 35 ho 5 Tryz.underlying35 hsz _ _ 0 c m d hs hx (by simp) ?_
  refine hK w ?_ (Below.refl _ _)
  have e:l0=[]:=List.eq_nil_of_length_eq_zero h.len
  subst e
  simpa using h
 ·obtain⟨ad,rfl,_,hc⟩:=hr.2 (by omega)
  rcases h.2 with ⟨hv,_⟩ | ⟨g',c',cur,hv,hbg,hg,hnc,hcm,hcs,htake⟩
  ·cases hv
  ·simp only[Value.slice.injEq,Option.some.injEq,Addr.mk.injEq,and_true,true_and] at hv
   obtain⟨rfl,rfl⟩:=hv
   have hl:(bs (l.take n)).length=n:=by rw[bs_length,List.length_take,hr.1];omega
   refine wpList_copy_own hgd s x 35 35 ho 5 Tryz.underlying35 hsz g 0 n c ad m d hs hx cur 5 hg (bs (l.take n)) (by rw[hl];exact(Nat.min_eq_right hnm).symm)
    (fun j u hu=>?_) (by rw[hl,hcs];omega) (bs_one _) ?_
   ·obtain⟨hj,rfl⟩:=bs_get _ j u hu
    rw[List.length_take] at hj
    rw[List.getElem_take]
    exact hc j (by omega)
   ·have hz:((bs (l.take n)).length:Nat)=n:=hl
    have:=hK (w.setRow g (cur.toList.take 0++(bs (l.take n)++cur.toList.drop (0+(bs (l.take n)).length))).toArray) ?_ (below_setRow (Below.refl _ _) hbg _)
    ·rwa [hz] at this ⊢
    ·refine⟨by rw[hl];omega,.inr ⟨g,c,_,rfl,hbg,setRow_heap w g cur _ 5 _ hg,hnc,hcm,?_,?_⟩⟩
     ·simp only[List.size_toArray,List.length_append,List.length_take,List.length_drop,Array.length_toList,hl,hcs]
      omega
     ·simp only[List.take_zero,List.nil_append,Nat.mul_one]
      exact List.take_left' hl
theorem Own.at_{w:World}{B n c:Nat}{A:Option Addr}{l:List UInt8}(h:Own w B A n c l)(hn:0 < n):∃ g,A=some ⟨g,0,none⟩∧B≤g:=by
 obtain⟨g,cap,hv,hb,_⟩:=h.form hn;injection hv with h1;exact⟨g,h1,hb⟩
theorem Own.cell{w:World}{B n c g:Nat}{l:List UInt8}(h:Own w B (some ⟨g,0,none⟩) n c l){k:Nat}{b:UInt8}(hb:l[k]? = some b):w.cell? ⟨g,k,none⟩=some (.int .u8 (b.toNat:Int)):=by
 obtain⟨hk,rfl⟩:=List.getElem?_eq_some_iff.1 hb;have:=h.len;rw[World.ownsRow.cellAt h k (by omega)];simp[bs,hk]
theorem Own.free{w:World}{B n c g:Nat}{l:List UInt8}(h:Own w B (some ⟨g,0,none⟩) n c l)(k:Nat):w.frozen? ⟨g,k,none⟩=false:=World.ownsRow.frozenAt h k
theorem Own.store{w:World}{B n c g:Nat}{l:List UInt8}(h:Own w B (some ⟨g,0,none⟩) n c l)(k:Nat)(b:UInt8):Own (w.setCell ⟨g,k,none⟩ (.int .u8 (b.toNat:Int))) B (some ⟨g,0,none⟩) n c (l.set k b):=by
 have:=(World.ownsRow.stored h k (.int .u8 (b.toNat:Int))).1;unfold Own bs;rw[List.map_set];exact this
theorem bx8(a b:UInt8):bits .xor .u8 (a.toNat:Int) (b.toNat:Int)=((a ^^^ b).toNat:Int):=by
 have ha:a.toNat < 256:=a.toBitVec.isLt;have hb:b.toNat < 256:=b.toBitVec.isLt;rw[u8_xor_nat _ _ ha hb,UInt8.toNat_xor]
theorem Own.weak{w:World}{B B' n c:Nat}{A:Option Addr}{l:List UInt8}(h:Own w B A n c l)(hB:B'≤B):Own w B' A n c l :=
 ⟨h.1,h.2.elim .inl fun⟨g,cap,cur,hv,hbg,r⟩=>.inr ⟨g,cap,cur,hv,Nat.le_trans hB hbg,r⟩⟩
def Made(w:World)(n:Nat)(l:List UInt8)(e:Ending)(w':World):Prop :=
 ∃ A c,e=.returned (.slice A n c)∧Own w' w.heap.size A n c l∧Below w.heap.size w w'
theorem rd_mark(w:World)(C:Array Value)(fr:Nat×Nat)(l:List UInt8)(n g:Nat)(hg:g=w.heap.size)(hn:l.length=n)(hC:C.toList=bs l):Rd (w.alloc (.cells C 5 fr)) (w.heap.size+1) (some ⟨g,0,none⟩) n l:=by
 subst hg;refine⟨hn,fun _=>⟨_,rfl,Nat.lt_succ_self _,fun j hj=>?_⟩⟩;have e:(⟨w.heap.size,0,none⟩:Addr).add j=⟨w.heap.size,j,none⟩:=by unfold Addr.add;split <;> simp_all
 rw[e,World.cell?_alloc_mark];have:C[j]? = (bs l)[j]?:=by rw[← hC,Array.getElem?_toList]
 rw[this];simp[bs,hj]
end Go.Proofs.YtdkngfdnfekgfaaGreat
namespace Go.Proofs.YtdkngfdnfekgfaaGreat
open Go.ChangeShapes Go.WideShapes Go.ChangeAt Go.RowKit
theorem bytes_u8:Tryz.prog.bytesOf 5=1:=by kernel_rfl
theorem u8_of(n:Int)(h:(Lit.int .u8 n).wf=true):((UInt8.ofNat n.toNat).toNat:Int)=n:=by
 have hb:=bounds_u8 h;simp;omega
theorem row_rd{w:World}{x:Addr}{l c:Nat}{zs:List Int}(hl:l≤c)(hz:zs.length=c)(hcell:∀ i,i < zs.length→w.cell? (x.add i)=some (.int .u8 (zs.getD i 0)))(hwz:∀ n∈zs,(Lit.int .u8 n).wf=true):
  ∃ bl,Rd w w.heap.size (some x) l bl:=by
 refine⟨(zs.take l).map fun n=>UInt8.ofNat n.toNat,by simp;omega,fun h0=>⟨x,rfl,?_,fun j hj=>?_⟩⟩
 ·have h1:=hcell 0 (by omega);have h2:=World.block_lt_of_cell? w _ h1;have e1:(x.add 0).block=x.block:=by unfold Addr.add;split <;> rfl
  rw[← e1];exact h2
 have hj':j < l:=by simp at hj;omega
 have hjz:j < zs.length:=by omega
 rw[hcell j hjz];congr 2;rw[List.getElem_map,List.getElem_take,u8_of _ (hwz _ (List.getElem_mem hjz))];simp[List.getD,List.getElem?_eq_getElem hjz]
theorem row_view{H:Type}{enc:TypeId×Value→H}{W:World}{A:Option Addr}{n k:Nat}{d:DataW H}{p:List MemPlace}
  (h:DataW.Trod enc Tryz.prog W 0 (fun _=>true) true 35 (.slice A n k) d p) :
  ∃ l,Rd W W.heap.size A n l∧n≤k∧(k=0∨∃ elems spare,d=.slice elems spare∧elems.length+spare.length=k):=by
 obtain⟨fuel,hf⟩:=h
 rcases open_ints Tryz.underlying35 Tryz.underlying5 (by kernel_rfl) hf with ⟨hcs,_⟩ | ⟨x,l,c,zs,hcs,_,hl,hm,hz,hx,hcell,hwz⟩
 ·simp[Value.cells] at hcs
  obtain⟨rfl,rfl,rfl⟩:=hcs
  exact⟨[],rd_nil _ _,Nat.le_refl _,.inl rfl⟩
 ·simp[Value.cells] at hcs
  obtain⟨rfl,rfl,rfl⟩:=hcs
  have hz':zs.length=k:=by simpa using hz
  obtain⟨bl,hr⟩:=row_rd hl hz' hcell hwz
  refine⟨bl,hr,hl,.inr ⟨_,_,(Prod.mk.inj hx).1,?_⟩⟩
  simp[lits]
  omega
theorem row_sized{H:Type}{enc:TypeId×Value→H}{W:World}{A:Option Addr}{n k:Nat}{d:DataW H}{p:List MemPlace}
  (h:DataW.Trod enc Tryz.prog W 0 (fun _=>true) true 35 (.slice A n k) d p)
  (hs:∀ elems spare,d=.slice elems spare→(elems.length+spare.length)*Tryz.prog.bytesOf 5≤reachBytes) :
  ∃ l,Rd W W.heap.size A n l∧n≤k∧k≤140737488351232:=by
 obtain⟨l,h1,h2,h3⟩:=row_view h
 refine⟨l,h1,h2,?_⟩
 rcases h3 with h3 | ⟨elems,spare,hd,hk⟩
 ·omega
 ·have:=hs elems spare hd
  rw[bytes_u8,hk] at this
  simp only[reachBytes] at this
  omega
end Go.Proofs.YtdkngfdnfekgfaaGreat
