import Derived.Test.YtfmndmhjjbeokaaGreatDoorLow13
import Derived.StillTailTactics
set_option linter.unusedSimpArgs false
set_option linter.unusedVariables false
namespace Go.Proofs.YtfmndmhjjbeokaaGreatDoor
open Go.RowKit Tab
section
variable {α:Type} {f:α->List Value} {s:Nat}
theorem Lo(hf:∀ x,(f x).length=s)(l:List α)(i k:Nat)(x:α)(hx:l[i]? = some x)(hk:k < s):(l.flatMap f)[i*s+k]? = (f x)[k]?:=by
 induction l generalizing i with
 | nil=>simp at hx
 | cons y l ih =>
  rw[Cu];cases i with
  | zero =>
   simp at hx;subst hx;rw[Nat.zero_mul,Dr,Dq (by rw[hf];exact hk)]
  | succ i =>
   rw[Cy (by rw[hf,Db];omega),hf];have:=ih i (by simpa using hx);rw[<- this];congr 1;rw[Db];omega
end
structure RdB{α:Type}(f:α->List Value)(w:World)(B:Nat)(A:Option Addr)(n:Nat)(l:List α):Prop where
 len:l.length=n
 rd:RdV w B A (l.flatMap f)
section
variable {α:Type} {f:α->List Value} {s:Nat} {w w':World} {B n:Nat} {A:Option Addr} {l:List α}
theorem RdB.on(h:RdB f w w.heap.size A n l)(hb:Below w.heap.size w w'):RdB f w' w'.heap.size A n l:=⟨h.len,(h.rd.below hb).more hb.size⟩
theorem RdB.at_(h:RdB f w B A n l)(hf:∀ x,(f x).length=s)(hs:0 < s){i:Nat}(hi:i < n):∃(ad:Addr) (x:α),A=some ad/\ad.block < B/\l[i]? = some x/\(∀ v,(f x)[0]? = some v->w.cell? (ad.add (i*s))=some v)/\
  ∀ k v,0 < k->(f x)[k]? = some v->w.cell? ⟨(ad.add (i*s)).block,(ad.add (i*s)).off+k,none⟩=some v:=by
 have hl:i < l.length:=by rw[h.len];exact hi
 have hx:l[i]? = some l[i]:=Am hl;have aA:0 < (l.flatMap f).length:=by
  cases l with
  | nil=>simp at hl
  | cons y l=>rw[Cu,Aa,hf];omega
 obtain⟨ad,e,hb,hc⟩:=h.rd aA;refine⟨ad,l[i],e,hb,hx,fun v hv=>?_,fun k v hk hv=>?_⟩
 ·have:=Lo hf l i 0 _ hx hs;rw[Nat.add_zero] at this;exact hc _ v (this.trans hv)
 have aB:k < s:=by rw[<- hf l[i]];exact(Af.1 hv).1
 have:=Lo hf l i k _ hx aB;have e1:(⟨(ad.add (i*s)).block,(ad.add (i*s)).off+k,none⟩:Addr)=ad.add (i*s+k):=by
  rw[<- Ka];generalize ad.add (i*s)=p;unfold Addr.add;rw[if_neg (by omega)]
 rw[e1];exact hc _ v (this.trans hv)
end
def cc(x:ChV):List Value:=[.int .i64 x.from_,.int .i64 x.to_,.bool x.queue,.int .i64 x.cap,.int .u32 x.max,.int .i64 x.late]
def pcl(x:PtV):List Value:=[.string x.name,.int .i64 x.bud,.int .i64 x.per,.bool x.sched,.bool x.stop,.slice x.pa x.pn x.pc,.int .i64 x.h0,.int .i64 x.h1,.int .i64 x.h2,.int .i64 x.h3,.int .i64 x.h4]
theorem Gk(x:ChV):(cc x).length=6:=rfl
theorem Hn(x:PtV):(pcl x).length=11:=rfl
theorem Pg(w:World)(g j:Nat)(v:Value){aA:Array Value}{E:TypeId}{fr:Nat×Nat}(h:w.heap[g]? = some (.cells aA E fr)):(w.setCell ⟨g,j,none⟩ v).heap[g]? = some (.cells (aA.setIfInBounds j v) E fr):=by
 unfold World.setCell;simp[Array.getElem?_modify,h]
theorem OwnV.set{E s B n c g:Nat}{w:World}{l:List Value}(h:OwnV E s w B (some ⟨g,0,none⟩) n c l)(j:Nat)(v:Value)(hj:j < l.length):OwnV E s (w.setCell ⟨g,j,none⟩ v) B (some ⟨g,0,none⟩) n c (l.set j v):=by
 refine⟨by rw[List.length_set];exact h.1,?_⟩;rcases h.2 with ⟨hv,_⟩ | ⟨g',cap,aF,hv,aE,hg,aB,aD,aC,aA⟩
 ·cases hv
 simp only[Value.slice.injEq,Option.some.injEq,Addr.mk.injEq,and_true,true_and] at hv;obtain⟨rfl,rfl⟩:=hv;refine .inr ⟨g,c,aF.setIfInBounds j v,rfl,aE,Pg w g j v hg,aB,aD,by rw[Array.size_setIfInBounds];exact aC,?_⟩;rw[Array.toList_setIfInBounds,List.take_set,aA]
theorem OwnV.other{E s B n c:Nat}{w:World}{A:Option Addr}{l:List Value}(h:OwnV E s w B A n c l)(p:Addr)(v:Value)(hp:∀ g,A=some ⟨g,0,none⟩->g≠p.block):OwnV E s (w.setCell p v) B A n c l:=by
 refine⟨h.1,?_⟩;rcases h.2 with hv | ⟨g,cap,aB,hv,aA,hg,r⟩
 ·exact .inl hv
 refine .inr ⟨g,cap,aB,hv,aA,?_,r⟩;rw[Bn w p v g (hp g (by injection hv))];exact hg
section
variable {α:Type} {f:α->List Value} {s:Nat}
theorem Ln(hf:∀ x,(f x).length=s)(l:List α):(l.flatMap f).length=l.length*s:=by
 induction l with
 | nil=>simp
 | cons x l ih=>rw[Cu,Aa,hf,ih,Ad,Db];omega
theorem df(hf:∀ x,(f x).length=s)(l:List α)(i k:Nat)(x y:α)(v:Value)(hx:l[i]? = some x)(hk:k < s)(hy:f y=(f x).set k v):(l.set i y).flatMap f=(l.flatMap f).set (i*s+k) v:=by
 induction l generalizing i with
 | nil=>simp at hx
 | cons z l ih =>
  cases i with
  | zero =>
   simp at hx;subst hx;rw[Bp,Cu,Cu,hy,Nat.zero_mul,Dr,List.set_append_left _ _ (by rw[hf];exact hk)]
  | succ i =>
   rw[Bv,Cu,Cu,ih i (by simpa using hx),List.set_append_right _ _ (by rw[hf,Db];omega),hf];congr 2;rw[Db];omega
end
structure Ey{α:Type}(E s:Nat)(f:α->List Value)(w:World)(B:Nat)(A:Option Addr)(n c:Nat)(l:List α):Prop where
 len:l.length=n
 own:OwnV E s w B A n c (l.flatMap f)
section
variable {α:Type} {f:α->List Value} {E s B B' n c:Nat} {w w':World} {A:Option Addr} {l:List α}
theorem Ey.rdb(h:Ey E s f w B A n c l):RdB f w w.heap.size A n l:=⟨h.len,h.own.rd⟩
theorem Ey.cap(h:Ey E s f w B A n c l):n<=c:=h.own.cap
theorem Ey.nil(w:World)(E s B:Nat):Ey E s f w B none 0 0 []:=⟨rfl,OwnV.nil _ _ _ _⟩
theorem Ey.below(h:Ey E s f w B A n c l)(hb:Below w.heap.size w w'):Ey E s f w' B A n c l:=⟨h.len,h.own.below rfl hb⟩
theorem Ey.other(h:Ey E s f w B A n c l)(p:Addr)(v:Value)(hp:∀ g,A=some ⟨g,0,none⟩->g≠p.block):Ey E s f (w.setCell p v) B A n c l:=⟨h.len,h.own.other p v hp⟩
theorem Ey.weak(h:Ey E s f w B A n c l)(hB:B'<=B):Ey E s f w B' A n c l:=⟨h.len,h.own.weak hB⟩
theorem Ey.block(h:Ey E s f w B A n c l)(hn:0 < n):∃ g,A=some ⟨g,0,none⟩/\B<=g/\g < w.heap.size:=h.own.block hn
theorem Jh(g i:Nat):(⟨g,0,none⟩:Addr).add i=⟨g,i,none⟩:=by
 unfold Addr.add;split <;> simp_all
end
theorem jj(x:ChV)(z:Int):cc { x with late:=z }=(cc x).set 5 (.int .i64 z):=rfl
theorem g8(x:PtV)(z:Int):pcl { x with bud:=z }=(pcl x).set 1 (.int .i64 z):=rfl
theorem gz(x:PtV)(z:Int):pcl { x with per:=z }=(pcl x).set 2 (.int .i64 z):=rfl
structure CfW(w:World)(B:Nat)(A1 A2:Option Addr)(n1 n2:Nat)(P:List PtV)(C:List ChV):Prop where
 p:RdB pcl w B A1 n1 P
 c:RdB cc w B A2 n2 C
section
variable {w w':World} {B B' n1 n2:Nat} {A1 A2:Option Addr} {P:List PtV} {C:List ChV}
end
theorem RdB.other{α:Type}{f:α->List Value}{w:World}{n B:Nat}{A:Option Addr}{l:List α}(h:RdB f w B A n l)(p:Addr)(v:Value)(hp:∀ b,obk A=some b->b≠p.block):RdB f (w.setCell p v) B A n l:=by
 refine⟨h.len,fun hl=>?_⟩;obtain⟨ad,e,hb,hc⟩:=h.rd hl;refine⟨ad,e,hb,fun j u hj=>?_⟩;rw[Bf (Bn w p v (ad.add j).block (by rw[Eh];exact hp _ (by rw[e];rfl)))];exact hc j u hj
theorem G9(w:World)(v0 v1 v2:Value)(t:TypeId):Vec (w.alloc (.cells #[v0,v1,v2] t)) w.heap.size 3 fun j=>if j=0 then v0 else if j=1 then v1 else v2 :=
 Vec.lit w _ _ 3 _ fun j hj=>by rcases(by omega:j=0\/j=1\/j=2) with rfl | rfl | rfl <;> rfl
theorem Vec.three{w:World}{g:Nat}{v0 v1 v2:Value}(h:Vec w g 3 fun j=>if j=0 then v0 else if j=1 then v1 else v2):w.cell? ⟨g,0,none⟩=some v0/\w.cell? ⟨g,1,none⟩=some v1/\w.cell? ⟨g,2,none⟩=some v2:=by
 refine⟨?_,?_,?_⟩
 ·have:=h.cell 0 (by omega);rwa [if_pos rfl] at this
 ·have:=h.cell 1 (by omega);rwa [if_neg (by omega),if_pos rfl] at this
 have:=h.cell 2 (by omega);rwa [if_neg (by omega),if_neg (by omega)] at this
