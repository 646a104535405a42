import Derived.Test.YtfmndmhjjbeokaaGreatDoorLow3
import Derived.Deep.AppendLies
import Derived.Deep.RegionLaw
import Derived.IntWalk
import Derived.BigQuiet
import Derived.Deep.QuietTactic
set_option maxHeartbeats 4000000
set_option maxRecDepth 100000
set_option linter.unusedSimpArgs false
set_option linter.unusedVariables false
namespace Go.Proofs.YtfmndmhjjbeokaaGreatDoor
namespace Tab
def ndEq(x y:Nd):Bool:=decide (x.k=y.k) && decide (x.p=y.p) && decide (x.n=y.n)
theorem ndEq_iff(x y:Nd):ndEq x y=true↔x=y:=by
 obtain⟨a,b,c⟩:=x;obtain⟨d,e,f⟩:=y;unfold ndEq;simp[Nd.mk.injEq,and_assoc]
def sameN:List Nd->List Nd->Bool
 | [],[]=>true
 | x::a,y::b=>ndEq x y && sameN a b
 | _,_=>false
theorem sameN_iff(a b:List Nd):sameN a b=true↔a=b:=by
 induction a generalizing b with
 | nil=>cases b <;> simp[sameN]
 | cons x a ih =>
  cases b with
  | nil=>simp[sameN]
  | cons y b=>simp only[sameN,Au,ndEq_iff,ih,List.cons.injEq]
theorem sameN_len{a b:List Nd}(h:¬ a.length=b.length):sameN a b=false:=by
 cases hs:sameN a b with
 | false=>rfl
 | true=>rw[sameN_iff] at hs;rw[hs] at h;exact absurd rfl h
end Tab
end Go.Proofs.YtfmndmhjjbeokaaGreatDoor
namespace Go.Proofs.YtfmndmhjjbeokaaGreatDoor
open Go.RowKit Tab
theorem elR:Elt 90 129 2 16 (.agg #[.int .i64 0,.int .i64 0]):=⟨Tryz.underlying90,by kernel_rfl,rfl,by omega⟩
def rs:List Rn->List Value
 | []=>[]
 | r::l=>.int .i64 r.p::.int .i64 (r.n:Int)::rs l
theorem Gi(l:List Rn):(rs l).length=l.length*2:=by
 induction l with
 | nil=>rfl
 | cons x l ih=>simp only[rs,Ad,ih];omega
theorem Fp(l m:List Rn):rs (l++m)=rs l++rs m:=by
 induction l with
 | nil=>rfl
 | cons x l ih=>simp[rs,ih]
theorem Kl(l:List Rn):∀ u∈rs l,u.oneCell'=true:=by
 induction l with
 | nil=>simp[rs]
 | cons x l ih =>
  intro u hu;simp only[rs,Ba] at hu;rcases hu with rfl | rfl | hu
  ·rfl
  ·rfl
  exact ih u hu
theorem af(l:List Rn)(i:Nat)(h:i < l.length):(rs l)[i*2]? = some (.int .i64 l[i].p)/\(rs l)[i*2+1]? = some (.int .i64 (l[i].n:Int)):=by
 induction l generalizing i with
 | nil=>simp at h
 | cons x l ih =>
  cases i with
  | zero=>simp[rs]
  | succ i =>
   have:=ih i (by simpa using h);have e:(i+1)*2=i*2+1+1:=by omega
   rw[e];simp only[rs,C9,List.getElem_cons_succ];exact this
structure RdR(w:World)(B:Nat)(A:Option Addr)(n:Nat)(l:List Rn):Prop where
 len:l.length=n
 rd:RdV w B A (rs l)
section
variable {w w':World} {B B' n:Nat} {A:Option Addr} {l:List Rn}
theorem RdR.below(h:RdR w B A n l)(hb:Below B w w'):RdR w' B A n l:=⟨h.len,h.rd.below hb⟩
theorem RdR.more(h:RdR w B A n l)(hB:B<=B'):RdR w B' A n l:=⟨h.len,h.rd.more hB⟩
theorem RdR.on(h:RdR w w.heap.size A n l)(hb:Below w.heap.size w w'):RdR w' w'.heap.size A n l:=(h.below hb).more hb.size
theorem RdR.at_(h:RdR w B A n l){i:Nat}(hi:i < n):∃(ad:Addr) (r:Rn),A=some ad/\ad.block < B/\l[i]? = some r/\
  w.cell? (ad.add (i*2))=some (.int .i64 r.p)/\w.cell? ⟨(ad.add (i*2)).block,(ad.add (i*2)).off+1,none⟩=some (.int .i64 (r.n:Int)):=by
 have hl:i < l.length:=by rw[h.len];exact hi
 obtain⟨ad,e,hb,hc⟩:=h.rd (by rw[Gi];omega);obtain⟨h1,h2⟩:=af l i hl;have e1:(⟨(ad.add (i*2)).block,(ad.add (i*2)).off+1,none⟩:Addr)=ad.add (i*2+1):=by
  rw[<- Ka];generalize ad.add (i*2)=p;unfold Addr.add;rw[if_neg (by omega)]
 exact⟨ad,l[i],e,hb,Am hl,hc _ _ h1,by rw[e1];exact hc _ _ h2⟩
end
def obk(A:Option Addr):Option Nat:=A.map (·.block)
theorem Io(A:Option Addr)(n c:Nat):(Value.slice A n c).ownBlock=obk A:=by cases A <;> rfl
structure Grew(A0 A:Option Addr)(w w':World):Prop where
 gb:w.grownBy w' (obk A0)
 at_:obk A=obk A0\/∃ g,obk A=some g/\w.heap.size<=g
theorem Grew.refl(A:Option Addr)(w:World):Grew A A w w:=⟨⟨rfl,rfl,rfl,Ag _,fun _ _ _=>rfl⟩,.inl rfl⟩
theorem Grew.trans{A0 A1 A2:Option Addr}{w w1 w2:World}(h:Grew A0 A1 w w1)(k:Grew A1 A2 w1 w2):Grew A0 A2 w w2:=by
 refine⟨⟨k.gb.os.trans h.gb.os,k.gb.tape.trans h.gb.tape,k.gb.output.trans h.gb.output,Ai h.gb.size k.gb.size,fun i hi aA=>?_⟩,?_⟩
 ·refine(k.gb.block i (Bc hi h.gb.size) ?_).trans (h.gb.block i hi aA);rcases h.at_ with e | ⟨g,e,hg⟩
  ·rw[e];exact aA
  rw[e];intro e2;injection e2 with e2;omega
 rcases k.at_ with e | ⟨g,e,hg⟩
 ·rw[e];exact h.at_
 exact .inr ⟨g,e,Ai h.gb.size hg⟩
theorem Grew.bel{A0:Option Addr}{w w':World}(h:Below w.heap.size w w'):Grew A0 A0 w w':=⟨⟨h.os,h.tape,h.output,h.size,fun i hi _=>h.block i hi⟩,.inl rfl⟩
theorem Grew.drew{A0 A:Option Addr}{w w':World}(h:Grew A0 A w.drew w'):Grew A0 A w w':=⟨⟨h.gb.os,h.gb.tape,h.gb.output,h.gb.size,h.gb.block⟩,h.at_⟩
theorem Gn{T E s b:Nat}{z:Value}(L:Elt T E s b z)(w:World)(B:Nat)(A:Option Addr)(n c:Nat)(l0:List Value)(h:OwnV E s w B A n c l0)(ad:Addr)(m d:Nat)(l:List Value)(Bs:Nat)(hr:RdV w Bs (some ad) l)
  (hl:l.length=m*s) (aH:0 < m) (h1:∀ u∈l,u.oneCell'=true) (hb:(n+m)*b<=140737488355328) (hm:n+m<=maxLen) (hB:B<=w.heap.size) :
  ∃ A' c' w',(Builtin.append_ #[T,T] T #[.slice A n c,.slice (some ad) m d]).run Tryz.prog w=.ok (.slice A' (n+m) c') w'/\OwnV E s w' B A' (n+m) c' (l0++l)/\Below B w w'/\Grew A A' w w':=by
 obtain⟨i,hi,hz,hs,aI⟩:=info_parts L.hi;have aC:0 < l.length:=by rw[hl];exact Nat.mul_pos aH L.hs
 obtain⟨aL,e,_,hc⟩:=hr aC;injection e with e;subst e;obtain⟨v',w',aB,aA,aD,aG,aF⟩:=run_append_own_at (P:=Tryz.prog) w B T T E i z s b L.ht hi hz hs aI L.hz L.hs (.slice A n c) n l0 h ad m d l hl hc h1 hm hb hB;have aE:Below B w w':=(Aj _ _).grown aD hB (fun k hk=>by
  rcases h.2 with ⟨hv,_⟩ | ⟨g,cap,aJ,hv,aK,_⟩
  ·rw[hv] at hk;simp[Value.ownBlock] at hk
  rw[hv] at hk;simp[Value.ownBlock] at hk;omega)
 rcases aA.2 with ⟨hv,h0⟩ | ⟨g,cap,aJ,hv,_⟩
 ·omega
 subst hv;rw[Io] at aD aF;rw[Io] at aF;exact⟨_,_,w',aB,aA,aE,aD,aF.imp id fun e=>⟨_,e,Ag _⟩⟩
section
variable {T E s b:Nat} {z:Value}
theorem Xu(L:Elt T E s b z){ops:Array Oper}{o:Oper}{a:Act}{K:Act->World->Prop}{Q:Exit->Act->World->Prop}{w:World}{F:Prop}(aD:o.guard=none)(x y:Operand)
  (ho:o.op=.call { callee:=.builtin .append,args:=#[x,y],argTypes:=#[T,T] }) (aB:o.type=T)
  (B:Nat) (A:Option Addr) (n c:Nat) (l0:List Value) (hx:a.eval x=.slice A n c) (h:OwnV E s w B A n c l0) (ad:Addr) (m d:Nat) (l:List Value) (Bs:Nat) (hy:a.eval y=.slice (some ad) m d) (hr:RdV w Bs (some ad) l)
  (hl:l.length=m*s) (aC:0 < m) (h1:∀ u∈l,u.oneCell'=true) (hb:(n+m)*b<=140737488355328) (hm:n+m<=maxLen) (hB:B<=w.heap.size)
  (N:Nat) (hN:n+m=N) (M:List Value) (hM:l0++l=M)
  (hK:∀ A' c' w',OwnV E s w' B A' N c' M->Below B w w'->Grew A A' w w'->K (a.put o.dst (.slice A' N c')) w'):if Region.wanted o (yielded ops a.tmps)=true then Oper.wp Tryz.prog o a w K Q else F:=by
 have hw:Region.wanted o (yielded ops a.tmps)=true:=by simp[Region.wanted,aD]
 rw[if_pos hw];subst hN;subst hM;obtain⟨A',c',w',aA,h1,h2,h3⟩:=Gn L w B A n c l0 h ad m d l Bs hr hl aC h1 hb hm hB;unfold Oper.wp execOp;simp only[ho,aB,resolve,invoke,builtin,Sem.run_bind,Sem.run_pure,At,Cs,Cp,Da,hx,hy,aA];exact hK A' c' w' h1 h2 h3
theorem Ea(L:Elt T E s b z){ops:Array Oper}{aA:List Oper}{o:Oper}{a:Act}{Q:Exit->Act->World->Prop}{w:World}(aE:o.guard=none)(x y:Operand)
  (ho:o.op=.call { callee:=.builtin .append,args:=#[x,y],argTypes:=#[T,T] }) (aC:o.type=T)
  (B:Nat) (A:Option Addr) (n c:Nat) (l0:List Value) (hx:a.eval x=.slice A n c) (h:OwnV E s w B A n c l0) (ad:Addr) (m d:Nat) (l:List Value) (Bs:Nat) (hy:a.eval y=.slice (some ad) m d) (hr:RdV w Bs (some ad) l)
  (hl:l.length=m*s) (aD:0 < m) (h1:∀ u∈l,u.oneCell'=true) (hb:(n+m)*b<=140737488355328) (hm:n+m<=maxLen) (hB:B<=w.heap.size)
  (N:Nat) (hN:n+m=N) (M:List Value) (hM:l0++l=M)
  (hK:∀ A' c' w',OwnV E s w' B A' N c' M->Below B w w'->Grew A A' w w'->wpList Tryz.prog ops Q aA (a.put o.dst (.slice A' N c')) w'):wpList Tryz.prog ops Q (o::aA) a w:=by
 subst hN;subst hM;refine wpList_plain aE fun K hk=>?_;obtain⟨A',c',w',aB,h1,h2,h3⟩:=Gn L w B A n c l0 h ad m d l Bs hr hl aD h1 hb hm hB;unfold Oper.wp execOp;simp only[ho,aC,resolve,invoke,builtin,Sem.run_bind,Sem.run_pure,At,Cs,Cp,Da,hx,hy,aB];exact hk _ _ (hK A' c' w' h1 h2 h3)
end
end Go.Proofs.YtfmndmhjjbeokaaGreatDoor
namespace Go.Proofs.YtfmndmhjjbeokaaGreatDoor
open Go.RowKit
def wv(n:Int)(m:Nat):Int:=if 0<=n/\n<=m then n else if n.tmod (m+1) < 0 then n.tmod (m+1)+m+1 else n.tmod (m+1)
theorem mu(n:Int)(m:Nat):0<=wv n m/\wv n m<=m:=by
 unfold wv;split
 ·omega
 by_cases h:0<=n
 ·have e:n.tmod ((m:Int)+1)=n % ((m:Int)+1):=Ce h;have h2:=Int.emod_nonneg n (b:=(m:Int)+1) (by omega);have h3:=Int.emod_lt_of_pos n (b:=(m:Int)+1) (by omega);rw[e,if_neg (by omega)];omega
 obtain⟨h2,h3⟩:=Nl n m (by omega);split <;> omega
theorem Xh(n:Int)(m:Nat)(w:World)(hm:m < 4611686018427387904):
  Calls Tryz.prog 22 #[.int .i64 n,.int .i64 0,.int .i64 m] w fun e w'=>e=.returned (.int .i64 (wv n m))/\w'=w:=by
 generalize hv:wv n m=v;have HV:=hid hv;clear hv;have aA:(0:Int)<=(m:Int):=C5 _;by_cases h0:0<=n
 ·by_cases h1:n<=(m:Int)
  ·go_in;go_wp2;go_ret;exact⟨by rw[<- HV.o,wv,if_pos ⟨h0,h1⟩];rfl,rfl⟩
  have h2:=Int.emod_nonneg n (b:=(m:Int)+1) (by omega);have h3:n % ((m:Int)+1)<=m:=by have:=Int.emod_lt_of_pos n (b:=(m:Int)+1) (by omega);omega
  go_in;go_wp2;go_ret;refine⟨?_,rfl⟩;have e:n.tmod ((m:Int)+1)=n % ((m:Int)+1):=Ce h0;rw[<- HV.o,wv,if_neg (by omega),e,if_neg (by omega)];simp
 obtain⟨h2,h3⟩:=Nl n m (by omega);by_cases h4:n.tmod ((m:Int)+1) < 0
 ·go_in;go_wp2;go_ret;refine⟨?_,rfl⟩;rw[<- HV.o,wv,if_neg (by omega),if_pos h4];simp
 go_in;go_wp2;go_ret;refine⟨?_,rfl⟩;rw[<- HV.o,wv,if_neg (by omega),if_neg (by omega)];simp
structure Eb(w:World)(B b:Nat)(A:Option Addr)(m c:Nat)(f:Nat->Int)(at_:Nat):Prop where
 rd:RdC w B A m (fun j=>.int .i64 (f j))
 low:B<=b
 c0:w.cell? ⟨b,0,none⟩=some (.slice A m c)
 c1:w.cell? ⟨b,1,none⟩=some (.int .i64 (at_:Int))
 fr:w.frozen? ⟨b,1,none⟩=false
 le:at_<=m
 two:w.cell? ⟨b,2,none⟩=none
def fa(B b:Nat)(A:Option Addr)(m c:Nat)(f:Nat->Int)(n:Nat)(w:World)(e:Ending)(w':World):Prop :=
 ∃ k at_:Nat,k < n/\e=.returned (.int .i64 (k:Int))/\Eb w' B b A m c f at_/\w.grownBy w' (some b)
theorem St(B b:Nat)(A:Option Addr)(m c:Nat)(f:Nat->Int)(at_ n:Nat)(w:World)(h:Eb w B b A m c f at_)(hn:1<=n)(aL:n<=64)(hm:m<=140737488351232):
  Calls Tryz.prog 24 #[.pointer (some ⟨b,0,none⟩),.int .i64 (n:Int)] w (fa B b A m c f n w):=by
 have H:=hid h;have c0:=h.c0;have c1:=h.c1;have aM:=h.le;clear h;by_cases aE:at_ < m
 ·obtain⟨ad,rfl,aO,aA⟩:=H.o.rd.at_ aE;have aF:=H.o.fr;have aC:=H.o.low;have aB:=H.o.two;have hF:∀ q,Eb ((w.drewN q).setCell ⟨b,1,none⟩ (.int .i64 ((at_:Int)+1))) B b (some ad) m c f (at_+1)/\w.grownBy ((w.drewN q).setCell ⟨b,1,none⟩ (.int .i64 ((at_:Int)+1))) (some b):=fun q=>by
   have aN:=Bj w _ c1;refine⟨⟨H.o.rd.keep fun p hp=>?_,aC,?_,?_,?_,by omega,?_⟩,⟨rfl,rfl,rfl,by simp[World.setCell],fun k hk aI=>?_⟩⟩
   ·exact Bf (Bn (w.drewN q) ⟨b,1,none⟩ _ p.block (fun e=>by dsimp only at e;omega))
   ·rw[Cg _ _ _ _ (by simp)];exact c0
   ·exact Ci _ _ _ (u:=.int .i64 (at_:Int)) c1
   ·simp;exact aF
   ·rw[Cg _ _ _ _ (by simp)];exact aB
   exact Bn (w.drewN q) ⟨b,1,none⟩ _ k (fun e=>aI (by rw[e]))
  have F:=hid hF;clear hF;have aJ:decide (m<=at_)=false:=Ac (by omega);go_in;go_wp2_with fail;go_quiet (fail);go_wp2_with fail;obtain⟨T1,G1⟩:=F.o nq;generalize (w.drewN nq).setCell ⟨b,1,none⟩ (.int .i64 ((at_:Int)+1))=w1 at T1 G1 |-;have d0:=T1.c0;have d1:w1.cell? ⟨b,1,none⟩=some (.int .i64 ((at_:Int)+1)):=T1.c1;obtain⟨aP,e,_,aG⟩:=T1.rd.at_ aE;injection e with e;subst e;clear c0 c1 aA aF;have aK:IntKind.i64.wrap ((at_:Int)+1 - 1)=(at_:Int):=by rw[Dt _ (by omega)];omega
  have aD:=mu (f at_) 1073741824;have hW:=Xh (f at_) 1073741824;generalize wv (f at_) 1073741824=z at aD hW;obtain⟨Z,rfl⟩:=Ax aD.1;have aH:¬ n=0:=by omega
  have HW:=hid hW;clear hW;go_quiet ((go_at_call 22;exact Calls.quiet_of_same (HW.o _ (by decide))));go_wp2;go_ret;exact⟨Z % n,at_+1,Nat.mod_lt _ (by omega),by rw[Di];rfl,⟨T1.rd,T1.low,T1.c0,T1.c1,T1.fr,T1.le,T1.two⟩,⟨G1.os,G1.tape,G1.output,G1.size,G1.block⟩⟩
 have aJ:decide (m<=at_)=true:=Ae (by omega);have F:Hd (∀ q,Eb (w.drewN q) B b A m c f at_/\w.grownBy (w.drewN q) (some b)):=hid fun q=>by
  have h:=H.o;exact⟨⟨h.rd,h.low,h.c0,h.c1,h.fr,h.le,h.two⟩,⟨rfl,rfl,rfl,Ag _,fun _ _ _=>rfl⟩⟩
 go_in;go_wp2_with fail;go_quiet (fail);go_wp2;go_ret;exact⟨0,at_,by omega,rfl,(F.o _).1,(F.o _).2⟩
end Go.Proofs.YtfmndmhjjbeokaaGreatDoor
namespace Go.Proofs.YtfmndmhjjbeokaaGreatDoor
open Go.RowKit Tab
theorem D6(B b:Nat)(A:Option Addr)(m c:Nat)(f:Nat->Int)(at_ n:Nat)(N:Int)(w:World)(h:Eb w B b A m c f at_)(hN:N=(n:Int))(hn:1<=n)(aA:n<=64)(hm:m<=140737488351232):
  Calls Tryz.prog 24 #[.pointer (some ⟨b,0,none⟩),.int .i64 N] w (fa B b A m c f n w):=by
 subst hN;exact St B b A m c f at_ n w h hn aA hm
theorem Eb.lt{w:World}{B b:Nat}{A:Option Addr}{m c:Nat}{f:Nat->Int}{at_:Nat}(h:Eb w B b A m c f at_):b < w.heap.size:=Bj w _ h.c0
theorem Eb.below{w w':World}{B b:Nat}{A:Option Addr}{m c:Nat}{f:Nat->Int}{at_:Nat}(h:Eb w B b A m c f at_){Bs:Nat}(hb:Below Bs w w')(aA:b < Bs):Eb w' B b A m c f at_ :=
 ⟨h.rd.keep fun p hp=>hb.cell (by have:=h.low;omega),h.low,(hb.cell (p:=⟨b,0,none⟩) aA).trans h.c0,(hb.cell (p:=⟨b,1,none⟩) aA).trans h.c1,(hb.frozen (p:=⟨b,1,none⟩) aA).trans h.fr,h.le,(hb.cell (p:=⟨b,2,none⟩) aA).trans h.two⟩
theorem D8{a w w':World}{x:Option Nat}(h:a.grownBy w x)(k:w.grownBy w' x):a.grownBy w' x :=
 ⟨k.os.trans h.os,k.tape.trans h.tape,k.output.trans h.output,Ai h.size k.size,fun i hi aA=>(k.block i (Bc hi h.size) aA).trans (h.block i hi aA)⟩
theorem F8{a w w':World}{x:Option Nat}{B:Nat}(h:a.grownBy w x)(k:Below B w w')(hB:a.heap.size<=B):a.grownBy w' x :=
 ⟨k.os.trans h.os,k.tape.trans h.tape,k.output.trans h.output,Ai h.size k.size,fun i hi aA=>(k.block i (by omega)).trans (h.block i hi aA)⟩
theorem Es{a w:World}{x:Option Nat}(h:a.grownBy w x)(o:Obj):a.grownBy (w.alloc o) x:=F8 h (bl1 w o) h.size
structure Ft(w:World)(B:Nat)(A:Option Addr)(n c:Nat)(l:List Nd):Prop where
 len:l.length=n
 own:OwnV 54 3 w B A n c (ns l)
 bd:∀ x∈l,NdIn x
theorem Ft.rdn{w:World}{B n c:Nat}{A:Option Addr}{l:List Nd}(h:Ft w B A n c l):RdN w w.heap.size A n l:=⟨h.len,h.own.rd,h.bd⟩
theorem Ft.keep{w w':World}{B n c:Nat}{A:Option Addr}{l:List Nd}(h:Ft w B A n c l)(hk:∀ b,B<=b->b < w.heap.size->w'.heap[b]? = w.heap[b]?):Ft w' B A n c l:=⟨h.len,h.own.keep hk,h.bd⟩
theorem Ft.gb{w w':World}{B n c b:Nat}{A:Option Addr}{l:List Nd}(h:Ft w B A n c l)(hg:w.grownBy w' (some b))(hb:b < B):Ft w' B A n c l :=
 h.keep fun k hk aA=>hg.block k aA (fun e=>by injection e with e;omega)
theorem Ft.lit(w:World)(B:Nat)(C:Array Value)(l:List Nd)(m:Nat)(hl:l.length=m)(hC:C.toList=ns l)(hB:B<=w.heap.size)(hm:m<=4096)(hb:∀ x∈l,NdIn x):Ft (w.alloc (.cells C 54)) B (some ⟨w.heap.size,0,none⟩) m m l:=by
 refine⟨hl,?_,hb⟩;have:=D7 w 54 3 B C m (by rw[<- C8,hC,Fy,hl]) hB (by unfold maxLen;omega);rwa [hC] at this
def Qaj(B b:Nat)(A:Option Addr)(m c:Nat)(f:Nat->Int)(Q X D:Nat)(w:World)(e:Ending)(w':World):Prop :=
 ∃(x:Nd) (k:F) (A':Option Addr) (n' c' at':Nat),e=.returned (.slice A' n' c')/\(F.cons x k .nil).ok/\Ft w' w.heap.size A' n' c' (x::k.flat)/\k.sz+1<=X/\k.dep<=D/\(∀ y∈x::k.flat,0<=y.p/\y.p < (Q:Int))/\Eb w' B b A m c f at'/\w.grownBy w' (some b)
theorem Ff{k p n:Int}(hk:0<=k/\k<=9)(hp:0<=p/\p<=9)(hn:0<=n/\n<=1048576):NdIn ⟨k,p,n⟩:=by
 unfold NdIn Ef;dsimp only;omega
theorem Ub(B b:Nat)(A:Option Addr)(m c:Nat)(f:Nat->Int)(hm:m<=140737488351232)(parts:Nat)(aR:1<=parts)(bQ:parts<=6)(d:Nat):∀(at_:Nat) (w:World),d<=6->Eb w B b A m c f at_->
  Calls Tryz.prog 10 #[.pointer (some ⟨b,0,none⟩),.int .i64 (parts:Int),.int .i64 (d:Int)] w (Qaj B b A m c f parts (5 ^ (d+1)) d w):=by
 induction d with
 | zero =>
  intro at_ w hd T;have hX:5 ^ (0+1)=5:=rfl;rw[hX];clear hX;go_in;go_wp2_with fail;refine(D6 B b A m c f at_ 7 _ w T rfl (by omega) (by omega) hm).mono ?_;rintro e w1⟨k,aD,hk,rfl,T1,G1⟩;by_cases aO:k=0
  ·subst aO;go_wp2_with fail;refine(D6 B b A m c f aD 4 _ w1 T1 rfl (by omega) (by omega) hm).mono ?_;rintro e w2⟨j,aC,hj,rfl,T2,G2⟩;go_wp2;go_ret;exact⟨⟨2,0,1+(j:Int)⟩,.nil,_,1,1,aC,rfl,⟨(Em _ _ _).2 (by omega),by simp[F.cnt,kn],trivial,trivial⟩,Ft.lit w2 w.heap.size #[.int .i64 2,.int .i64 0,.int .i64 (1+(j:Int))] [⟨2,0,1+(j:Int)⟩] 1 rfl rfl (Ai G1.size G2.size) (by omega) (by intro x hx;simp at hx;subst hx;exact Ff (by omega) (by omega) (by omega)),by simp only[F.sz];omega,by simp only[F.dep];omega,(by intro y hy;simp[F.flat] at hy;subst hy;dsimp only;omega),T2.below (bl1 w2 _) T2.lt,Es (D8 G1 G2) _⟩
  have aN:((k:Int) == 0)=false:=Ak.2 (by omega);go_wp2_with fail;refine(D6 B b A m c f aD parts _ w1 T1 rfl aR (by omega) hm).mono ?_;rintro e w2⟨p,aC,hp,rfl,T2,G2⟩;go_wp2_with fail;refine(D6 B b A m c f aC 4 _ w2 T2 rfl (by omega) (by omega) hm).mono ?_;rintro e w3⟨j,aE,hj,rfl,T3,G3⟩;go_wp2;go_ret;exact⟨⟨1,(p:Int),1+(j:Int)⟩,.nil,_,1,1,aE,rfl,⟨(Em _ _ _).2 (by omega),by simp[F.cnt,kn],trivial,trivial⟩,Ft.lit w3 w.heap.size #[.int .i64 1,.int .i64 (p:Int),.int .i64 (1+(j:Int))] [⟨1,(p:Int),1+(j:Int)⟩] 1 rfl rfl (Ai G1.size (Ai G2.size G3.size)) (by omega) (by intro x hx;simp at hx;subst hx;exact Ff (by omega) (by omega) (by omega)),by simp only[F.sz];omega,by simp only[F.dep];omega,(by intro y hy;simp[F.flat] at hy;subst hy;dsimp only;omega),T3.below (bl1 w3 _) T3.lt,Es (D8 G1 (D8 G2 G3)) _⟩
 | succ d ih =>
  intro at_ w hd T;have aQ:=hid ih;clear ih;have hX:5 ^ (d+1)<=78125:=Ai (Nat.pow_le_pow_right (by omega) (show d+1<=7 by omega)) (by decide);have aY:5 ^ (d+1+1)=5*5 ^ (d+1):=by rw[Nat.pow_succ,Nat.mul_comm]
  have bM:1<=5 ^ (d+1):=Nat.pow_pos (by omega);rw[aY];generalize 5 ^ (d+1)=X at hX bM aQ |-;clear aY;have bU:decide (((d+1:Nat):Int) < 1)=false:=Ac (by omega);go_in;go_wp2_with fail;refine(D6 B b A m c f at_ 7 _ w T rfl (by omega) (by omega) hm).mono ?_;rintro e w1⟨k,aD,hk,rfl,T1,G1⟩;by_cases bS:k < 2
  ·by_cases aO:k=0
   ·subst aO;go_wp2_with fail;refine(D6 B b A m c f aD 4 _ w1 T1 rfl (by omega) (by omega) hm).mono ?_;rintro e w2⟨j,aC,hj,rfl,T2,G2⟩;go_wp2;go_ret;exact⟨⟨2,0,1+(j:Int)⟩,.nil,_,1,1,aC,rfl,⟨(Em _ _ _).2 (by omega),by simp[F.cnt,kn],trivial,trivial⟩,Ft.lit w2 w.heap.size #[.int .i64 2,.int .i64 0,.int .i64 (1+(j:Int))] [⟨2,0,1+(j:Int)⟩] 1 rfl rfl (Ai G1.size G2.size) (by omega) (by intro x hx;simp at hx;subst hx;exact Ff (by omega) (by omega) (by omega)),by simp only[F.sz];omega,by simp only[F.dep];omega,(by intro y hy;simp[F.flat] at hy;subst hy;dsimp only;omega),T2.below (bl1 w2 _) T2.lt,Es (D8 G1 G2) _⟩
   have aN:((k:Int) == 0)=false:=Ak.2 (by omega);go_wp2_with fail;refine(D6 B b A m c f aD parts _ w1 T1 rfl aR (by omega) hm).mono ?_;rintro e w2⟨p,aC,hp,rfl,T2,G2⟩;go_wp2_with fail;refine(D6 B b A m c f aC 4 _ w2 T2 rfl (by omega) (by omega) hm).mono ?_;rintro e w3⟨j,aE,hj,rfl,T3,G3⟩;go_wp2;go_ret;exact⟨⟨1,(p:Int),1+(j:Int)⟩,.nil,_,1,1,aE,rfl,⟨(Em _ _ _).2 (by omega),by simp[F.cnt,kn],trivial,trivial⟩,Ft.lit w3 w.heap.size #[.int .i64 1,.int .i64 (p:Int),.int .i64 (1+(j:Int))] [⟨1,(p:Int),1+(j:Int)⟩] 1 rfl rfl (Ai G1.size (Ai G2.size G3.size)) (by omega) (by intro x hx;simp at hx;subst hx;exact Ff (by omega) (by omega) (by omega)),by simp only[F.sz];omega,by simp only[F.dep];omega,(by intro y hy;simp[F.flat] at hy;subst hy;dsimp only;omega),T3.below (bl1 w3 _) T3.lt,Es (D8 G1 (D8 G2 G3)) _⟩
  by_cases bH:k=2
  ·subst bH;go_wp2_with fail;refine(D6 B b A m c f aD 3 _ w1 T1 rfl (by omega) (by omega) hm).mono ?_;rintro e w2⟨j,aC,hj,rfl,T2,G2⟩;go_wp2_with fail;have ql:=Ft.lit w2 w.heap.size #[.int .i64 4,.int .i64 0,.int .i64 (1+(j:Int))] [⟨4,0,1+(j:Int)⟩] 1 rfl rfl (Ai G1.size G2.size) (by omega) (by intro x hx;simp at hx;subst hx;exact Ff (by omega) (by omega) (by omega));have T3:=T2.below (bl1 w2 (.cells #[.int .i64 4,.int .i64 0,.int .i64 (1+(j:Int))] 54)) T2.lt;have G3:=Es (D8 G1 G2) (.cells #[.int .i64 4,.int .i64 0,.int .i64 (1+(j:Int))] 54);refine(aQ.o aC _ (by omega) T3).mono ?_;rintro e w4⟨x,k,A4,n4,c4,bO,rfl,aK,aA,bE,bL,bF,T4,G4⟩;have aI:b < w.heap.size:=T.lt;have bB:=ql.gb G4 aI;have G5:=D8 G3 G4;have aG:=aA.len;simp only[Ad,F.flat_length] at aG;go_wp2_with (at_builtin;go_loud (refine Ej elN rfl (.tmp 40) (.tmp 45) rfl rfl w.heap.size _ 1 1 _ rfl bB.own A4 n4 c4 _ _ rfl aA.own.rd (by rw[Fy,aA.len]) (Je _) (by omega) (by unfold maxLen;omega) G5.size (1+n4) rfl _ rfl ?_;intro A5 c5 w5 bD aX _));go_ret;refine⟨⟨4,0,1+(j:Int)⟩,.cons x k .nil,A5,1+n4,c5,bO,rfl,⟨(Em _ _ _).2 (by omega),by simp[F.cnt,kn],aK,trivial⟩,⟨?_,?_,?_⟩,?_,?_,?_,T4.below aX aI,F8 G5 aX (Ag _)⟩
   ·simp only[Ad,F.flat,Az,F.flat_length];omega
   ·have e:(F.cons x k .nil).flat=x::k.flat:=by simp[F.flat]
    rw[e];exact bD
   ·intro y hy;have e:(F.cons x k .nil).flat=x::k.flat:=by simp[F.flat]
    rw[e] at hy;rcases Ba.1 hy with rfl | hy
    ·exact Ff (by omega) (by omega) (by omega)
    exact aA.bd y hy
   ·simp only[F.sz];omega
   ·simp only[F.dep];omega
   intro y hy;have e:(F.cons x k .nil).flat=x::k.flat:=by simp[F.flat]
   rw[e] at hy;rcases Ba.1 hy with rfl | hy
   ·dsimp only;omega
   exact bF y hy
  have bG:((k:Int) == 2)=false:=Ak.2 (by omega);go_wp2_with fail;refine(D6 B b A m c f aD 4 _ w1 T1 rfl (by omega) (by omega) hm).mono ?_;rintro e w2⟨j,aC,hj,rfl,T2,G2⟩;have aI:b < w.heap.size:=T.lt;have ql:=Ft.lit w2 w.heap.size #[.int .i64 3,.int .i64 0,.int .i64 (1+(j:Int))] [⟨3,0,1+(j:Int)⟩] 1 rfl rfl (Ai G1.size G2.size) (by omega) (by intro x hx;simp at hx;subst hx;exact Ff (by omega) (by omega) (by omega));have T3:=T2.below (bl1 w2 (.cells #[.int .i64 3,.int .i64 0,.int .i64 (1+(j:Int))] 54)) T2.lt;have G3:=Es (D8 G1 G2) (.cells #[.int .i64 3,.int .i64 0,.int .i64 (1+(j:Int))] 54);go_wp2_with fail;generalize w2.alloc (.cells #[.int .i64 3,.int .i64 0,.int .i64 (1+(j:Int))] 54)=w3 at ql T3 G3 |-;go_loopw [9,10] (fun q s wr=>∃(i:Nat) (g:F) (A1:Option Addr) (n1 c1 bP:Nat),i<=1+j/\s=.int .i64 i/\q=.slice A1 n1 c1/\g.ok/\g.cnt=i/\Ft wr w.heap.size A1 n1 c1 (⟨3,0,1+(j:Int)⟩::g.flat)/\g.sz<=i*X/\g.dep<=d+1/\(∀ y∈g.flat,0<=y.p/\y.p < (parts:Int))/\Eb wr B b A m c f bP/\w.grownBy wr (some b)) (fun _ s _=>1+j - (intOf s).toNat)
  case atStart=>exact⟨0,.nil,_,1,1,aC,by omega,rfl,rfl,trivial,rfl,ql,by simp[F.sz],by simp[F.dep],(fun y hy=>by simp[F.flat] at hy),T3,G3⟩
  obtain⟨i,g,A1,n1,c1,aE,hi,rfl,rfl,aH,aU,aA,bT,bK,aT,T4,G4⟩:=hrel;have aZ:=hid aH;have bA:=hid aU;have aP:=hid aA.len;have bJ:(i+1)*X=i*X+X:=Db i X;have bI:i*X<=4*X:=Cd _ (by omega);clear aH aU T1 T2 T3 G1 G2 G3 ql;by_cases bR:i < 1+j
  ·have aL:decide ((i:Int) < 1+(j:Int))=true:=Ae (by omega);go_wp2_with fail;refine(aQ.o aE _ (by omega) T4).mono ?_;rintro e w5⟨x,kk,A5,n5,c5,bN,rfl,aK,aB,bE,bL,aJ,T5,G5⟩;have q5:=aA.gb G5 aI;have G6:=D8 G4 G5;have aF:=aB.len;have aM:=aP.o;simp only[Ad,F.flat_length] at aF aM;go_wp2_with (at_builtin;go_loud (refine Ej elN rfl (.tmp 58) (.tmp 63) rfl rfl w.heap.size _ n1 c1 _ rfl q5.own A5 n5 c5 _ _ rfl aB.own.rd (by rw[Fy,aB.len]) (Je _) (by omega) (by unfold maxLen;omega) G6.size (n1+n5) rfl _ rfl ?_;intro A6 c6 w6 bC aV _));go_roundw
   case rel =>
    have e:(g.app (.cons x kk .nil)).flat=g.flat++x::kk.flat:=by rw[F.app_flat];simp[F.flat]
    refine⟨i+1,g.app (.cons x kk .nil),A6,n1+n5,c6,bN,by omega,by go_num,rfl,F.app_ok aZ.o aK,by rw[F.app_cnt,bA.o];rfl,⟨?_,?_,?_⟩,?_,?_,?_,T5.below aV aI,F8 G6 aV (Ag _)⟩
    ·rw[e];simp only[Ad,Aa,F.flat_length];omega
    ·rw[e,<- Bo,H9];exact bC
    ·intro y hy;rw[e,<- Bo] at hy;rcases Ay.1 hy with hy | hy
     ·exact aA.bd y hy
     exact aB.bd y hy
    ·rw[F.app_sz,bJ];simp only[F.sz];omega
    ·rw[F.app_dep];simp only[F.dep];omega
    intro y hy;rw[e] at hy;rcases Ay.1 hy with hy | hy
    ·exact aT y hy
    exact aJ y hy
   simp[intOf];omega
  have aL:decide ((i:Int) < 1+(j:Int))=false:=Ac (by omega);go_wp2;go_ret;refine⟨⟨3,0,1+(j:Int)⟩,g,A1,n1,c1,aE,rfl,⟨(Em _ _ _).2 (by omega),?_,aZ.o,trivial⟩,aA,by omega,bK,?_,T4,G4⟩
  rotate_left
  ·intro y hy;rcases Ba.1 hy with rfl | hy
   ·dsimp only;omega
   exact aT y hy
  have:=bA.o;simp only[kn];rw[if_pos trivial];omega
theorem Ft.cap{w:World}{B n c:Nat}{A:Option Addr}{l:List Nd}(h:Ft w B A n c l):n<=c:=OwnV.cap h.own
theorem Nq(A:Option Addr)(n cap:Nat)(f:Nat->Int)(w:World)(h:RdC w w.heap.size A n fun j=>.int .i64 (f j)):Eb (w.alloc (.cells #[.slice A n cap,.int .i64 0] 26)) w.heap.size w.heap.size A n cap f 0 :=
 ⟨h.keep fun p hp=>Dd w _ p hp,Ag _,by simp[Ab],by simp[Ab],by simp,Cr _,by simp[Ab]⟩
theorem Oi{w w1:World}{o:Obj}(h:(w.alloc o).grownBy w1 (some w.heap.size)):Below w.heap.size w w1 :=
 (bl1 w o).trans ⟨h.os,h.tape,h.output,h.size,fun i hi=>h.block i (by simp;omega) (fun e=>by injection e with e;omega)⟩
theorem eu(a:Int)(m:Nat)(hm:m < 9223372036854775808):∃ M:Nat,bits .and .i64 a (m:Int)=(M:Int)/\M<=m:=by
 refine⟨(BitVec.ofInt 64 a &&& BitVec.ofInt 64 (m:Int)).toNat,?_,?_⟩
 ·have h:(BitVec.ofInt 64 a &&& BitVec.ofInt 64 (m:Int)).toNat<=m:=by
   rw[BitVec.toNat_and];refine Ai Nat.and_le_right ?_;rw[BitVec.ofInt_natCast,BitVec.toNat_ofNat];exact Nat.mod_le _ _
  show IntKind.i64.wrap ((BitVec.ofInt 64 a &&& BitVec.ofInt 64 (m:Int)).toNat:Int)=_;rw[Cm];omega
 rw[BitVec.toNat_and];refine Ai Nat.and_le_right ?_;rw[BitVec.ofInt_natCast,BitVec.toNat_ofNat];exact Nat.mod_le _ _
