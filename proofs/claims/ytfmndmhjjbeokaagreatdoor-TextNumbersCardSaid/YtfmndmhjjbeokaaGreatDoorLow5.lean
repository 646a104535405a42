import Derived.Test.YtfmndmhjjbeokaaGreatDoorLow4
import Derived.StillTailTactics
import Derived.IntWalk
import Derived.BigQuiet
import Derived.Deep.QuietTactic
import Derived.Laws.ResultCell
import Derived.Laws.StructEq
set_option maxHeartbeats 3200000
set_option maxRecDepth 100000
set_option linter.unusedSimpArgs false
set_option linter.unusedVariables false
namespace Go.Proofs.YtfmndmhjjbeokaaGreatDoor
open Go.RowKit Tab
def Blk(w:World)(b:Nat)(c:Nat->Value):Prop:=∀ o,o < 37->w.cell? ⟨b,o,none⟩=some (c o)/\w.frozen? ⟨b,o,none⟩=false
def upd(c:Nat->Value)(i:Nat)(v:Value):Nat->Value:=fun j=>if j=i then v else c j
theorem Ed(c:Nat->Value)(i:Nat)(v:Value):upd c i v i=v:=if_pos rfl
theorem Dy{c:Nat->Value}{i j:Nat}{v:Value}(h:j≠i):upd c i v j=c j:=if_neg h
section
variable {w w':World} {b:Nat} {c:Nat->Value}
theorem Blk.set(h:Blk w b c){i:Nat}(hi:i < 37)(v:Value):Blk (w.setCell ⟨b,i,none⟩ v) b (upd c i v):=fun o ho=>by
 refine⟨?_,by simpa using (h o ho).2⟩
 by_cases e:o=i
 ·subst e
  rw[Ed]
  exact Ci _ _ _ (h o ho).1
 ·rw[Dy e,Cg _ _ _ _ (by simp[e])]
  exact(h o ho).1
theorem Blk.drewN(h:Blk w b c)(q:Nat):Blk (w.drewN q) b c:=h
theorem Blk.lt(h:Blk w b c):b < w.heap.size:=Bj w _ (h 0 (by omega)).1
theorem Blk.keep(h:Blk w b c)(hk:w'.heap[b]? = w.heap[b]?):Blk w' b c:=fun o ho=>by
 exact⟨(Bf hk).trans (h o ho).1,(C4 hk).trans (h o ho).2⟩
theorem Fn{a:World}{x:Nat}(h:a.grownBy w (some x))(o:Nat)(v:Value):a.grownBy (w.setCell ⟨x,o,none⟩ v) (some x) :=
 ⟨h.os,h.tape,h.output,by have:=h.size;simpa [World.setCell] using this,fun k hk aA=>(Bn w ⟨x,o,none⟩ v k (fun e=>aA (by rw[e]))).trans (h.block k hk aA)⟩
theorem Iv(w:World)(x:Option Nat):w.grownBy w x:=⟨rfl,rfl,rfl,Ag _,fun _ _ _=>rfl⟩
theorem Lm{a:World}{x:Option Nat}(h:a.grownBy w x):a.grownBy w.drew x:=⟨h.os,h.tape,h.output,h.size,h.block⟩
theorem Jk{a:World}{x:Option Nat}(h:a.grownBy w x)(q:Nat):a.grownBy (w.drewN q) x:=⟨h.os,h.tape,h.output,h.size,h.block⟩
end
def Ny(c:Nat->Value)(d:Nat)(a b:Int):Nat->Value:=upd (upd (upd c (1+d*2) (.int .i64 a)) (1+d*2+1) (.int .i64 b)) 33 (.int .i64 ((d:Int)+1))
theorem Sg(b:Nat)(c:Nat->Value)(d:Nat)(x y:Int)(w:World)(h:Blk w b c)(hd:d<=15)(hc:c 33=.int .i64 (d:Int)):
  Calls Tryz.prog 170 #[.pointer (some ⟨b,1,none⟩),.agg #[.int .i64 x,.int .i64 y]] w fun e w'=>e=.returned (.tuple #[])/\Blk w' b (Ny c d x y)/\w.grownBy w' (some b):=by
 obtain⟨W,hW⟩:∃ W,W=w.alloc (.cells #[.int .i64 x,.int .i64 y] 198):=⟨_,rfl⟩;have hG:w.grownBy W (some b):=by rw[hW];exact Es (Iv _ _) _
 have hB:Blk W b c:=h.keep (by rw[hW];exact C3 w _ b h.lt);have n0:W.cell? ⟨w.heap.size,0,none⟩=some (.int .i64 x):=by rw[hW];simp[Ab]
 have n1:W.cell? ⟨w.heap.size,1,none⟩=some (.int .i64 y):=by rw[hW];simp[Ab]
 have HW:=hid hW;clear hW;have aA:=(hB 33 (by omega)).1;rw[hc] at aA;have aE:=(hB 33 (by omega)).2;have c1:=(hB (1+d*2) (by omega)).1;have c2:=(hB (1+d*2+1) (by omega)).1;have f1:=(hB (1+d*2) (by omega)).2;have f2:=(hB (1+d*2+1) (by omega)).2;go_in;go_wp2_with fail;rw[<- HW.o];generalize w.heap.size=g at n0 n1 |-;have aD:0<=(d:Int):=by omega
 have aC:(d:Int) < 16:=by omega
 have aB:d < 16:=by omega
 go_still_tail 9,(by kernel_rfl);change wpList _ _ _ _ _ W.drew;have q1:¬ 33=1+d*2:=by omega
 have q2:¬ 33=1+d*2+1:=by omega
 have q3:¬ 1+d*2=33:=by omega
 have q4:¬ 1+d*2+1=33:=by omega
 go_wp2_with fail;go_end0;exact⟨rfl,((hB.set (i:=1+d*2) (by omega) _).set (i:=1+d*2+1) (by omega) _).set (i:=33) (by omega) _,Lm (Fn (Fn (Fn hG _ _) _ _) _ _)⟩
def StC(c:Nat->Value):List (Nat×Nat)->Prop
 | []=>True
 | (a,b)::o=>c (1+o.length*2)=.int .i64 (a:Int)/\c (1+o.length*2+1)=.int .i64 (b:Int)/\StC c o
theorem StC.put{c:Nat->Value}{st:List (Nat×Nat)}(h:StC c st){i:Nat}(hi:1+st.length*2<=i)(v:Value):StC (upd c i v) st:=by
 induction st with
 | nil=>trivial
 | cons e o ih =>
  obtain⟨a,b⟩:=e;simp only[Ad] at hi;exact⟨by rw[Dy (by omega)];exact h.1,by rw[Dy (by omega)];exact h.2.1,ih h.2.2 (by omega)⟩
def Hk(c:Nat->Value)(st:List (Nat×Nat)):Prop:=StC c st/\c 33=.int .i64 (st.length:Int)/\st.length<=16
theorem Hk.push{c:Nat->Value}{st:List (Nat×Nat)}(h:Hk c st)(hl:st.length<=15)(a b:Nat):Hk (Ny c st.length (a:Int) (b:Int)) ((a,b)::st):=by
 unfold Ny;refine⟨⟨?_,?_,?_⟩,?_,by simp only[Ad];omega⟩
 ·rw[Dy (by omega),Dy (by omega),Ed]
 ·rw[Dy (by omega),show 1+st.length*2+1=1+st.length*2+1 from rfl,Ed]
 ·exact((h.1.put (by omega) _).put (by omega) _).put (by omega) _
 rw[Ed];simp
theorem Fe(c:Nat->Value)(d:Nat)(a b:Int)(hd:d<=15){j:Nat}(hj:j=0\/33 < j):Ny c d a b j=c j:=by
 unfold Ny;rw[Dy (by omega),Dy (by omega),Dy (by omega)]
def Pj(c c':Nat->Value):Prop:=c' 0=c 0/\∀ j,33 < j->c' j=c j
theorem Pj.refl(c:Nat->Value):Pj c c:=⟨rfl,fun _ _=>rfl⟩
theorem Pj.put{c c':Nat->Value}(h:Pj c c'){i:Nat}(hi:1<=i)(aA:i<=33)(v:Value):Pj c (upd c' i v) :=
 ⟨by rw[Dy (by omega)];exact h.1,fun j hj=>by rw[Dy (by omega)];exact h.2 j hj⟩
theorem StC.dec{c:Nat->Value}{a b:Nat}{o:List (Nat×Nat)}(h:StC c ((a,b)::o))(x:Nat):StC (upd c (1+o.length*2) (.int .i64 (x:Int))) ((x,b)::o) :=
 ⟨Ed _ _ _,by rw[Dy (by omega)];exact h.2.1,h.2.2.put (by omega) _⟩
def Ol(w:World)(b:Nat):Nat:=match w.cell? ⟨b,33,none⟩ with
 | some (.int _ z)=>z.toNat
 | _=>0
theorem Qn{w:World}{b:Nat}{c:Nat->Value}{d:Nat}(h:Blk w b c)(e:c 33=.int .i64 (d:Int)):Ol w b=d:=by
 unfold Ol;rw[(h 33 (by omega)).1,e];simp
def V0(b:Nat)(c:Nat->Value)(st:List (Nat×Nat))(p:Nat)(w:World)(e:Ending)(w':World):Prop :=
 e=.returned (.int .i64 ((popm st p).2:Nat))/\∃ c',Blk w' b c'/\Hk c' (popm st p).1/\Pj c c'/\w.grownBy w' (some b)
theorem V0.mk{b:Nat}{c c':Nat->Value}{st st':List (Nat×Nat)}{p p':Nat}{w w':World}{z:Int}(h:popm st p=(st',p'))(hz:z=(p':Int))(hB:Blk w' b c')(hP:Hk c' st')(hR:Pj c c')(hG:w.grownBy w' (some b)):V0 b c st p w (.returned (.int .i64 z)) w':=by
 unfold V0;rw[h,hz];exact⟨rfl,c',hB,hP,hR,hG⟩
theorem Ti(b:Nat)(c:Nat->Value)(st:List (Nat×Nat))(p:Nat)(w:World)(h:Blk w b c)(hp:Hk c st)(hb:∀ e∈st,1<=e.1/\e.1<=9223372036854775807/\e.2<=1048576)(aT:p<=1048576):
  Calls Tryz.prog 169 #[.pointer (some ⟨b,1,none⟩),.int .i64 (p:Int)] w (V0 b c st (p+1) w):=by
 have H:=hid h;have HP:=hid hp;have HB:=hid hb;clear h hp hb;go_in;go_wp2;go_loopw [] (fun wr=>∃(c':Nat->Value) (st':List (Nat×Nat)),Blk wr b c'/\Hk c' st'/\popm st' (p+1)=popm st (p+1)/\(∀ e∈st',1<=e.1/\e.1<=9223372036854775807/\e.2<=1048576)/\Pj c c'/\w.grownBy wr (some b)) (fun wr=>Ol wr b)
 case atStart=>exact⟨c,st,H.o,HP.o,rfl,HB.o,Pj.refl _,Iv _ _⟩
 obtain⟨c',st',hB,hP,aC,aK,hR,hG⟩:=hrel;have aA:=hid aC;have aN:=hid aK;clear aC aK;obtain⟨hs,hd,hl⟩:=hP;have HD:=hid hd;have aG:=(hB 33 (by omega)).1;rw[hd] at aG;have aZ:=(hB 33 (by omega)).2;cases st' with
 | nil =>
  go_wp2;go_ret;exact V0.mk (aA.o.symm.trans rfl) (by omega) hB ⟨hs,HD.o,by simp⟩ hR hG
 | cons e o =>
  obtain⟨a,q⟩:=e;obtain⟨b1,b2,b3⟩:=aN.o (a,q) (by simp);dsimp only at b1 b2 b3;have c1:=(hB (1+o.length*2) (by simp at hl;omega)).1;have c2:=(hB (1+o.length*2+1) (by simp at hl;omega)).1;have f1:=(hB (1+o.length*2) (by simp at hl;omega)).2;rw[hs.1] at c1;rw[hs.2.1] at c2;simp only[Ad] at aG hl;have aH:=hs.dec (a - 1);have HS:=hid aH;have aP:Hd (StC c' o):=hid hs.2.2;clear hs hd aH;generalize aI:o.length=d at aG hl c1 c2 f1 HS;have aB:=hid aI;have q1:¬ 33=1+d*2:=by omega
  have q2:¬ 33=1+d*2+1:=by omega
  have q3:¬ 1+d*2=33:=by omega
  have q4:¬ 1+d*2+1=33:=by omega
  have aX:0<=(d:Int):=by omega
  have aV:(d:Int) < 16:=by omega
  have aU:d < 16:=by omega
  have aL:∀ nq,Blk ((wr.drewN nq).setCell ⟨b,1+d*2,none⟩ (.int .i64 ((a:Int) - 1))) b (upd c' (1+d*2) (.int .i64 ((a:Int) - 1))):=fun nq=>(hB.drewN nq).set (by omega) _;have aF:∀ nq,w.grownBy ((wr.drewN nq).setCell ⟨b,1+d*2,none⟩ (.int .i64 ((a:Int) - 1))) (some b):=fun nq=>Fn (Jk hG nq) _ _;have aE:=hR.put (i:=1+d*2) (by omega) (by omega) (.int .i64 ((a:Int) - 1));have ea:(a:Int) - 1=((a - 1:Nat):Int):=by omega
  have aQ:=hid ea;have aD:=hid aL;have aR:=hid hB;clear aI ea aL;by_cases h1:1 < a
  ·have aJ:Hk (upd c' (1+d*2) (.int .i64 ((a:Int) - 1))) ((a - 1,q)::o):=⟨by rw[aQ.o];exact HS.o,by rw[Dy (by omega)];exact HD.o,by simp only[Ad,aB.o];omega⟩;have aM:=hid aJ;clear aJ;have aO:IntKind.i64.wrap ((d:Int)+1 - 1)=(d:Int):=by rw[Dt _ (by omega)];omega
   by_cases hq:0 < q
   ·go_wp2_with fail;go_quiet (fail);go_wp2;go_ret;exact V0.mk (st':=(a - 1,q)::o) (p':=q) (by rw[<- aA.o,popm_more _ _ h1,if_pos hq]) rfl (aD.o _) aM.o aE (aF _)
   go_wp2_with fail;go_quiet (fail);go_wp2;go_ret;exact V0.mk (st':=(a - 1,q)::o) (p':=p+1) (by rw[<- aA.o,popm_more _ _ h1,if_neg hq]) (by omega) (aD.o _) aM.o aE (aF _)
  have aY:¬ 1 < (a:Int):=by omega
  have aO:IntKind.i64.wrap ((d:Int)+1 - 1)=(d:Int):=by rw[Dt _ (by omega)];omega
  go_wp2_with fail;go_quiet (fail);go_wp2;go_roundw
  case rel =>
   refine⟨upd (upd c' (1+d*2) (.int .i64 ((a:Int) - 1))) 33 (.int .i64 (d:Int)),o,(aD.o _).set (by omega) _,⟨?_,by rw[Ed,aB.o],by rw[aB.o];omega⟩,by rw[<- aA.o,popm_less _ _ h1],fun e he=>aN.o e (by simp[he]),aE.put (by omega) (by omega) _,Fn (aF _) _ _⟩;have h3:=aP.o;exact(h3.put (by rw[aB.o];omega) _).put (by rw[aB.o];omega) _
  show Ol _ b < Ol _ b;rw[Qn ((aD.o _).set (i:=33) (by omega) (.int .i64 (d:Int))) (Ed _ _ _),Qn aR.o HD.o];simp only[Ad,aB.o];omega
structure Tb(w:World)(b:Nat)(A:Option Addr)(n cap:Nat)(l:List Nd):Prop where
 rd:RdN w b A n l
 cap:n<=cap
 hn:n<=128
theorem RdN.gb{w w':World}{b n:Nat}{A:Option Addr}{l:List Nd}(h:RdN w b A n l)(hb:b<=w.heap.size)(hg:w.grownBy w' (some b)):RdN w' b A n l :=
 ⟨h.len,h.rd.keep fun p hp=>Bf (hg.block p.block (by omega) (fun e=>by injection e with e;omega)),h.bd⟩
theorem Tb.gb{w w':World}{b n cap:Nat}{A:Option Addr}{l:List Nd}(h:Tb w b A n cap l)(hb:b<=w.heap.size)(hg:w.grownBy w' (some b)):Tb w' b A n cap l:=⟨h.rd.gb hb hg,h.cap,h.hn⟩
theorem Tb.drewN{w:World}{b n cap:Nat}{A:Option Addr}{l:List Nd}(h:Tb w b A n cap l)(q:Nat):Tb (w.drewN q) b A n cap l:=⟨⟨h.rd.len,h.rd.rd,h.rd.bd⟩,h.cap,h.hn⟩
def Vz(w:World)(b:Nat):Nat:=match w.cell? ⟨b,34,none⟩ with
 | some (.int _ z)=>z.toNat
 | _=>0
theorem Nb{w:World}{b:Nat}{c:Nat->Value}{d:Nat}(h:Blk w b c)(e:c 34=.int .i64 (d:Int)):Vz w b=d:=by
 unfold Vz;rw[(h 34 (by omega)).1,e];simp
def Qbl(b:Nat)(A:Option Addr)(n cap:Nat)(l:List Nd)(c:Nat->Value)(td:List Rn)(w:World)(e:Ending)(w':World):Prop :=
 e=.returned (.tuple #[])/\∃(c':Nat->Value) (st:List (Nat×Nat)) (p:Nat),Blk w' b c'/\Hk c' st/\c' 34=.int .i64 (p:Int)/\c' 0=c 0/\c' 35=c 35/\c' 36=c 36/\AtL l st p td/\w.grownBy w' (some b)
theorem Ql(b:Nat)(A:Option Addr)(n cap:Nat)(l:List Nd)(c:Nat->Value)(st:List (Nat×Nat))(p:Nat)(td:List Rn)(w:World)(h:Blk w b c)(hT:Tb w b A n cap l)(hP:Hk c st)(h0:c 0=.slice A n cap)(bF:c 34=.int .i64 (p:Int))(hA:Ats l st p td):
  Calls Tryz.prog 168 #[.pointer (some ⟨b,0,none⟩)] w (Qbl b A n cap l c td w):=by
 have H:=hid h;have HT:=hid hT;have HP:=hid hP;have bU:=hid bF;have HA:=hid hA;have aK:=hT.rd.len;have aI:=hid aK;have hn:=hT.hn;have bQ:=hT.cap;clear h hT hP bF hA aK;go_in;go_wp2;go_loopw [] (fun wr=>∃(c':Nat->Value) (st':List (Nat×Nat)) (p':Nat),Blk wr b c'/\Hk c' st'/\c' 34=.int .i64 (p':Int)/\c' 0=c 0/\c' 35=c 35/\c' 36=c 36/\Ats l st' p' td/\w.grownBy wr (some b)) (fun wr=>n - Vz wr b)
 case atStart=>exact⟨c,st,p,H.o,HP.o,bU.o,rfl,rfl,rfl,HA.o,Iv _ _⟩
 obtain⟨c',st',p',hB,hP,aX,e0,bH,bG,hA,hG⟩:=hrel;have c0:=(hB 0 (by omega)).1;rw[e0,h0] at c0;have aY:=(hB 34 (by omega)).1;rw[aX] at aY;have cC:=(hB 34 (by omega)).2;have HB:=hid hB;have aH:=hid hP;have HE:=hid (And.intro aX (And.intro e0 (And.intro bH bG)));have aJ:=hid hA;have bN:=hA.le;rw[aI.o] at bN;have bT:=HT.o.gb (Nat.le_of_lt H.o.lt) hG;clear hB hP aX e0 bH bG hA;by_cases aO:p' < n
 ·obtain⟨ad,x,rfl,bY,hx,bB,d0,d1,d2⟩:=bT.rd.at_ aO;obtain⟨xk,xp,xn⟩:=x;have bM:(p':Int) < (n:Int):=by omega
  have bL:0<=(p':Int):=by omega
  have aD:=aJ.o.fine hx;have bX:1<=xn:=fine_one aD;have bK:xn<=9223372036854775807:=bB.2.2.2;have aA:=aJ.o.short (by rw[aI.o];exact aO);have HX:=hid hx;have aR:decide (p' < n)=true:=Ae aO;clear aD hx bB
  go_wp2_with fail;go_quiet (fail);go_wp2_with fail;have bR:=HB.o.lt;have bS:ad.block < wr.heap.size:=by omega
  have aL:(ad.add (p'*3)).block < wr.heap.size:=by rw[Eh];exact bS
  obtain⟨W,aB⟩:∃ W,W=wr.drewN nq:=⟨_,rfl⟩;have E0:W.cell? ⟨b,0,none⟩=some (.slice (some ad) n cap):=by rw[aB];exact c0
  have bV:W.cell? ⟨b,34,none⟩=some (.int .i64 (p':Int)):=by rw[aB];exact aY
  have F0:W.cell? (ad.add (p'*3))=some (.int .i64 xk):=by rw[aB];exact d0
  have F1:W.cell? ⟨(ad.add (p'*3)).block,(ad.add (p'*3)).off+1,none⟩=some (.int .i64 xp):=by rw[aB];exact d1
  have F2:W.cell? ⟨(ad.add (p'*3)).block,(ad.add (p'*3)).off+2,none⟩=some (.int .i64 xn):=by rw[aB];exact d2
  have aT:b < W.heap.size:=by rw[aB];exact bR
  have aU:(ad.add (p'*3)).block < W.heap.size:=by rw[aB];exact aL
  rw[<- aB];have bI:=hid aB;clear c0 aY d0 d1 d2 aB;go_region;obtain⟨W2,aG⟩:∃ W2,W2=(W.alloc (.cells #[.int .i64 xk,.int .i64 xp,.int .i64 xn] 54)).drew:=⟨_,rfl⟩;have bD:w.grownBy W (some b):=by rw[bI.o];exact Jk hG nq
  have aP:Blk W2 b c':=by
   rw[aG];have h1:Blk W b c':=by rw[bI.o];exact HB.o.drewN nq
   exact Blk.keep h1 (C3 W _ b aT)
  have bE:w.grownBy W2 (some b):=by rw[aG];exact Lm (Es bD _)
  have n0:W2.cell? ⟨W.heap.size,0,none⟩=some (.int .i64 xk):=by rw[aG];exact Ab _ _ _ _ _
  have n1:W2.cell? ⟨W.heap.size,1,none⟩=some (.int .i64 xp):=by rw[aG];exact Ab _ _ _ _ _
  have n2:W2.cell? ⟨W.heap.size,2,none⟩=some (.int .i64 xn):=by rw[aG];exact Ab _ _ _ _ _
  rw[<- aG];clear aG E0 bV F0 F1 F2 aU aL bD;have bJ:b≠W.heap.size:=by omega
  generalize W.heap.size=g at n0 n1 n2 bJ |-;have aQ:=(aP 34 (by omega)).1;rw[HE.o.1] at aQ;have aN:=(aP 34 (by omega)).2;have bO:=aH.o.2.2;generalize bC:st'.length=d at aA bO;have aE:=hid bC;have bA:=hid aP;have aZ:=hid bE;clear aP bE bC;by_cases h3:xk=3
  ·subst h3;obtain⟨N,rfl⟩:=Ax (show 0<=xn by omega);go_wp2_with fail;go_still_tail 6,(by kernel_rfl);change wpList _ _ _ _ _ W2.drew;go_wp2_with fail;refine(Sg b c' d (N:Int) 0 W2.drew bA.o (by omega) (by rw[aH.o.2.1,aE.o])).mono ?_;rintro e w3⟨rfl,aC,aV⟩;have aF:=(aC 34 (by omega)).1;rw[Fe _ _ _ _ aA (by omega),HE.o.1] at aF;have aM:=(aC 34 (by omega)).2;clear n0 n1 n2 aQ aN;go_wp2;go_roundw
   case rel =>
    have hp:=aH.o.push (by rw[aE.o];exact aA) N 0;rw[aE.o] at hp;refine⟨upd (Ny c' d (N:Int) 0) 34 (.int .i64 ((p':Int)+1)),(N,0)::st',p'+1,aC.set (by omega) _,⟨?_,?_,hp.2.2⟩,by rw[Ed];rfl,?_,?_,?_,?_,Fn (D8 (Lm aZ.o) aV) _ _⟩
    ·exact hp.1.put (by simp only[Ad,aE.o];omega) _
    ·rw[Dy (by omega)];exact hp.2.1
    ·rw[Dy (by omega),Fe _ _ _ _ aA (by omega)];exact HE.o.2.1
    ·rw[Dy (by omega),Fe _ _ _ _ aA (by omega)];exact HE.o.2.2.1
    ·rw[Dy (by omega),Fe _ _ _ _ aA (by omega)];exact HE.o.2.2.2
    exact aJ.o.seq HX.o rfl
   show n - Vz _ b < n - Vz _ b;rw[Nb (d:=p'+1) (aC.set (i:=34) (by omega) (.int .i64 ((p':Int)+1))) (by rw[Ed];rfl),Nb HB.o HE.o.1];omega
  by_cases h4:xk=4
  ·subst h4;obtain⟨N,rfl⟩:=Ax (show 0<=xn by omega);go_wp2_with fail;have bW:IntKind.i64.wrap ((p':Int)+1)=(p':Int)+1:=Dt _ (by omega);go_still_tail 11,(by kernel_rfl);change wpList _ _ _ _ _ W2.drew;go_wp2_with fail;refine(Sg b c' d (N:Int) ((p'+1:Nat):Int) W2.drew bA.o (by omega) (by rw[aH.o.2.1,aE.o])).mono ?_;rintro e w3⟨rfl,aC,aV⟩;have aF:=(aC 34 (by omega)).1;rw[Fe _ _ _ _ aA (by omega),HE.o.1] at aF;have aM:=(aC 34 (by omega)).2;clear n0 n1 n2 aQ aN;go_wp2;go_roundw
   case rel =>
    have hp:=aH.o.push (by rw[aE.o];exact aA) N (p'+1);rw[aE.o] at hp;refine⟨upd (Ny c' d (N:Int) ((p'+1:Nat):Int)) 34 (.int .i64 ((p':Int)+1)),(N,p'+1)::st',p'+1,aC.set (by omega) _,⟨?_,?_,hp.2.2⟩,by rw[Ed];rfl,?_,?_,?_,?_,Fn (D8 (Lm aZ.o) aV) _ _⟩
    ·exact hp.1.put (by simp only[Ad,aE.o];omega) _
    ·rw[Dy (by omega)];exact hp.2.1
    ·rw[Dy (by omega),Fe _ _ _ _ aA (by omega)];exact HE.o.2.1
    ·rw[Dy (by omega),Fe _ _ _ _ aA (by omega)];exact HE.o.2.2.1
    ·rw[Dy (by omega),Fe _ _ _ _ aA (by omega)];exact HE.o.2.2.2
    exact aJ.o.rep HX.o rfl bK
   show n - Vz _ b < n - Vz _ b;rw[Nb (d:=p'+1) (aC.set (i:=34) (by omega) (.int .i64 ((p':Int)+1))) (by rw[Ed];rfl),Nb HB.o HE.o.1];omega
  have cA:(xk == 3)=false:=Ak.2 h3;have bZ:(xk == 4)=false:=Ak.2 h4;have hL:=aJ.o.leaf HX.o h3 h4;have HL:=hid hL;clear h3 h4 hL;go_wp2_with fail;refine Be (Cn rfl _ _ _) rfl ?_;exact⟨rfl,c',st',p',bA.o,aH.o,HE.o.1,HE.o.2.1,HE.o.2.2.1,HE.o.2.2.2,HL.o,aZ.o⟩
 have bP:n<=p':=by omega
 have aR:decide (p' < n)=false:=Ac aO;go_wp2_with fail;go_quiet (fail);go_wp2_with fail;go_end0;exact⟨rfl,c',st',p',HB.o.drewN _,aH.o,HE.o.1,HE.o.2.1,HE.o.2.2.1,HE.o.2.2.2,aJ.o.o (by rw[aI.o];exact bP),Jk hG _⟩
structure Cur(w:World)(b:Nat)(A:Option Addr)(n cap:Nat)(l:List Nd)(td:List Rn)(tk gn:Nat):Prop where
 tb:Tb w b A n cap l
 ex:∃(c:Nat->Value) (st:List (Nat×Nat)) (p:Nat),Blk w b c/\Hk c st/\c 0=.slice A n cap/\c 34=.int .i64 (p:Int)/\c 35=.int .i64 (tk:Int)/\c 36=.int .i64 (gn:Int)/\AtL l st p td
 low:∀ r s,td=r::s->tk < r.n
 low0:td=[]->tk=0
 sum:gn+ticks td<=1048576+tk
 pos:∀ r∈td,1<=r.n
theorem Cur.lt{w:World}{b:Nat}{A:Option Addr}{n cap:Nat}{l:List Nd}{td:List Rn}{tk gn:Nat}(h:Cur w b A n cap l td tk gn):b < w.heap.size:=by
 obtain⟨c,st,p,hB,_⟩:=h.ex;exact hB.lt
theorem Cur.below{w w':World}{b:Nat}{A:Option Addr}{n cap:Nat}{l:List Nd}{td:List Rn}{tk gn:Nat}(h:Cur w b A n cap l td tk gn)(hb:Below w.heap.size w w'):Cur w' b A n cap l td tk gn:=by
 obtain⟨c,st,p,hB,r⟩:=h.ex;have aA:=hB.lt;exact⟨⟨⟨h.tb.rd.len,h.tb.rd.rd.keep fun q hq=>Bf (hb.block q.block (by omega)),h.tb.rd.bd⟩,h.tb.cap,h.tb.hn⟩,⟨c,st,p,hB.keep (hb.block b aA),r⟩,h.low,h.low0,h.sum,h.pos⟩
theorem Below.drewN{B:Nat}{w w':World}(h:Below B w w')(q:Nat):Below B w (w'.drewN q):=⟨h.os,h.tape,h.output,h.size,h.block⟩
def S0:List Rn->Nat->Rn
 | [],_=>⟨-1,0⟩
 | r::_,tk=>⟨r.p,r.n - tk⟩
abbrev rv(p n:Int):Value:=.agg #[.int .i64 p,.int .i64 n]
theorem Mt{w:World}{g:Nat}{x y:Int}(h0:w.cell? ⟨g,0,none⟩=some (.int .i64 x))(h1:w.cell? ⟨g,1,none⟩=some (.int .i64 y)):(loadVar 129 ⟨g,0,none⟩).run Tryz.prog w=.ok (rv x y) w:=by
 have e:(isAgg 129).run Tryz.prog w=.ok true w:=by go_simp
 have e2:(sizeOf 129).run Tryz.prog w=.ok 2 w:=by go_simp
 unfold loadVar;rw[Sem.run_bind,e,At];simp only[if_true];rw[Sem.run_bind,e2,At,Sem.run_bind];have:=run_loadCells_list (P:=Tryz.prog) (w:=w) ⟨g,0,none⟩ [.int .i64 x,.int .i64 y] (fun j v hj=>by
  match j with
  | 0=>simp at hj;subst hj;simpa [Addr.add] using h0
  | 1=>simp at hj;subst hj;simpa [Addr.add] using h1
  | j+2=>simp at hj)
 simp only[Ad,Bh] at this;rw[this,At];rfl
theorem Gm{fn:Func}{p:Tmp}{ty:TypeId}(h:fn.results=#[.cell p ty])(aA:Array Value)(P:Program)(w:World):
  (results fn aA).run P w=((asAddr (aA.getD p undef)).run P w).andThen fun a w₁=>(loadVar ty a).run P w₁:=by
 simp only[results,h];simp[Sem.run_bind,Result.andThen]
theorem Mq{fn:Func}{p:Tmp}(h:fn.results=#[.cell p 129]){aA:Array Value}{w:World}{g:Nat}{x y:Int}(hp:aA.getD p undef=.pointer (some ⟨g,0,none⟩))(h0:w.cell? ⟨g,0,none⟩=some (.int .i64 x))(h1:w.cell? ⟨g,1,none⟩=some (.int .i64 y)):
  (results fn aA).run Tryz.prog w=.ok (rv x y) w:=by
 have e:(asAddr (.pointer (some ⟨g,0,none⟩))).run Tryz.prog w=.ok ⟨g,0,none⟩ w:=rfl;rw[Gm h,hp,e,At,Mt h0 h1]
theorem La{fn:Func}{p q:Tmp}(h:fn.results=#[.cell p 129,.tmp q]){aA:Array Value}{w:World}{g:Nat}{x y:Int}(hp:aA.getD p undef=.pointer (some ⟨g,0,none⟩))(h0:w.cell? ⟨g,0,none⟩=some (.int .i64 x))(h1:w.cell? ⟨g,1,none⟩=some (.int .i64 y)):
  (results fn aA).run Tryz.prog w=.ok (.tuple #[rv x y,aA.getD q undef]) w:=by
 have e:(asAddr (.pointer (some ⟨g,0,none⟩))).run Tryz.prog w=.ok ⟨g,0,none⟩ w:=rfl;rw[results_cell_tmp h,hp,e,At,Mt h0 h1,At]
theorem Sz(b:Nat)(A:Option Addr)(n cap:Nat)(l:List Nd)(td:List Rn)(tk gn:Nat)(w:World)(h:Cur w b A n cap l td tk gn):
  Calls Tryz.prog 162 #[.pointer (some ⟨b,0,none⟩)] w (Ans (rv (S0 td tk).p ((S0 td tk).n:Int)) w):=by
 obtain⟨c,st,p,hB,hP,e0,aQ,aP,aZ,hA⟩:=h.ex;have bF:=hB.lt;obtain⟨W,hW⟩:∃ W,W=w.alloc (.cells #[.int .i64 0,.int .i64 0] 129):=⟨_,rfl⟩;have aI:Blk W b c:=hB.keep (by rw[hW];exact C3 w _ b bF);have aO:Tb W b A n cap l:=⟨⟨h.tb.rd.len,h.tb.rd.rd.keep fun q hq=>by rw[hW];exact Dd w _ q (by omega),h.tb.rd.bd⟩,h.tb.cap,h.tb.hn⟩;have n0:W.cell? ⟨w.heap.size,0,none⟩=some (.int .i64 0):=by rw[hW];exact Ab _ _ _ _ _
 have n1:W.cell? ⟨w.heap.size,1,none⟩=some (.int .i64 0):=by rw[hW];exact Ab _ _ _ _ _
 have g0:W.frozen? ⟨w.heap.size,0,none⟩=false:=by rw[hW];simp
 have g1:W.frozen? ⟨w.heap.size,1,none⟩=false:=by rw[hW];simp
 have aH:Below w.heap.size w W:=by rw[hW];exact bl1 _ _
 have aJ:w.heap.size < W.heap.size:=by rw[hW];simp
 have c0:=(aI 0 (by omega)).1;have aT:=(aI 34 (by omega)).1;have aR:=(aI 35 (by omega)).1;rw[e0] at c0;rw[aQ] at aT;rw[aP] at aR;have HW:=hid hW;have aD:=h.tb.rd.len;have hn:=h.tb.hn;have bH:=h.tb.cap;rcases hA with ⟨_,hp,rfl⟩ | ⟨x,u,hf,h3,h4,hx,_,_,rfl⟩
 ·rw[aD] at hp;subst hp;clear h hB aI aO hP e0 aQ aP aZ aD hW;go_in;go_wp2_with fail;rw[<- HW.o];clear HW;generalize hg:w.heap.size=g at n0 n1 g0 g1 aH aJ |-;have aU:=hid hg;clear hg;go_quiet (fail);go_wp2_with fail;refine Be (Mq rfl rfl (x:=-1) (y:=0) ?_ ?_) rfl ⟨rfl,?_⟩
  ·rw[Cg _ _ _ _ (by simp)];exact Ci _ _ _ (u:=.int .i64 0) n0
  ·exact Ci _ _ _ (u:=.int .i64 0) ((Cg _ _ _ _ (by simp)).trans n1)
  rw[aU.o];exact((Below.drewN aH nq).setCell (p:=⟨g,0,none⟩) (Ag _) _).setCell (p:=⟨g,1,none⟩) (Ag _) _
 obtain⟨xk,xp,xn⟩:=x;have bB:p < n:=by rw[<- aD];exact(Af.1 hx).1
 obtain⟨ad,y,rfl,bM,hy,aV,d0,d1,d2⟩:=aO.rd.at_ bB;rw[hx] at hy;injection hy with hy;subst hy;have bC:=fine_one hf;obtain⟨N,rfl⟩:=Ax (show 0<=xn by dsimp only at bC;omega);have bL:(N:Int)<=9223372036854775807:=aV.2.2.2;have bK:tk < N:=by have:=h.low _ _ rfl;simpa using this
 have aK:IntKind.i64.wrap ((N:Int) - (tk:Int))=(N:Int) - (tk:Int):=Dt _ (by omega);have bI:=hid aK;have bG:((p:Int) == (n:Int))=false:=Ak.2 (by omega);have bE:(p:Int) < (n:Int):=by omega
 have bD:0<=(p:Int):=by omega
 have aY:(ad.add (p*3)).block < W.heap.size:=by rw[Eh];omega
 have aX:b < W.heap.size:=by omega
 have aE:(S0 (⟨whose ⟨xk,xp,(N:Int)⟩,(N:Int).toNat⟩::u) tk)=⟨if xk=2 then -1 else xp,N - tk⟩:=by
  simp only[S0,whose,Bx]
 generalize S0 (⟨whose ⟨xk,xp,(N:Int)⟩,(N:Int).toNat⟩::u) tk=R at aE |-;have HR:=hid aE;clear h hB aI aO hP e0 aQ aP aZ aD hW hf hx aV aE aK h3 h4;go_in;go_wp2_with fail;rw[<- HW.o];clear HW;generalize hg:w.heap.size=g at n0 n1 g0 g1 aH aJ |-;have aU:=hid hg;clear hg;go_quiet (fail);go_wp2_with fail;obtain⟨W1,aA⟩:∃ W1,W1=W.drewN nq:=⟨_,rfl⟩;have E0:W1.cell? ⟨b,0,none⟩=some (.slice (some ad) n cap):=by rw[aA];exact c0
 have bJ:W1.cell? ⟨b,34,none⟩=some (.int .i64 (p:Int)):=by rw[aA];exact aT
 have bA:W1.cell? ⟨b,35,none⟩=some (.int .i64 (tk:Int)):=by rw[aA];exact aR
 have F0:W1.cell? (ad.add (p*3))=some (.int .i64 xk):=by rw[aA];exact d0
 have F1:W1.cell? ⟨(ad.add (p*3)).block,(ad.add (p*3)).off+1,none⟩=some (.int .i64 xp):=by rw[aA];exact d1
 have F2:W1.cell? ⟨(ad.add (p*3)).block,(ad.add (p*3)).off+2,none⟩=some (.int .i64 (N:Int)):=by rw[aA];exact d2
 have N0:W1.cell? ⟨g,0,none⟩=some (.int .i64 0):=by rw[aA];exact n0
 have N1:W1.cell? ⟨g,1,none⟩=some (.int .i64 0):=by rw[aA];exact n1
 have G0:W1.frozen? ⟨g,0,none⟩=false:=by rw[aA];exact g0
 have G1:W1.frozen? ⟨g,1,none⟩=false:=by rw[aA];exact g1
 have aL:b < W1.heap.size:=by rw[aA];exact aX
 have aN:(ad.add (p*3)).block < W1.heap.size:=by rw[aA];exact aY
 have aB:g < W1.heap.size:=by rw[aA];exact aJ
 have aG:Below g w W1:=by rw[aA];exact Below.drewN aH nq
 rw[<- aA];clear c0 aT aR d0 d1 d2 aA n0 n1 g0 g1 aX aY aJ aH;go_region;obtain⟨W2,aC⟩:∃ W2,W2=(W1.alloc (.cells #[.int .i64 xk,.int .i64 xp,.int .i64 (N:Int)] 54)).drew:=⟨_,rfl⟩;have bN:W2.cell? ⟨b,35,none⟩=some (.int .i64 (tk:Int)):=by rw[aC];exact(Dd W1 _ ⟨b,35,none⟩ aL).trans bA
 have Q0:W2.cell? ⟨W1.heap.size,0,none⟩=some (.int .i64 xk):=by rw[aC];exact Ab _ _ _ _ _
 have Q1:W2.cell? ⟨W1.heap.size,1,none⟩=some (.int .i64 xp):=by rw[aC];exact Ab _ _ _ _ _
 have Q2:W2.cell? ⟨W1.heap.size,2,none⟩=some (.int .i64 (N:Int)):=by rw[aC];exact Ab _ _ _ _ _
 have M0:W2.cell? ⟨g,0,none⟩=some (.int .i64 0):=by rw[aC];exact(Dd W1 _ ⟨g,0,none⟩ aB).trans N0
 have M1:W2.cell? ⟨g,1,none⟩=some (.int .i64 0):=by rw[aC];exact(Dd W1 _ ⟨g,1,none⟩ aB).trans N1
 have P0:W2.frozen? ⟨g,0,none⟩=false:=by rw[aC];exact(C4 (a:=⟨g,0,none⟩) (C3 W1 _ g aB)).trans G0
 have P1:W2.frozen? ⟨g,1,none⟩=false:=by rw[aC];exact(C4 (a:=⟨g,1,none⟩) (C3 W1 _ g aB)).trans G1
 have aM:Below g w W2:=by rw[aC];exact(aG.alloc (Nat.le_of_lt aB) _).drew
 rw[<- aC];clear aC E0 bJ bA F0 F1 F2 N0 N1 G0 G1 aN aG aB;generalize W1.heap.size=g2 at Q0 Q1 Q2 |-;have aF:∀ v:Int,v=R.p->Ans (rv R.p (R.n:Int)) w (.returned (rv v ((N:Int) - (tk:Int)))) ((W2.drew.setCell ⟨g,0,none⟩ (.int .i64 v)).setCell ⟨g,1,none⟩ (.int .i64 ((N:Int) - (tk:Int)))):=fun v hv=>by
  refine⟨?_,?_⟩
  ·rw[hv,HR.o];dsimp only;rw[show ((N - tk:Nat):Int)=(N:Int) - (tk:Int) by omega]
  rw[aU.o];exact((aM.drew).setCell (p:=⟨g,0,none⟩) (Ag _) _).setCell (p:=⟨g,1,none⟩) (Ag _) _
 have HF:=hid aF
 clear aF
 go_wp2_with fail
 all_goals
  have aK:=bI.o;go_still_tail 9,(by kernel_rfl);change wpList _ _ _ _ _ W2.drew;go_wp2_with fail;refine Be (Mq rfl rfl ?_ ?_) rfl (HF.o _ ?_)
  ·rw[World.cell?_drew,Cg _ _ _ _ (by simp)];exact Ci _ _ _ (u:=.int .i64 0) M0
  ·rw[World.cell?_drew];exact Ci _ _ _ (u:=.int .i64 0) ((Cg _ _ _ _ (by simp)).trans M1)
  rw[HR.o];simp only[Ck,Ak,ne_eq] at *;simp[*]
def Qui(v:Value)(w:World)(e:Ending)(w':World):Prop:=e=.returned v/\∃ m,w'=w.drewN m
theorem im(x y:Nd)(W:World):(binOp .neq 54 (nd x.k x.p x.n) (nd y.k y.p y.n)).run Tryz.prog W=.ok (.bool (!(ndEq x y))) W:=by
 obtain⟨a,b,c⟩:=x;obtain⟨d,e,f⟩:=y;unfold ndEq;by_cases h1:a=d
 ·by_cases h2:b=e
  ·by_cases h3:c=f
   ·subst h1;subst h2;subst h3;simp[C6,go_sem]
   subst h1;subst h2;simp[C6,go_sem,h3]
  subst h1;simp[C6,go_sem,h2]
 simp[C6,go_sem,h1]
