import Derived.Test.YtfmndmhjjbeokaaGreatDoorLow31
set_option maxHeartbeats 8000000
set_option maxRecDepth 100000
set_option linter.unusedSimpArgs false
set_option linter.unusedVariables false
namespace Go.Proofs.YtfmndmhjjbeokaaGreatDoor
open Go.RowKit Tab Txt
namespace Txt
theorem numS_lt{m:Nat}{s:List UInt8}{x:Nat×List UInt8}(h:numS m s=some x):x.2.length < s.length:=by
 have hl:∀(s:List UInt8) (n:Nat) (x:Nat×List UInt8),n≠0\/True->numL m n s=some x->x.2.length<=s.length:=fun s n x _ h=>numL_le m s n x h;cases s with
 | nil=>cases h
 | cons c r =>
  rw[numS_cons] at h;split at h
  ·injection h with h;rw[<- h];simp
  rw[numL_cons] at h;split at h
  ·split at h
   ·cases h
   have:=numL_le m r _ x h;rw[Ad];omega
  rw[if_pos rfl] at h;cases h
theorem winS_eq(whose:List UInt8->Option (Int×List UInt8))(s:List UInt8):winS whose s=(whose s).bind fun p=>(takeB 58 p.2).bind fun r=>(numZ lim40 r).bind fun n=>some ([(⟨1,p.1,n.1⟩:Nd)],n.2):=by
 unfold winS;cases whose s with
 | none=>rfl
 | some p =>
  dsimp only;rw[As];cases takeB 58 p.2 with
  | none=>rfl
  | some r =>
   dsimp only;rw[As];unfold numZ;cases numS lim40 r with
   | none=>rfl
   | some n=>rfl
theorem idl_eq(s:List UInt8):((numS lim40 s).map fun x=>([(⟨2,0,x.1⟩:Nd)],x.2))=(numZ lim40 s).bind fun n=>some ([(⟨2,0,n.1⟩:Nd)],n.2):=by
 unfold numZ;cases numS lim40 s with
 | none=>rfl
 | some n=>rfl
theorem repS_eq(f:Nat->List UInt8->Option (List Nd×List UInt8))(rm:Nat)(s:List UInt8):repS f rm s=(numZ lim40 s).bind fun v=>(takeB 40 v.2).bind fun s2=>(f rm s2).bind fun x=>(takeB 41 x.2).bind fun s4=>some ((⟨4,0,v.1⟩:Nd)::x.1,s4):=by
 unfold repS numZ;cases numS lim40 s with
 | none=>rfl
 | some v =>
  dsimp only;show _=(takeB 40 v.2).bind _;cases takeB 40 v.2 with
  | none=>rfl
  | some s2 =>
   dsimp only;rw[As];cases f rm s2 with
   | none=>rfl
   | some x =>
    dsimp only;rw[As];cases takeB 41 x.2 with
    | none=>rfl
    | some s4=>rfl
theorem nodeS_rds{whose:List UInt8->Option (Int×List UInt8)}(hw:∀ s p,whose s=some p->p.2.length<=s.length):∀ lv,Rds (nodeS whose lv):=by
 intro lv;induction lv with
 | zero=>intro rm s x h;cases h
 | succ lv ih =>
  intro rm s x h;cases rm with
  | zero=>cases h
  | succ rm =>
   cases s with
   | nil=>cases h
   | cons c s =>
    change stepS whose (nodeS whose lv) (rm+1) (c::s)=some x at h;rw[stepS_cons] at h;rw[Ad];split at h
    ·unfold winS at h;split at h
     ·cases h
     rename_i p hp;split at h
     ·cases h
     rename_i r hr;have h1:=hw s p hp;have h2:=congrArg List.length (takeB_some hr);rw[Ad] at h2;cases hn:numS lim40 r with
     | none=>rw[hn] at h;cases h
     | some v =>
      rw[hn] at h;injection h with h;have h3:=numS_lt hn;rw[<- h];refine⟨?_,?_,?_⟩
      ·show v.2.length < _;omega
      ·show 1<=_;omega
      show 0 < 1;omega
    split at h
    ·cases hn:numS lim40 s with
     | none=>rw[hn] at h;cases h
     | some v =>
      rw[hn] at h;injection h with h;have h3:=numS_lt hn;rw[<- h];refine⟨?_,?_,?_⟩
      ·show v.2.length < _;omega
      ·show 1<=_;omega
      show 0 < 1;omega
    split at h
    ·have:=seqT_len ih h;exact⟨by omega,this.2.1,this.2.2⟩
    split at h
    ·unfold repS at h;split at h
     ·cases h
     rename_i v hv;have h3:=numS_lt hv;split at h
     ·cases h
     rename_i s2 aA;have h2:=congrArg List.length (takeB_some aA);rw[Ad] at h2;split at h
     ·cases h
     rename_i y hy;have h4:=ih _ _ _ hy;cases h5:takeB 41 y.2 with
     | none=>rw[h5] at h;cases h
     | some s4 =>
      rw[h5] at h;injection h with h;have h6:=congrArg List.length (takeB_some h5);rw[Ad] at h6;rw[<- h];refine⟨?_,?_,?_⟩
      ·show s4.length < _;omega
      ·show y.1.length+1<=_;omega
      show 0 < y.1.length+1;omega
    cases h
def seqMore(f:Nat->List UInt8->Option (List Nd×List UInt8))(rm k:Nat)(l:List Nd)(s:List UInt8):Option (List Nd×List UInt8):=match f (rm - l.length) s with
 | none=>none
 | some x=>match kidsR f (x.2.length+1) (rm - l.length - x.1.length) x.2 with
  | none=>none
  | some y=>(takeB 41 y.2.2).map fun s4=>(⟨3,0,((k+1+y.2.1:Nat):Int)⟩::(l++(x.1++y.1)),s4)
def seqEnd(k:Nat)(l:List Nd)(s:List UInt8):Option (List Nd×List UInt8):=(takeB 41 s).map fun s4=>((⟨3,0,(k:Int)⟩:Nd)::l,s4)
theorem seqT_more(f:Nat->List UInt8->Option (List Nd×List UInt8))(rm:Nat)(s:List UInt8):seqT f rm s=(takeB 40 s).bind (seqMore f rm 0 []):=by
 unfold seqT;cases takeB 40 s with
 | none=>rfl
 | some s1 =>
  show _=seqMore f rm 0 [] s1;unfold seqMore;dsimp only;rw[show rm - ([]:List Nd).length=rm from rfl];cases f rm s1 with
  | none=>rfl
  | some x =>
   dsimp only;cases kidsR f (x.2.length+1) (rm - x.1.length) x.2 with
   | none=>rfl
   | some y=>dsimp only;rw[show y.2.1+1=0+1+y.2.1 by omega,Cw]
theorem seq_next{f:Nat->List UInt8->Option (List Nd×List UInt8)}{rm k:Nat}{l l6:List Nd}{R:Option (List Nd×List UInt8)}{st aA:Option (List UInt8)}(hf:Rds f)(h:R=st.bind (seqMore f rm k l))(hg:Got (st.bind (f (rm - l.length))) l6 aA):
  (∀ r,aA.bind (takeB 44)=some r->R=(some r).bind (seqMore f rm (k+1) (l++l6)))/\(aA.bind (takeB 44)=none->R=aA.bind (seqEnd (k+1) (l++l6))):=by
 obtain⟨e1,e2⟩:=hg;cases st with
 | none =>
  rw[show (none:Option (List UInt8)).bind (f (rm - l.length))=none from rfl] at e1;rw[e1];exact⟨fun r hr=>(by cases hr),fun _=>h⟩
 | some s =>
  rw[As] at e1 e2 h;unfold seqMore at h;cases hx:f (rm - l.length) s with
  | none =>
   rw[hx] at e1 h;rw[e1];exact⟨fun r hr=>(by cases hr),fun _=>h⟩
  | some x =>
   rw[hx] at e1 h;have aC:=e2 x hx;have e1:aA=some x.2:=e1;rw[e1];dsimp only at h;have aE:=hf _ _ _ hx;refine⟨fun r hr=>?_,fun hr=>?_⟩
   ·rw[As] at hr |-;rw[kidsR_succ,hr] at h;dsimp only at h;unfold seqMore;rw[Aa,<- Nat.sub_sub,aC];cases hy:f (rm - l.length - x.1.length) r with
    | none=>rw[hy] at h;exact h
    | some y =>
     rw[hy] at h;dsimp only at h |-;have aD:=congrArg List.length (takeB_some hr);rw[Ad] at aD;have aB:=hf _ _ _ hy;rw[kidsR_fuel hf x.2.length (y.2.length+1) _ _ (by omega) (Ca _)] at h;cases hz:kidsR f (y.2.length+1) (rm - l.length - x.1.length - y.1.length) y.2 with
     | none=>rw[hz] at h;exact h
     | some z =>
      rw[hz] at h;dsimp only at h |-;rw[h,show k+1+(z.2.1+1)=k+1+1+z.2.1 by omega,Ar]
   rw[As] at hr |-;rw[kidsR_succ,hr] at h;dsimp only at h;unfold seqEnd;rw[h,aC,Az,show k+1+0=k+1 from rfl]
end Txt
structure Kx(X g:Nat)(w w':World):Prop where
 os:w'.os=w.os
 tape:w'.tape=w.tape
 output:w'.output=w.output
 size:w.heap.size<=w'.heap.size
 block:∀ k,k < X->k≠g->w'.heap[k]? = w.heap[k]?
theorem Kx.refl(X g:Nat)(w:World):Kx X g w w:=⟨rfl,rfl,rfl,Ag _,fun _ _ _=>rfl⟩
theorem Kx.trans{X g:Nat}{w w' w'':World}(h:Kx X g w w')(k:Kx X g w' w''):Kx X g w w'':=⟨k.os.trans h.os,k.tape.trans h.tape,k.output.trans h.output,Ai h.size k.size,fun i hi h1=>(k.block i hi h1).trans (h.block i hi h1)⟩
theorem Kx.gb{X g:Nat}{w w':World}(h:w.grownBy w' (some g))(hX:X<=w.heap.size):Kx X g w w':=⟨h.os,h.tape,h.output,h.size,fun i hi h1=>h.block i (by omega) (by intro e;injection e with e;exact h1 e)⟩
theorem Kx.bel{X g:Nat}{w w':World}(h:Below X w w'):Kx X g w w':=⟨h.os,h.tape,h.output,h.size,fun i hi _=>h.block i hi⟩
structure TS(X Br gr gt:Nat)(wv:Value)(w0:World)(st:Option (List UInt8))(out:List Nd)(AO:Option Addr)(n co:Nat)(w:World):Prop where
 rd:Qce Br gr st w
 tr:Zl X gt gr wv AO n co w
 ow:OwnV 54 3 w X AO n co (ns out)
 len:out.length=n
 le:n<=128
 kx:Kx X gr w0 w
 xs:X<=w.heap.size
section
variable {X Br gr gt:Nat} {wv:Value} {w0:World} {st st':Option (List UInt8)} {out:List Nd} {AO:Option Addr} {n co:Nat} {w w':World}
theorem TS.step(h:TS X Br gr gt wv w0 st out AO n co w)(k:Rpo Br gr st' w w'):TS X Br gr gt wv w0 st' out AO n co w' :=
 ⟨k.rd,OwnV.gbo h.tr k.gb (Ee h.tr h.rd (by decide)),OwnV.gbo h.ow k.gb (Ee h.ow h.rd (by decide)),h.len,h.le,h.kx.trans (Kx.gb k.gb h.xs),Ai h.xs k.gb.size⟩
theorem TS.cells(h:TS X Br gr gt wv w0 st out AO n co w):w.cell? ⟨gt,0,none⟩=some (.pointer (some ⟨gr,0,none⟩))/\w.cell? ⟨gt,1,none⟩=some wv/\w.cell? ⟨gt,2,none⟩=some (.slice AO n co) :=
 ⟨(Dz h.tr 0 _ rfl).1,(Dz h.tr 1 _ rfl).1,(Dz h.tr 2 _ rfl).1⟩
theorem TS.put(h:TS X Br gr gt wv w0 st out AO n co w)(hn:n < 128){nd:Nd}{A':Option Addr}{c':Nat}(h1:Zl X gt gr wv A' (n+1) c' w')(h2:OwnV 54 3 w' X A' (n+1) c' (ns (out++[nd])))(h3:KpR gt AO w w'):TS X Br gr gt wv w0 st (out++[nd]) A' (n+1) c' w':=by
 have aB:=OwnV.obk_ge h.tr (b:=gt) rfl;refine⟨KpR.own h3 h.rd (by intro e;exact OwnV.apart h.rd h.tr (by decide) _ e rfl) (fun k hk=>fun e=>OwnV.apart h.ow h.rd (by decide) k e hk),h1,h2,by rw[Aa,h.len];rfl,by omega,⟨h3.os.trans h.kx.os,h3.tape.trans h.kx.tape,h3.output.trans h.kx.output,Ai h.kx.size h3.size,fun k hk aA=>?_⟩,Ai h.xs h3.size⟩;refine(h3.block k (Bc hk h.xs) (by omega) fun e=>?_).trans (h.kx.block k hk aA);have:=OwnV.obk_ge h.ow e;omega
end
def NdQ(X Br gr gt:Nat)(wv:Value)(w0:World)(R:Option (List Nd×List UInt8))(out:List Nd)(e:Ending)(w':World):Prop:=e=.returned (.tuple #[])/\∃(l:List Nd) (st':Option (List UInt8)) (A':Option Addr) (n' c':Nat),Got R l st'/\TS X Br gr gt wv w0 st' (out++l) A' n' c' w'
def ez(X Br gr:Nat)(w0:World)(kf:Nat)(cap:Array Value)(whose:List UInt8->Option (Int×List UInt8)):Prop:=(∀ s p,whose s=some p->p.2.length<=s.length)/\(∀ args w,(callFunc kf args).run Tryz.prog w=.ok (.enter kf args) w)/\∀(st:Option (List UInt8)) (W:World),Kx X gr w0 W->Qce Br gr st W->(st.getD []).length<=1048576->Calls Tryz.prog kf cap W (jz Br gr (st.bind whose) W)
theorem Jq{α:Type}{R:Option (α×List UInt8)}{v:α}{st:Option (List UInt8)}(h:R=st.bind fun s=>some (v,s)):Got R v st:=by rw[h];exact Got.end_ v st
theorem Zq{X Br gr gt kf:Nat}{cap:Array Value}{w0:World}{whose:List UInt8->Option (Int×List UInt8)}(HW:ez X Br gr w0 kf cap whose)(lv aB:Nat)(bQ:aB+1+lv=17)
  (ih:∀(st:Option (List UInt8)) (out:List Nd) (AO:Option Addr) (n co:Nat) (w:World),TS X Br gr gt (.func (.func kf) #[] cap) w0 st out AO n co w->(st.getD []).length<=1048576->Calls Tryz.prog 82 #[.pointer (some ⟨gt,0,none⟩),.int .i64 ((aB+1:Nat):Int)] w (NdQ X Br gr gt (.func (.func kf) #[] cap) w0 (st.bind (nodeS whose lv (128 - n))) out))
  (st:Option (List UInt8)) (out:List Nd) (AO:Option Addr) (n co:Nat) (w:World) (h:TS X Br gr gt (.func (.func kf) #[] cap) w0 st out AO n co w) (hn:n < 128) (hl:(st.getD []).length<=1048576) :
  Calls Tryz.prog 116 #[.pointer (some ⟨gt,0,none⟩),.int .i64 (aB:Int)] w (NdQ X Br gr gt (.func (.func kf) #[] cap) w0 (st.bind (seqT (nodeS whose lv) (128 - n - 1))) out):=by
 have aF:=hid (nodeS_rds HW.1 lv);have aG:Hd (st.bind (seqT (nodeS whose lv) (128 - n - 1))=(st.bind (takeB 40)).bind (seqMore (nodeS whose lv) (128 - n - 1) 0 [])):=hid (by
  cases st with
  | none=>rfl
  | some s=>exact seqT_more _ _ s)
 have HS:=hid h;have bF:=hid hl;have aX:=hid ih;have HN:=hid hn;have aY:=Qcm ⟨3,0,0⟩ h.tr h.ow (by omega) h.xs;have aU:=hid aY;generalize bK:Value.func (.func kf) #[] cap=wv at HS aX aU |-;generalize st.bind (seqT (nodeS whose lv) (128 - n - 1))=R at aG |-;obtain⟨d1,bA⟩:∃ d1,d1=aB+1:=⟨_,rfl⟩;rw[<- bA] at aX;have e1:IntKind.i64.wrap (d1:Int)=(d1:Int):=by rw[Cm];omega
 have e2:(aB:Int)+1=(d1:Int):=by omega
 clear h hl ih aY bK bA;go_in;obtain⟨m0,m1,m2⟩:=HS.o.cells;have bM:Tryz.prog.built 54 [(0,.int .i64 3)]=some #[.int .i64 3,.int .i64 0,.int .i64 0]:=rfl;go_wp2_with fail;refine aU.o.mono ?_;rintro e w1⟨rfl,A1,c1,p1,p2,p3,p4⟩;have aL:=hid (HS.o.put HN.o p1 p2 p3);clear p1 p2 p3 p4 aU m0 m1 m2 bM;have HM:=hid (Qcd aL.o.rd 40 40 rfl);obtain⟨m0,m1,m2⟩:=aL.o.cells;go_wp2_with fail;refine HM.o.mono ?_;rintro e w2⟨rfl,hm⟩;have aK:=hid (aL.o.step hm);clear hm HM m0 m1 m2;have bH:Hd (((st.bind (takeB 40)).getD []).length<=1048576):=hid (Ai (Qch st 40) bF.o);generalize st.bind (takeB 40)=s2 at aK aG bH;have bG:Hd (out.length=n):=hid HS.o.len;clear HS aL bF;go_wp2;go_loopw [5] (fun m wr=>∃(b:Bool) (k:Nat) (l:List Nd) (sn:Option (List UInt8)) (A:Option Addr) (n1 c1:Nat),m=.bool b/\TS X Br gr gt wv w0 sn (out++⟨3,0,(k:Int)⟩::l) A n1 c1 wr/\
  (b=true->R=sn.bind (seqMore (nodeS whose lv) (128 - n - 1) k l)/\k+(sn.getD []).length<=1048576)/\(b=false->R=sn.bind (seqEnd k l)/\k<=1048577)) (fun m wr=>mrB m (Ve wr gr))
 case atStart=>exact⟨true,0,[],s2,A1,n+1,c1,rfl,aK.o,fun _=>⟨aG.o,by have:=bH.o;omega⟩,fun e=>(by cases e)⟩
 obtain⟨b,k,l,sn,A,n1,c2,rfl,aE,aD,aM⟩:=hrel;have aQ:=hid aE;cases b with
 | false =>
  obtain⟨q1,q2⟩:=aM rfl;have aT:=hid q1;clear q1 q2 aM aD aE aG aK;have HM:=hid (Qcd aQ.o.rd 41 41 rfl);obtain⟨m0,m1,m2⟩:=aQ.o.cells;go_wp2_with fail;refine HM.o.mono ?_;rintro e w4⟨rfl,hm⟩;have aJ:=hid (aQ.o.step hm);clear hm HM m0 m1 m2;have HG:Hd (Got R ((⟨3,0,(k:Int)⟩:Nd)::l) (sn.bind (takeB 41))):=hid (Jq (by
   rw[aT.o];cases sn with
   | none=>rfl
   | some s =>
    show seqEnd k l s=(takeB 41 s).bind _;unfold seqEnd;cases takeB 41 s with
    | none=>rfl
    | some r=>rfl))
  go_wp2_with fail
  first | go_end0 | refine Be (Cn rfl _ _ _) rfl ?_
  exact⟨rfl,_,_,A,n1,c2,HG.o,aJ.o⟩
 | true =>
  obtain⟨q1,q2⟩:=aD rfl;have aT:=hid q1;have HK:=hid q2;have bL:n1=n+1+l.length:=by have:=aE.len;rw[Aa,Ad,bG.o] at this;omega
  have aN:=aX.o sn _ A n1 c2 wr aE (by omega);rw[show 128 - n1=128 - n - 1 - l.length by omega] at aN;have bD:=hid aN;have aV:=hid (Gy aE.rd);clear q1 q2 aM aD aE aN aG aK bL;go_wp2_with fail;refine bD.o.mono ?_;rintro e w4⟨rfl,l6,s6,A6,n6,c6,aP,aA⟩;have aZ:=seq_next aF.o aT.o aP;have aH:=hid aZ;have bB:out++⟨3,0,(k:Int)⟩::l++l6=out++⟨3,0,(k:Int)⟩::(l++l6):=by rw[Ar];rfl
  rw[bB] at aA;have aJ:=hid aA;have bO:=hid aP;obtain⟨gb,rfl⟩:∃ gb,A6=some ⟨gb,0,none⟩:=by
   obtain⟨g',e,_⟩:=OwnV.block aA.ow (by have:=aA.len;rw[Aa,Ad] at this;omega);exact⟨g',e⟩
  have bP:k<=1048576:=by have:=HK.o;omega
  obtain⟨kk,aO⟩:∃ kk,kk=k+1:=⟨_,rfl⟩;rw[<- aO] at aH;obtain⟨p1,p2,p3,p4⟩:=K8 (z:=(kk:Int)) aA.ow bG.o aA.len;have bC:=hid p1;obtain⟨m0,m1,m2⟩:=aA.cells;have bN:Hd (X<=gb/\gb≠gr/\gb≠gt):=hid ⟨(OwnV.obk_ge aA.ow (b:=gb) rfl).1,fun e=>OwnV.apart aA.ow aA.rd (by decide) gb rfl (by rw[e];rfl),fun e=>OwnV.apart aA.ow aA.tr (by decide) gb rfl (by rw[e];rfl)⟩;have k1:(k:Int)+1=(kk:Int):=by omega
  have k2:IntKind.i64.wrap (kk:Int)=(kk:Int):=by rw[Cm];omega
  have bI:=hid aO;have bJ:(n:Int) < (n6:Int):=by omega
  clear p1 aA aZ aP bD bB aO;go_upto_region 5 with fail;have aC:Hd (TS X Br gr gt wv w0 s6 (out++⟨3,0,(kk:Int)⟩::(l++l6)) (some ⟨gb,0,none⟩) n6 c6 (w4.setCell ⟨gb,n*3+2,none⟩ (.int .i64 (kk:Int)))):=hid (by
   have h:=aJ.o;have q:=bN.o;refine⟨OwnV.other h.rd _ _ (by intro j e;injection e with e;injection e with e;show j≠gb;omega),OwnV.other h.tr _ _ (by intro j e;injection e with e;injection e with e;show j≠gb;omega),bC.o,?_,h.le,h.kx.trans (Kx.bel ((Aj _ _).setCell (p:=⟨gb,n*3+2,none⟩) q.1 _)),by simpa using h.xs⟩;have:=h.len;rw[Aa,Ad] at this |-;exact this)
  clear bC aJ m0 m1 m2 p2 p3 p4 bJ;generalize w4.setCell ⟨gb,n*3+2,none⟩ (.int .i64 (kk:Int))=w5 at aC |-;obtain⟨m0,m1,m2⟩:=aC.o.cells;cases hq:s6.bind (takeB 44) with
  | some r =>
   have HT:=hid (Fc aC.o.rd 44 44 rfl hq);have aR:=hid (aH.o.1 r hq);have bE:Hd (kk+r.length<=1048576/\r.length < (sn.getD []).length):=hid (by
    cases s6 with
    | none=>cases hq
    | some s3 =>
     have a2:=congrArg List.length (takeB_some (show takeB 44 s3=some r from hq));rw[Ad] at a2;have a3:=HK.o;have a5:=bI.o;have a4:=got_le (fun s x hx=>Nat.le_of_lt ((aF.o _ _ _ hx).1)) bO.o;rw[Bq] at a4;omega)
   clear hq aH;go_wp2_with fail;refine HT.o.mono ?_;rintro e w6⟨rfl,h6⟩;have aI:=hid (aC.o.step h6);clear h6 HT m0 m1 m2 aC;go_wp2;go_roundw
   case rel=>exact⟨true,kk,l++l6,some r,_,n6,c6,rfl,aI.o,fun _=>⟨aR.o,bE.o.1⟩,fun e=>(by cases e)⟩
   have a1:=bE.o.2;have a2:=aV.o;have a3:=Gy aI.o.rd;rw[Bq] at a3;simp only[mrB];omega
  | none =>
   have HT:=hid (Fj aC.o.rd 44 44 rfl hq);have aR:=hid (aH.o.2 hq);clear hq aH;go_wp2_with fail;refine HT.o.mono ?_;rintro e w6⟨rfl,h6⟩;have aI:=hid (aC.o.step h6);clear h6 HT m0 m1 m2 aC;go_wp2;go_roundw
   case rel=>exact⟨false,kk,l++l6,s6,_,n6,c6,rfl,aI.o,fun e=>(by cases e),fun _=>⟨aR.o,by have:=bI.o;omega⟩⟩
   simp only[mrB];omega
theorem Xl{X Br gr gt kf:Nat}{cap:Array Value}{w0:World}{whose:List UInt8->Option (Int×List UInt8)}(HW:ez X Br gr w0 kf cap whose):∀(lv aA:Nat),aA+lv=17->∀(st:Option (List UInt8)) (out:List Nd) (AO:Option Addr) (n co:Nat) (w:World),
  TS X Br gr gt (.func (.func kf) #[] cap) w0 st out AO n co w->(st.getD []).length<=1048576->Calls Tryz.prog 82 #[.pointer (some ⟨gt,0,none⟩),.int .i64 (aA:Int)] w (NdQ X Br gr gt (.func (.func kf) #[] cap) w0 (st.bind (nodeS whose lv (128 - n))) out):=by
 intro lv;induction lv with
 | zero =>
  intro aA aU st out AO n co w h hl;have HS:=hid h;have HG:Hd (Got (st.bind (nodeS whose 0 (128 - n))) ([]:List Nd) none):=hid (Iu (by cases st <;> rfl));generalize st.bind (nodeS whose 0 (128 - n))=R at HG |-;have i1:(16:Int) < (aA:Int):=by omega
  clear h hl aU;go_in;have HF:=hid (En HS.o.rd);obtain⟨m0,m1,m2⟩:=HS.o.cells;go_wp2_with fail;refine HF.o.mono ?_;rintro e wf⟨rfl,hf⟩;have aO:=hid (HS.o.step hf);clear hf HF m0 m1 m2;go_wp2_with fail
  first | go_end0 | refine Be (Cn rfl _ _ _) rfl ?_
  exact⟨rfl,[],none,AO,n,co,HG.o,by rw[Az];exact aO.o⟩
 | succ lv ih =>
  intro aA aU st out AO n co w h hl;have HS:=hid h;have HL:=hid hl;have aN:=hid (ih (aA+1) (by omega));have aH:=hid fun st out AO n co w h hn hl=>Zq HW lv aA (by omega) (ih (aA+1) (by omega)) st out AO n co w h hn hl;have i1:¬ (16:Int) < (aA:Int):=by omega
  obtain⟨d1,bB⟩:∃ d1,d1=aA+1:=⟨_,rfl⟩;rw[<- bB] at aN;have e1:IntKind.i64.wrap (d1:Int)=(d1:Int):=by rw[Cm];omega
  have e2:(aA:Int)+1=(d1:Int):=by omega
  have bM:=h.le;have bC:=hid HW;clear h hl aU ih bB;by_cases bA:n=128
  ·have HG:Hd (Got (st.bind (nodeS whose (lv+1) (128 - n))) ([]:List Nd) none):=hid (Iu (by rw[show 128 - n=0 by omega];cases st <;> rfl));generalize st.bind (nodeS whose (lv+1) (128 - n))=R at HG |-;have i2:((n:Int) == 128)=true:=by rw[Ck];omega
   clear aN aH;go_in;have HF:=hid (En HS.o.rd);obtain⟨m0,m1,m2⟩:=HS.o.cells;go_wp2_with fail;refine HF.o.mono ?_;rintro e wf⟨rfl,hf⟩;have aO:=hid (HS.o.step hf);clear hf HF m0 m1 m2;go_wp2_with fail
   first | go_end0 | refine Be (Cn rfl _ _ _) rfl ?_
   exact⟨rfl,[],none,AO,n,co,HG.o,by rw[Az];exact aO.o⟩
  have hn:n < 128:=by omega
  have aL:=hid hn;have i2:((n:Int) == 128)=false:=by rw[Ak];omega
  obtain⟨rm,aT⟩:∃ rm,128 - n=rm+1:=⟨127 - n,by omega⟩;have bF:Hd (128 - n - 1=rm/\128 - (n+1)=rm):=hid ⟨by omega,by omega⟩;rw[aT];have aC:=hid (Lw HS.o.rd);by_cases hs:st.getD []=[]
  ·have HG:Hd (Got (st.bind (nodeS whose (lv+1) (rm+1))) ([]:List Nd) none):=hid (Iu (by
    cases st with
    | none=>rfl
    | some s=>rw[show s=[] from hs];rfl))
   have hv:nxV st=0:=by
    cases st with
    | none=>rfl
    | some s=>rw[show s=[] from hs];rfl
   rw[hv] at aC;generalize st.bind (nodeS whose (lv+1) (rm+1))=R at HG |-;clear aN aH hv hs aT;go_in;obtain⟨m0,m1,m2⟩:=HS.o.cells;go_wp2_with fail;refine aC.o.mono ?_;rintro e w1⟨rfl,h1⟩;have aI:=hid (HS.o.step h1);clear h1 aC m0 m1 m2;have HF:=hid (En aI.o.rd);obtain⟨m0,m1,m2⟩:=aI.o.cells;go_wp2_with fail;refine HF.o.mono ?_;rintro e wf⟨rfl,hf⟩;have aO:=hid (aI.o.step hf);clear hf HF m0 m1 m2;go_wp2_with fail
   first | go_end0 | refine Be (Cn rfl _ _ _) rfl ?_
   exact⟨rfl,[],none,AO,n,co,HG.o,by rw[Az];exact aO.o⟩
  obtain⟨c,r,rfl⟩:∃ c r,st=some (c::r):=by
   cases st with
   | none=>exact absurd rfl hs
   | some s =>
    cases s with
    | nil=>exact absurd rfl hs
    | cons c r=>exact⟨c,r,rfl⟩
  rw[show nxV (some (c::r))=(c.toNat:Int) from rfl,show nxS (some (c::r))=some r from rfl] at aC;have hR:(some (c::r)).bind (nodeS whose (lv+1) (rm+1))=if c=119 then winS whose r else if c=105 then (numS lim40 r).map fun x=>([⟨2,0,x.1⟩],x.2) else if c=115 then seqT (nodeS whose lv) rm r else if c=114 then repS (nodeS whose lv) rm r else none:=rfl;have aY:Hd (r.length<=1048576):=hid (by have:=HL.o;rw[Bq,Ad] at this;omega);rw[hR];clear hs hR aT HL;by_cases aB:c=119
  ·rw[if_pos aB,winS_eq];rw[aB] at aC;clear aB aN aH;have aF:Hd (∀ p s1 v s3,Got ((some r).bind whose) p s1->Got ((s1.bind (takeB 58)).bind (numZ lim40)) v s3->Got ((whose r).bind fun p=>(takeB 58 p.2).bind fun r=>(numZ lim40 r).bind fun n=>some ([(⟨1,p.1,n.1⟩:Nd)],n.2)) [⟨1,p,v⟩] s3):=hid fun p s1 v s3 g1 g2=>Jq (by
    have a1:=g1.bind fun p s=>(takeB 58 s).bind fun r=>(numZ lim40 r).bind fun n=>some ([(⟨1,p,n.1⟩:Nd)],n.2);have a2:=g2.bind fun v s=>some ([(⟨1,p,v⟩:Nd)],s);exact a1.trans ((must_bind s1 58 fun r=>(numZ lim40 r).bind fun n=>some ([(⟨1,p,n.1⟩:Nd)],n.2)).trans a2))
   generalize ((whose r).bind fun p=>(takeB 58 p.2).bind fun r=>(numZ lim40 r).bind fun n=>some ([(⟨1,p.1,n.1⟩:Nd)],n.2))=R at aF |-;go_in;obtain⟨m0,m1,m2⟩:=HS.o.cells;go_wp2_with fail;refine aC.o.mono ?_;rintro e w1⟨rfl,h1⟩;have aI:=hid (HS.o.step h1);clear h1 aC m0 m1 m2;obtain⟨m0,m1,m2⟩:=aI.o.cells;have bG:=bC.o.2.1;have bD:=hid (bC.o.2.2 (some r) w1 aI.o.kx aI.o.rd aY.o);go_wp2_with fail;refine bD.o.mono ?_;rintro e w2⟨pv,s2,rfl,q1,hg,h2⟩;have bK:=hid hg;have aX:=hid (aI.o.step h2);clear q1 hg h2 bD m0 m1 m2 bG;have HM:=hid (Qcd aX.o.rd 58 58 rfl);obtain⟨m0,m1,m2⟩:=aX.o.cells;go_wp2_with fail;refine HM.o.mono ?_;rintro e w3⟨rfl,hm⟩;have aK:=hid (aX.o.step hm);clear hm HM m0 m1 m2;have HN:=hid (Qcg aK.o.rd lim40 (Ag _));obtain⟨m0,m1,m2⟩:=aK.o.cells;go_wp2_with fail;refine HN.o.mono ?_;rintro e w4⟨v,s4,rfl,q1,q2,hg,hm⟩;have aQ:=hid hg;have aE:=hid (aK.o.step hm);clear q1 q2 hg hm HN m0 m1 m2;have aR:Tryz.prog.built 54 [(0,.int .i64 1),(1,.int .i64 pv),(2,.int .i64 v)]=some #[.int .i64 1,.int .i64 pv,.int .i64 v]:=rfl;have aM:=hid (Qcm ⟨1,pv,v⟩ aE.o.tr aE.o.ow (by omega) aE.o.xs);obtain⟨m0,m1,m2⟩:=aE.o.cells;go_wp2_with fail;refine aM.o.mono ?_;rintro e w5⟨rfl,A5,c5,p1,p2,p3,p4⟩;have aP:=hid (aE.o.put aL.o p1 p2 p3);clear p1 p2 p3 p4 aM m0 m1 m2 aR;go_wp2_with fail
   first | go_end0 | refine Be (Cn rfl _ _ _) rfl ?_
   exact⟨rfl,[⟨1,pv,v⟩],s4,A5,n+1,c5,aF.o pv s2 v s4 bK.o aQ.o,aP.o⟩
  rw[if_neg aB];by_cases aD:c=105
  ·rw[if_pos aD,idl_eq];rw[aD] at aC;clear aB aD aN aH;have aF:Hd (∀ v s3,Got ((some r).bind (numZ lim40)) v s3->Got ((numZ lim40 r).bind fun n=>some ([(⟨2,0,n.1⟩:Nd)],n.2)) [⟨2,0,v⟩] s3):=hid fun v s3 g1=>Jq (g1.bind fun v s=>some ([(⟨2,0,v⟩:Nd)],s));generalize ((numZ lim40 r).bind fun n=>some ([(⟨2,0,n.1⟩:Nd)],n.2))=R at aF |-;go_in;obtain⟨m0,m1,m2⟩:=HS.o.cells;go_wp2_with fail;refine aC.o.mono ?_;rintro e w1⟨rfl,h1⟩;have aK:=hid (HS.o.step h1);clear h1 aC m0 m1 m2;have HN:=hid (Qcg aK.o.rd lim40 (Ag _));obtain⟨m0,m1,m2⟩:=aK.o.cells;go_wp2_with fail;refine HN.o.mono ?_;rintro e w4⟨v,s4,rfl,q1,q2,hg,hm⟩;have aQ:=hid hg;have aE:=hid (aK.o.step hm);clear q1 q2 hg hm HN m0 m1 m2;have aR:Tryz.prog.built 54 [(0,.int .i64 2),(2,.int .i64 v)]=some #[.int .i64 2,.int .i64 0,.int .i64 v]:=rfl;have aM:=hid (Qcm ⟨2,0,v⟩ aE.o.tr aE.o.ow (by omega) aE.o.xs);obtain⟨m0,m1,m2⟩:=aE.o.cells;go_wp2_with fail;refine aM.o.mono ?_;rintro e w5⟨rfl,A5,c5,p1,p2,p3,p4⟩;have aP:=hid (aE.o.put aL.o p1 p2 p3);clear p1 p2 p3 p4 aM m0 m1 m2 aR;go_wp2_with fail
   first | go_end0 | refine Be (Cn rfl _ _ _) rfl ?_
   exact⟨rfl,[⟨2,0,v⟩],s4,A5,n+1,c5,aF.o v s4 aQ.o,aP.o⟩
  rw[if_neg aD];by_cases aG:c=115
  ·rw[if_pos aG];rw[aG] at aC;clear aB aD aG aN;go_in;obtain⟨m0,m1,m2⟩:=HS.o.cells;go_wp2_with fail;refine aC.o.mono ?_;rintro e w1⟨rfl,h1⟩;have aI:=hid (HS.o.step h1);clear h1 aC m0 m1 m2;have HQ:=hid (aH.o (some r) out AO n co w1 aI.o hn aY.o);rw[bF.o.1] at HQ;obtain⟨m0,m1,m2⟩:=aI.o.cells;go_wp2_with fail;refine HQ.o.mono ?_;rintro e w2 hq;have bI:=hid hq;obtain⟨rfl,_⟩:=hq;clear m0 m1 m2;go_wp2_with fail
   first | go_end0 | refine Be (Cn rfl _ _ _) rfl ?_
   exact bI.o
  rw[if_neg aG];by_cases aJ:c=114
  ·rw[if_pos aJ,repS_eq];rw[aJ] at aC;clear aB aD aG aJ aH;have aF:Hd (∀ v s1 l s3,Got ((some r).bind (numZ lim40)) v s1->Got ((s1.bind (takeB 40)).bind (nodeS whose lv rm)) l s3->Got ((numZ lim40 r).bind fun v=>(takeB 40 v.2).bind fun s2=>(nodeS whose lv rm s2).bind fun x=>(takeB 41 x.2).bind fun s4=>some ((⟨4,0,v.1⟩:Nd)::x.1,s4)) (⟨4,0,v⟩::l) (s3.bind (takeB 41))):=hid fun v s1 l s3 g1 g2=>Jq (by
    have a1:=g1.bind fun v s=>(takeB 40 s).bind fun s2=>(nodeS whose lv rm s2).bind fun x=>(takeB 41 x.2).bind fun s4=>some ((⟨4,0,v⟩:Nd)::x.1,s4);have a2:=g2.bind fun l s=>(takeB 41 s).bind fun s4=>some ((⟨4,0,v⟩:Nd)::l,s4);exact a1.trans ((must_bind s1 40 fun s2=>(nodeS whose lv rm s2).bind fun x=>(takeB 41 x.2).bind fun s4=>some ((⟨4,0,v⟩:Nd)::x.1,s4)).trans (a2.trans (must_bind s3 41 fun s4=>some ((⟨4,0,v⟩:Nd)::l,s4)))))
   generalize ((numZ lim40 r).bind fun v=>(takeB 40 v.2).bind fun s2=>(nodeS whose lv rm s2).bind fun x=>(takeB 41 x.2).bind fun s4=>some ((⟨4,0,v.1⟩:Nd)::x.1,s4))=R at aF |-;go_in;obtain⟨m0,m1,m2⟩:=HS.o.cells;go_wp2_with fail;refine aC.o.mono ?_;rintro e w1⟨rfl,h1⟩;have aK:=hid (HS.o.step h1);clear h1 aC m0 m1 m2;have HN:=hid (Qcg aK.o.rd lim40 (Ag _));obtain⟨m0,m1,m2⟩:=aK.o.cells;go_wp2_with fail;refine HN.o.mono ?_;rintro e w4⟨v,s4,rfl,q1,q2,hg,hm⟩;have aQ:=hid hg;have aE:=hid (aK.o.step hm);clear q1 q2 hg hm HN m0 m1 m2;have aR:Tryz.prog.built 54 [(0,.int .i64 4),(2,.int .i64 v)]=some #[.int .i64 4,.int .i64 0,.int .i64 v]:=rfl;have aM:=hid (Qcm ⟨4,0,v⟩ aE.o.tr aE.o.ow (by omega) aE.o.xs);obtain⟨m0,m1,m2⟩:=aE.o.cells;go_wp2_with fail;refine aM.o.mono ?_;rintro e w5⟨rfl,A5,c5,p1,p2,p3,p4⟩;have aP:=hid (aE.o.put aL.o p1 p2 p3);clear p1 p2 p3 p4 aM m0 m1 m2 aR;have HM:=hid (Qcd aP.o.rd 40 40 rfl);obtain⟨m0,m1,m2⟩:=aP.o.cells;go_wp2_with fail;refine HM.o.mono ?_;rintro e w6⟨rfl,hm⟩;have bE:=hid (aP.o.step hm);clear hm HM m0 m1 m2;have bJ:Hd (((s4.bind (takeB 40)).getD []).length<=1048576):=hid (Ai (Qch s4 40) (Ai (got_le (fun _ _ h=>Ld h) aQ.o) aY.o));have HQ:=hid (aN.o _ _ _ _ _ _ bE.o bJ.o);rw[bF.o.2] at HQ;obtain⟨m0,m1,m2⟩:=bE.o.cells;go_wp2_with fail;refine HQ.o.mono ?_;rintro e w7⟨rfl,l7,s7,A7,n7,c7,aZ,h7⟩;have bL:=hid aZ;have aV:=hid h7;clear aZ h7 HQ m0 m1 m2;have HM:=hid (Qcd aV.o.rd 41 41 rfl);obtain⟨m0,m1,m2⟩:=aV.o.cells;go_wp2_with fail;refine HM.o.mono ?_;rintro e w8⟨rfl,hm⟩;have bH:=hid (aV.o.step hm);clear hm HM m0 m1 m2;go_wp2_with fail
   first | go_end0 | refine Be (Cn rfl _ _ _) rfl ?_
   exact⟨rfl,⟨4,0,v⟩::l7,_,A7,n7,c7,aF.o v s4 l7 s7 aQ.o bL.o,by have:=bH.o;rw[Ar] at this;exact this⟩
  rw[if_neg aJ];have HG:Hd (Got (none:Option (List Nd×List UInt8)) ([]:List Nd) none):=hid (Iu rfl);obtain⟨b,hb⟩:∃ b,b=c.toNat:=⟨_,rfl⟩;have k1:((b:Int) == 119)=false:=by rw[Ak,hb];intro e;exact aB (Cz.1 (by rw[show (119:UInt8).toNat=119 from rfl];omega))
  have k2:((b:Int) == 105)=false:=by rw[Ak,hb];intro e;exact aD (Cz.1 (by rw[show (105:UInt8).toNat=105 from rfl];omega))
  have k3:((b:Int) == 115)=false:=by rw[Ak,hb];intro e;exact aG (Cz.1 (by rw[show (115:UInt8).toNat=115 from rfl];omega))
  have k4:((b:Int) == 114)=false:=by rw[Ak,hb];intro e;exact aJ (Cz.1 (by rw[show (114:UInt8).toNat=114 from rfl];omega))
  rw[<- hb] at aC;clear aB aD aG aJ aN aH hb;go_in;obtain⟨m0,m1,m2⟩:=HS.o.cells;go_wp2_with fail;refine aC.o.mono ?_;rintro e w1⟨rfl,h1⟩;have aI:=hid (HS.o.step h1);clear h1 aC m0 m1 m2;have HF:=hid (En aI.o.rd);obtain⟨m0,m1,m2⟩:=aI.o.cells;go_wp2_with fail;refine HF.o.mono ?_;rintro e wf⟨rfl,hf⟩;have aO:=hid (aI.o.step hf);clear hf HF m0 m1 m2;go_wp2_with fail
  first | go_end0 | refine Be (Cn rfl _ _ _) rfl ?_
  exact⟨rfl,[],none,AO,n,co,HG.o,by rw[Az];exact aO.o⟩
def TbA(R:Option (List Nd))(w:World)(e:Ending)(w':World):Prop:=Below w.heap.size w w'/\match R with
 | some l=>∃ A c,e=.returned (.tuple #[.slice A l.length c,.bool true])/\OwnV 54 3 w' w.heap.size A l.length c (ns l)
 | none=>e=.returned (.tuple #[.slice none 0 0,.bool false])
theorem Nv(AN:Option Addr)(nn cn:Nat)(pl:Bool)(L:List (List UInt8))(s:List UInt8)(w:World)(h:RdB sc w w.heap.size AN nn L)(aC:nn<=140737488351232)(hs:s.length<=140737488351232):
  Calls Tryz.prog 68 #[.string (bsOf s),.slice AN nn cn,.bool pl] w (TbA (tableR (lookF pl L) s) w):=by
 have aG:Tryz.prog.built 150 [(0,.string (bsOf s)),(1,.slice AN nn cn),(4,.bool pl)]=some #[.string (bsOf s),.slice AN nn cn,.slice none 0 0,.bool false,.bool pl]:=by rfl
 have aB:=bl1 w (.cells #[.string (bsOf s),.slice AN nn cn,.slice none 0 0,.bool false,.bool pl] 150);have hR:Ex w.heap.size w.heap.size s AN nn cn none 0 0 false pl (w.alloc (.cells #[.string (bsOf s),.slice AN nn cn,.slice none 0 0,.bool false,.bool pl] 150)):=D7 w 150 5 w.heap.size #[.string (bsOf s),.slice AN nn cn,.slice none 0 0,.bool false,.bool pl] 1 rfl (Ag _) (by unfold maxLen;omega);have HC:=hid (X9 w.heap.size w.heap.size AN nn cn pl L aC 16 1 rfl s [] none 0 0 false _ hR (OwnV.nil _ _ _ _) rfl (fun _=>by omega) hs (RdB.belowT h aB));have HB:=hid aB;rw[if_neg (by decide)] at HC;have HT:Hd (∀ x,nodeR (lookF pl L) 16 128 s=x->tableR (lookF pl L) s=match x with | none=>none | some x=>if x.2=[] then some x.1 else none):=hid fun x hx=>by unfold tableR;rw[hx];cases x <;> rfl
 generalize tableR (lookF pl L) s=R at HT |-;clear h aC hs hR aB;go_in;go_wp2_with fail;refine HC.o.mono ?_;rintro e w1⟨rfl,aE,s1,l,f1,A1,n1,c1,aD,h1,o1,aA⟩;rw[Cw] at aD o1;have H1:=hid h1;have O1:=hid o1;have B1:=hid (HB.o.trans aE);obtain⟨⟨m0,m1,m2,m3,m4⟩,⟨f2,f3⟩,_,_⟩:=h1.cells;clear aG HC h1 o1 aE HB;rcases aA.cases with ⟨e0,e1⟩ | ⟨e0,e1⟩
 ·subst e1;have hr:R=none:=HT.o _ e0;have HR:=hid hr;clear aA e0 hr HT;go_wp2;go_ret2;exact⟨B1.o,by rw[HR.o];rfl⟩
 subst e1;have hr:R=if s1=[] then some l else none:=HT.o _ e0;have aF:=aD;subst aF;clear aA e0 HT;cases s1 with
 | nil =>
  have HR:Hd (R=some l):=hid hr;have i0:((bsOf []).toList == (⟨#[]⟩:ByteArray).toList)=true:=Et (Ae (show bsOf []=(⟨#[]⟩:ByteArray) from rfl));have i1:(bsOf []).toList.isEmpty=true:=by simpa using i0
  clear i0;clear hr;go_wp2;go_ret2;exact⟨B1.o,by rw[HR.o];exact⟨A1,c1,rfl,O1.o⟩⟩
 | cons c r =>
  have HR:Hd (R=none):=hid hr;have i0:((bsOf (c::r)).toList == (⟨#[]⟩:ByteArray).toList)=false:=Et (Ac fun e=>by have:=congrArg ByteArray.size e;cases this);have i1:(bsOf (c::r)).toList.isEmpty=false:=by simpa using i0
  clear hr i0;generalize bsOf (c::r)=sv at m0 i1;go_wp2;go_ret2;exact⟨B1.o,by rw[HR.o];rfl⟩
theorem Us(s:List UInt8)(w:World)(hs:s.length<=140737488351232):Calls Tryz.prog 39 #[.string (bsOf s)] w (TbA (tableR (lookF true []) s) w):=by
 have HC:=hid (Nv none 0 0 true [] s w ⟨rfl,RdV.nil⟩ (by omega) hs);generalize tableR (lookF true []) s=R at HC |-;go_in;go_wp2_with fail;refine HC.o.mono ?_;rintro e w1⟨hb,hr⟩;have HB:=hid hb;have HR:=hid hr;clear hb HC;cases R with
 | none =>
  have e2:e=.returned (.tuple #[.slice none 0 0,.bool false]):=hr;subst e2;clear hr HR;go_wp2;go_ret2;exact⟨HB.o,rfl⟩
 | some l =>
  obtain⟨A,c,e2,ho⟩:=hr;subst e2;have HO:=hid ho;clear ho HR;go_wp2;go_ret2;exact⟨HB.o,A,c,rfl,HO.o⟩
theorem Xj{B g bp:Nat}{st:Option (List UInt8)}{w:World}(h:Qce B g st w)(hc:w.cell? ⟨bp,0,none⟩=some (.pointer (some ⟨g,0,none⟩))):Calls Tryz.prog 48 #[.pointer (some ⟨bp,0,none⟩)] w (jz B g (st.bind numW) w):=by
 have HN:=hid (Qcg h lim40 (Ag _));clear h;go_in;go_wp2_with fail;refine HN.o.mono ?_;rintro e w1⟨v,s1,rfl,q1,q2,hg,h1⟩;have HG:=hid hg;have H1:=hid h1;have HV:Hd (Ef v):=hid ⟨by omega,by omega⟩;clear q1 q2 hg h1 HN hc;go_wp2;go_ret;exact⟨v,s1,rfl,HV.o,HG.o,H1.o⟩
def Qbd(Br gr:Nat)(R:Option (List Nd×List UInt8))(w:World)(e:Ending)(w':World):Prop:=∃(l:List Nd) (st':Option (List UInt8)) (A:Option Addr) (n c:Nat),e=.returned (.slice A n c)/\l.length=n/\n<=128/\OwnV 54 3 w' w.heap.size A n c (ns l)/\Got R l st'/\Rpo Br gr st' w w'
theorem Kx.rpo{X g B:Nat}{st:Option (List UInt8)}{w w':World}(h:Kx X g w w')(hX:X=w.heap.size)(hr:Qce B g st w'):Rpo B g st w w' :=
 ⟨hr,h.os,h.tape,h.output,h.size,fun i hi aA=>h.block i (by omega) fun e=>aA (by rw[e])⟩
theorem ttable_any{Br gr kf:Nat}{cap:Array Value}{w:World}{whose:List UInt8->Option (Int×List UInt8)}{st:Option (List UInt8)}(HW:ez w.heap.size Br gr w kf cap whose)(h:Qce Br gr st w)(hl:(st.getD []).length<=1048576):
  Calls Tryz.prog 47 #[.pointer (some ⟨gr,0,none⟩),.func (.func kf) #[] cap] w (Qbd Br gr (st.bind (tableS whose)) w):=by
 have hb:=bl1 w (.cells #[.pointer (some ⟨gr,0,none⟩),.func (.func kf) #[] cap,.slice none 0 0] 122);have hT:Zl w.heap.size w.heap.size gr (.func (.func kf) #[] cap) none 0 0 (w.alloc (.cells #[.pointer (some ⟨gr,0,none⟩),.func (.func kf) #[] cap,.slice none 0 0] 122)) :=
  D7 w 122 3 w.heap.size #[.pointer (some ⟨gr,0,none⟩),.func (.func kf) #[] cap,.slice none 0 0] 1 rfl (Ag _) (by unfold maxLen;omega)
 have aA:TS w.heap.size Br gr w.heap.size (.func (.func kf) #[] cap) w st [] none 0 0 (w.alloc (.cells #[.pointer (some ⟨gr,0,none⟩),.func (.func kf) #[] cap,.slice none 0 0] 122)) :=
  ⟨OwnV.below h rfl hb,hT,OwnV.nil _ _ _ _,rfl,by omega,Kx.bel hb,hb.size⟩
 have hN:=Xl (gt:=w.heap.size) HW 16 1 rfl st [] none 0 0 _ aA hl;have hR:st.bind (nodeS whose 16 (128 - 0))=st.bind (tableS whose):=rfl;rw[hR] at hN;have HN:=hid hN;generalize st.bind (tableS whose)=R at HN |-;have aB:Tryz.prog.built 122 [(0,.pointer (some ⟨gr,0,none⟩)),(1,.func (.func kf) #[] cap)]=some #[.pointer (some ⟨gr,0,none⟩),.func (.func kf) #[] cap,.slice none 0 0]:=rfl;clear hb hT aA hN hR h hl HW;go_in;go_wp2_with fail;refine HN.o.mono ?_;rintro e w1⟨rfl,l,st',A,n,c,hg,h1⟩;have HG:=hid hg;have H1:=hid h1;clear hg h1 HN aB;obtain⟨m0,m1,m2⟩:=H1.o.cells;go_wp2;go_ret;exact⟨l,st',A,n,c,rfl,by have:=H1.o.len;simpa using this,H1.o.le,by have:=H1.o.ow;simpa using this,HG.o,H1.o.kx.rpo rfl H1.o.rd⟩
def Qcl(s:List UInt8):Option (List Nd):=match tableS numW s with
 | some (l,[])=>some l
 | _=>none
theorem Kj(s:List UInt8)(w:World)(hs:s.length<=1048576):Calls Tryz.prog 19 #[.string (bsOf s)] w (TbA (Qcl s) w):=by
 have b1:=bl1 w (.cells #[.string (bsOf s),.bool false] 79);have o1:Qce w.heap.size w.heap.size (some s) (w.alloc (.cells #[.string (bsOf s),.bool false] 79)):=D7 w 79 2 w.heap.size #[.string (bsOf s),.bool false] 1 rfl (Ag _) (by unfold maxLen;omega);have hz:(w.alloc (.cells #[.string (bsOf s),.bool false] 79)).heap.size=w.heap.size+1:=by simp
 obtain⟨W1,aE⟩:∃ W1,W1=w.alloc (.cells #[.string (bsOf s),.bool false] 79):=⟨_,rfl⟩;rw[<- aE] at b1 o1 hz;have b2:=bl1 W1 (.cells #[.pointer (some ⟨w.heap.size,0,none⟩)] 77);have o2:Qce w.heap.size w.heap.size (some s) (W1.alloc (.cells #[.pointer (some ⟨w.heap.size,0,none⟩)] 77)):=OwnV.below o1 rfl b2;have c2:(W1.alloc (.cells #[.pointer (some ⟨w.heap.size,0,none⟩)] 77)).cell? ⟨W1.heap.size,0,none⟩=some (.pointer (some ⟨w.heap.size,0,none⟩)):=Ab _ _ _ _ _;have aC:Hd (w.heap.size+2=(W1.alloc (.cells #[.pointer (some ⟨w.heap.size,0,none⟩)] 77)).heap.size):=hid (by simp[hz]);have aB:Hd (Below w.heap.size w (W1.alloc (.cells #[.pointer (some ⟨w.heap.size,0,none⟩)] 77))):=hid (b1.trans (b2.mono b1.size));rw[hz] at c2;obtain⟨W2,aD⟩:∃ W2,W2=W1.alloc (.cells #[.pointer (some ⟨w.heap.size,0,none⟩)] 77):=⟨_,rfl⟩;rw[<- aD] at o2 c2 aC aB;have HW:ez W2.heap.size w.heap.size w.heap.size W2 48 #[.pointer (some ⟨w.heap.size+1,0,none⟩)] numW:=by
  refine⟨fun s p hp=>numW_le hp,fun args w=>by simp,fun st W hk hr hl=>Xj hr ?_⟩;have:=aC.o;rw[Er (hk.block (w.heap.size+1) (by omega) (by omega))];exact c2
 have HT:=hid (ttable_any HW o2 (by rw[Bq];exact hs));have hR:Hd (∀ l st',Got ((some s).bind (tableS numW)) l st'->(st'=some []->Qcl s=some l)/\(st'≠some []->Qcl s=none)):=hid fun l st' hg=>by
  obtain⟨e1,e2⟩:=hg;rw[As] at e1 e2;unfold Qcl;cases hx:tableS numW s with
  | none =>
   rw[hx] at e1;rw[e1];exact⟨fun e=>(by cases e),fun _=>rfl⟩
  | some x =>
   obtain⟨l',r⟩:=x;rw[hx] at e1 e2;have h3:=e2 _ rfl;rw[e1,h3];cases r with
   | nil=>exact⟨fun _=>rfl,fun e=>absurd rfl e⟩
   | cons c r=>exact⟨fun e=>(by injection e with e;cases e),fun _=>rfl⟩
 have aH:Tryz.prog.built 79 [(0,.string (bsOf s))]=some #[.string (bsOf s),.bool false]:=rfl;generalize (some s).bind (tableS numW)=R at HT hR;generalize Qcl s=D at hR |-;have C2:=hid c2;subst aD;subst aE;clear b1 o1 hz b2 o2 c2 HW;generalize bsOf s=sv at HT aC aB aH C2 |-;go_in;go_wp2_with fail;generalize (w.alloc (.cells #[.string sv,.bool false] 79)).alloc (.cells #[.pointer (some ⟨w.heap.size,0,none⟩)] 77)=W2 at HT aC aB C2 |-;refine HT.o.mono ?_;rintro e w1⟨l,st',A,n,c,rfl,hl,hn,ho,hg,h1⟩;have hq:=hR.o l st' hg;have c1:w1.cell? ⟨w.heap.size+1,0,none⟩=some (.pointer (some ⟨w.heap.size,0,none⟩)):=by
  have:=aC.o;rw[Er (h1.gb.block (w.heap.size+1) (by omega) (by intro e;injection e with e;omega))];exact C2.o
 have HO:=hid ho;have aF:=hid hl;have aG:Hd (Below w.heap.size w w1):=hid (aB.o.trans (Fq h1.gb (Ag _) aB.o.size));have HD:=hid (Pw h1.rd);have aI:=hid aB.o.size;clear hg h1 ho hl HT hR C2;by_cases aA:st'=some []
 ·have HQ:=hid (hq.1 aA);rw[Ae aA] at HD;clear hq aA;go_wp2_with fail;refine HD.o.mono ?_;rintro e w2⟨rfl,rfl⟩;go_wp2;go_ret2;rw[HQ.o];refine⟨aG.o,A,c,by rw[aF.o];rfl,?_⟩;have:=HO.o;rw[aF.o];exact OwnV.weak this aI.o
 have HQ:=hid (hq.2 aA);rw[Ac aA] at HD;clear hq aA;go_wp2_with fail;refine HD.o.mono ?_;rintro e w2⟨rfl,rfl⟩;go_wp2;go_ret2;rw[HQ.o];exact⟨aG.o,rfl⟩
