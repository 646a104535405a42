import Derived.Test.YtfmndmhjjbeokaaGreatDoorLow25
set_option maxHeartbeats 2000000
set_option maxRecDepth 100000
set_option linter.unusedSimpArgs false
set_option linter.unusedVariables false
namespace Go.Proofs.YtfmndmhjjbeokaaGreatDoor
open Go.RowKit Tab Txt
namespace Txt
theorem numL_le(m:Nat):∀(s:List UInt8) (n:Nat) (x:Nat×List UInt8),numL m n s=some x->x.2.length<=s.length
 | [],n,x,h=>by
  unfold numL at h
  split at h
  ·cases h
  ·injection h with h;rw[<- h];exact Ag _
 | c::s,n,x,h=>by
  rw[numL_cons] at h
  split at h
  ·split at h
   ·cases h
   ·have:=numL_le m s _ x h
    rw[Ad]
    omega
  ·split at h
   ·cases h
   ·injection h with h;rw[<- h];exact Ag _
theorem numW_le{s:List UInt8}{x:Int×List UInt8}(h:numW s=some x):x.2.length<=s.length:=by
 unfold numW at h;cases e:numS lim40 s with
 | none=>rw[e] at h;cases h
 | some y =>
  rw[e] at h;injection h with h;rw[<- h];show y.2.length<=_;unfold numS at e;split at e
  ·cases e
  split at e
  ·injection e with e;rw[<- e];simp
  exact numL_le _ _ _ _ e
theorem procS_le{s:List UInt8}{x:(Int×Int)×List UInt8}(h:procS s=some x):x.2.length<=s.length:=by
 unfold procS at h;cases e1:numW s with
 | none=>rw[e1] at h;cases h
 | some a =>
  rw[e1,As] at h;cases e2:takeB 58 a.2 with
  | none=>rw[e2] at h;cases h
  | some r =>
   rw[e2,As] at h;cases e3:numW r with
   | none=>rw[e3] at h;cases h
   | some q =>
    rw[e3,As] at h;injection h with h;rw[<- h];have h1:=numW_le e1;have h2:=congrArg List.length (takeB_some e2);have h3:=numW_le e3;rw[Ad] at h2;show q.2.length<=_;omega
theorem procsS_fuel:∀(k k':Nat) (s:List UInt8),s.length < k->s.length < k'->procsS k s=procsS k' s
 | 0,_,_,h,_=>by omega
 | _,0,_,_,h=>by omega
 | k+1,k'+1,s,h,h'=>by
  rw[procsS_succ,procsS_succ]
  cases e:procS s with
  | none=>rfl
  | some x =>
   dsimp only
   cases e2:takeB 44 x.2 with
   | none=>rfl
   | some r =>
    dsimp only
    have h1:=procS_le e
    have h2:=congrArg List.length (takeB_some e2)
    rw[Ad] at h2
    rw[procsS_fuel k k' r (by omega) (by omega)]
def procsI(R:Option (List (Int×Int)×List UInt8))(L:List (Int×Int))(st:Option (List UInt8)):Prop:=R=st.bind fun s=>(procsS (s.length+1) s).map fun y=>(L++y.1,y.2)
theorem procsI_next{R:Option (List (Int×Int)×List UInt8)}{L:List (Int×Int)}{st st3:Option (List UInt8)}{q:Int×Int}(h:procsI R L st)(hp:st.bind procS=st3.bind fun s=>some (q,s)):
  (∀ r,st3.bind (takeB 44)=some r->procsI R (L++[q]) (some r))/\(st3.bind (takeB 44)=none->R=st3.bind fun s=>some (L++[q],s)):=by
 unfold procsI at h |-;cases st with
 | none =>
  cases st3 with
  | none=>exact⟨fun r hr=>(by cases hr),fun _=>h⟩
  | some s=>cases hp
 | some s =>
  rw[As] at h hp;rw[procsS_succ] at h;cases st3 with
  | none =>
   rw[hp] at h;exact⟨fun r hr=>(by cases hr),fun _=>h⟩
  | some s3 =>
   rw[As] at hp;have aA:=procS_le hp;rw[hp] at h;dsimp only at h aA;refine⟨fun r hr=>?_,fun hr=>?_⟩
   ·rw[As] at hr |-;have h2:=congrArg List.length (takeB_some hr);rw[Ad] at h2;rw[hr] at h;dsimp only at h;rw[h,procsS_fuel s.length (r.length+1) r (by omega) (by omega)];cases procsS (r.length+1) r with
    | none=>rfl
    | some y=>show some (L++q::y.1,y.2)=some ((L++[q])++y.1,y.2);rw[Ar];rfl
   rw[As] at hr |-;rw[hr] at h;exact h
end Txt
def Qas(B g:Nat)(R:Option ((Bool×Bool)×List UInt8))(w:World)(e:Ending)(w':World):Prop:=∃(v:Bool×Bool) (st':Option (List UInt8)),e=.returned (.tuple #[.bool v.1,.bool v.2])/\Got R v st'/\Rpo B g st' w w'
theorem J6{α:Type}{R:Option (α×List UInt8)}{v:α}{r:List UInt8}(h:R=some (v,r)):Got R v (some r):=⟨by rw[h];rfl,fun x hx=>by rw[h] at hx;injection hx with hx;rw[<- hx]⟩
theorem Iu{α:Type}{R:Option (α×List UInt8)}{v:α}(h:R=none):Got R v none:=⟨by rw[h];rfl,fun x hx=>by rw[h] at hx;cases hx⟩
theorem Qct{B g:Nat}{st:Option (List UInt8)}{w:World}(h:Qce B g st w):Calls Tryz.prog 110 #[.pointer (some ⟨g,0,none⟩)] w (Qas B g (st.bind flagS) w):=by
 have hR:∀ s,st=some s->st.bind flagS=flagS s:=fun s e=>by rw[e];rfl
 cases aC:st.bind (takeB 45) with
 | some r =>
  have HG:Hd (Got (st.bind flagS) (false,false) (some r)):=hid (by
   cases st with
   | none=>cases aC
   | some s=>exact J6 (by show flagS s=_;unfold flagS;rw[show takeB 45 s=some r from aC]))
  have HT:=hid (Fc h 45 45 rfl aC);generalize st.bind flagS=R at HG |-;clear h aC hR;go_in;go_wp2_with fail;refine HT.o.mono ?_;rintro e w1⟨rfl,h1⟩;have H1:=hid h1;clear h1;go_wp2;go_ret2;exact⟨(false,false),_,rfl,HG.o,H1.o⟩
 | none =>
  have HT:=hid (Fj h 45 45 rfl aC);cases aB:st.bind (takeB 115) with
  | some r =>
   cases aA:(some r).bind (takeB 116) with
   | some q =>
    have HG:Hd (Got (st.bind flagS) (true,true) (some q)):=hid (by
     cases st with
     | none=>cases aB
     | some s=>exact J6 (by show flagS s=_;unfold flagS;rw[show takeB 45 s=none from aC,show takeB 115 s=some r from aB];dsimp only;rw[show takeB 116 r=some q from aA]))
    generalize st.bind flagS=R at HG |-;have HS:=hid fun W (hh:Qce B g st W)=>Fc hh 115 115 rfl aB;have HQ:=hid fun W (hh:Qce B g (some r) W)=>Fc hh 116 116 rfl aA;clear h aC aB aA hR;go_in;go_wp2_with fail;refine HT.o.mono ?_;rintro e w1⟨rfl,h1⟩;have H1:=hid h1;clear h1;go_wp2_with fail;refine(HS.o w1 H1.o.rd).mono ?_;rintro e w2⟨rfl,h2⟩;have H2:=hid (H1.o.trans h2);clear h2;go_wp2_with fail;refine(HQ.o w2 H2.o.rd).mono ?_;rintro e w3⟨rfl,h3⟩;have H3:=hid (H2.o.trans h3);clear h3;go_wp2;go_ret2;exact⟨(true,true),_,rfl,HG.o,H3.o⟩
   | none =>
    have HG:Hd (Got (st.bind flagS) (true,false) (some r)):=hid (by
     cases st with
     | none=>cases aB
     | some s=>exact J6 (by show flagS s=_;unfold flagS;rw[show takeB 45 s=none from aC,show takeB 115 s=some r from aB];dsimp only;rw[show takeB 116 r=none from aA]))
    generalize st.bind flagS=R at HG |-;have HS:=hid fun W (hh:Qce B g st W)=>Fc hh 115 115 rfl aB;have HQ:=hid fun W (hh:Qce B g (some r) W)=>Fj hh 116 116 rfl aA;clear h aC aB aA hR;go_in;go_wp2_with fail;refine HT.o.mono ?_;rintro e w1⟨rfl,h1⟩;have H1:=hid h1;clear h1;go_wp2_with fail;refine(HS.o w1 H1.o.rd).mono ?_;rintro e w2⟨rfl,h2⟩;have H2:=hid (H1.o.trans h2);clear h2;go_wp2_with fail;refine(HQ.o w2 H2.o.rd).mono ?_;rintro e w3⟨rfl,h3⟩;have H3:=hid (H2.o.trans h3);clear h3;go_wp2;go_ret2;exact⟨(true,false),_,rfl,HG.o,H3.o⟩
  | none =>
   cases aA:st.bind (takeB 116) with
   | some q =>
    have HG:Hd (Got (st.bind flagS) (false,true) (some q)):=hid (by
     cases st with
     | none=>cases aA
     | some s=>exact J6 (by show flagS s=_;unfold flagS;rw[show takeB 45 s=none from aC,show takeB 115 s=none from aB];dsimp only;rw[show takeB 116 s=some q from aA];rfl))
    generalize st.bind flagS=R at HG |-;have HS:=hid fun W (hh:Qce B g st W)=>Fj hh 115 115 rfl aB;have HQ:=hid fun W (hh:Qce B g st W)=>Fc hh 116 116 rfl aA;clear h aC aB aA hR;go_in;go_wp2_with fail;refine HT.o.mono ?_;rintro e w1⟨rfl,h1⟩;have H1:=hid h1;clear h1;go_wp2_with fail;refine(HS.o w1 H1.o.rd).mono ?_;rintro e w2⟨rfl,h2⟩;have H2:=hid (H1.o.trans h2);clear h2;go_wp2_with fail;refine(HQ.o w2 H2.o.rd).mono ?_;rintro e w3⟨rfl,h3⟩;have H3:=hid (H2.o.trans h3);clear h3;go_wp2;go_ret2;exact⟨(false,true),_,rfl,HG.o,H3.o⟩
   | none =>
    have HG:Hd (Got (st.bind flagS) (false,false) none):=hid (by
     cases st with
     | none=>exact Iu rfl
     | some s=>exact Iu (by show flagS s=_;unfold flagS;rw[show takeB 45 s=none from aC,show takeB 115 s=none from aB];dsimp only;rw[show takeB 116 s=none from aA];rfl))
    generalize st.bind flagS=R at HG |-;have HS:=hid fun W (hh:Qce B g st W)=>Fj hh 115 115 rfl aB;have HQ:=hid fun W (hh:Qce B g st W)=>Fj hh 116 116 rfl aA;clear h aC aB aA hR;go_in;go_wp2_with fail;refine HT.o.mono ?_;rintro e w1⟨rfl,h1⟩;have H1:=hid h1;clear h1;go_wp2_with fail;refine(HS.o w1 H1.o.rd).mono ?_;rintro e w2⟨rfl,h2⟩;have H2:=hid (H1.o.trans h2);clear h2;go_wp2_with fail;refine(HQ.o w2 H2.o.rd).mono ?_;rintro e w3⟨rfl,h3⟩;have H3:=hid (H2.o.trans h3);clear h3;have HF:=hid (En H3.o.rd);go_wp2_with fail;refine HF.o.mono ?_;rintro e w4⟨rfl,h4⟩;have H4:=hid (H3.o.trans h4);clear h4;go_wp2;go_ret2;exact⟨(false,false),_,rfl,HG.o,H4.o⟩
def Qap(B g:Nat)(R:Option ((Bool×Int)×List UInt8))(w:World)(e:Ending)(w':World):Prop:=∃(v:Bool×Int) (st':Option (List UInt8)),e=.returned (.tuple #[.bool v.1,.int .i64 v.2])/\Ef v.2/\Got R v st'/\Rpo B g st' w w'
theorem Qcy{B g:Nat}{st:Option (List UInt8)}{w:World}(h:Qce B g st w):Calls Tryz.prog 113 #[.pointer (some ⟨g,0,none⟩)] w (Qap B g (st.bind kindS) w):=by
 cases h1:st.bind (takeB 113) with
 | some r =>
  have HG:Hd (∀ v st',Got ((some r).bind (numZ lim40)) v st'->Got (st.bind kindS) (true,v) st'):=hid fun v st' hg=>by
   cases st with
   | none=>cases h1
   | some s =>
    have e:(some s).bind kindS=(numZ lim40 r).map fun x=>((true,x.1),x.2):=by show kindS s=_;unfold kindS;rw[show takeB 113 s=some r from h1];rfl
    rw[e];cases hq:numZ lim40 r with
    | none=>exact⟨by have:=hg.1;rw[show (some r).bind (numZ lim40)=none from hq] at this;rw[this];rfl,fun x hx=>by cases hx⟩
    | some y =>
     have h3:=hg.1;have h4:=hg.2;rw[show (some r).bind (numZ lim40)=some y from hq] at h3 h4;exact⟨h3,fun x hx=>by injection hx with hx;rw[<- hx];show (true,v)=(true,y.1);rw[h4 y rfl]⟩
  have HT:=hid (Fc h 113 113 rfl h1);generalize st.bind kindS=R at HG |-;clear h h1;go_in;go_wp2_with fail;refine HT.o.mono ?_;rintro e w1⟨rfl,h1⟩;have H1:=hid h1;have HN:=hid (Qcg h1.rd lim40 (Ag _));clear h1 HT;go_wp2_with fail;refine HN.o.mono ?_;rintro e w2⟨v,st2,rfl,aB,aA,hg,h2⟩;have H2:=hid (H1.o.trans h2);have aC:=hid (HG.o v st2 hg);have HV:Hd (Ef v):=hid ⟨by omega,by omega⟩;have hw:IntKind.i64.wrap v=v:=by rw[Cm];omega
  clear h2 hg aB aA HN HG;go_wp2;go_ret2;exact⟨(true,v),st2,rfl,HV.o,aC.o,H2.o⟩
 | none =>
  have HG:Hd (Got (st.bind kindS) (false,0) (st.bind (takeB 115))):=hid (by
   cases st with
   | none=>exact Iu rfl
   | some s =>
    have e:(some s).bind kindS=(takeB 115 s).map fun r=>((false,(0:Int)),r):=by show kindS s=_;unfold kindS;rw[show takeB 113 s=none from h1]
    rw[e,As];cases takeB 115 s with
    | none=>exact Iu rfl
    | some r=>exact J6 rfl)
  have HT:=hid (Fj h 113 113 rfl h1);generalize st.bind kindS=R at HG |-;clear h h1;go_in;go_wp2_with fail;refine HT.o.mono ?_;rintro e w1⟨rfl,h1⟩;have H1:=hid h1;have HM:=hid (Qcd h1.rd 115 115 rfl);clear h1 HT;go_wp2_with fail;refine HM.o.mono ?_;rintro e w2⟨rfl,h2⟩;have H2:=hid (H1.o.trans h2);clear h2 HM;go_wp2;go_ret2;exact⟨(false,0),_,rfl,⟨by decide,by decide⟩,HG.o,H2.o⟩
theorem OwnV.grown{E E' s s' B B' n c:Nat}{A A0 A':Option Addr}{l l0:List Value}{n0 c0:Nat}{w w':World}(h:OwnV E s w B A n c l)(h0:OwnV E' s' w B' A0 n0 c0 l0)(hE:E≠E')(hg:Grew A0 A' w w'):OwnV E s w' B A n c l :=
 h.keep' fun k hk=>hg.keep (h.obk_ge hk).2 fun e=>h.apart h0 hE k hk e
structure ApW(B g:Nat)(AN:Option Addr)(nn cn:Nat)(pl:Bool)(s s':List UInt8)(f':Bool)(out:List Nd)(AO:Option Addr)(n co:Nat)(nd:Nd)(W0:World)(kc kb ka ks tb ta:Nat)(live:Nat->Bool)(a:Act)(w:World):Prop where
 bel:Below B W0 w
 siz:B<=w.heap.size
 r0:live kc=false->Ex B g s AN nn cn AO n co false pl w
 r1:live kc=true->live ks=false->Ex B g s' AN nn cn AO n co f' pl w
 o:live ka=false->OwnV 54 3 w B AO n co (ns out)
 b:live kb=true->live ka=false->∃ gb,a.eval (.tmp tb)=.slice (some ⟨gb,0,none⟩) 1 1/\RdV w w.heap.size (some ⟨gb,0,none⟩) (ns [nd])
 ap:live ka=true->live ks=false->∃ A' c',a.eval (.tmp ta)=.slice A' (n+1:Nat) c'/\OwnV 54 3 w B A' (n+1) c' (ns (out++[nd]))
 fin:live ks=true->∃ A' c',Ex B g s' AN nn cn A' (n+1) c' f' pl w/\OwnV 54 3 w B A' (n+1) c' (ns (out++[nd]))
section
variable {B g:Nat} {AN:Option Addr} {nn cn:Nat} {pl:Bool} {s s':List UInt8} {f':Bool} {out:List Nd} {AO:Option Addr} {n co:Nat} {nd:Nd} {W0:World} {kc kb ka ks tb ta:Nat} {live:Nat->Bool} {a:Act} {w w':World}
theorem ApW.upd(h:ApW B g AN nn cn pl s s' f' out AO n co nd W0 kc kb ka ks tb ta live a w)(i:Nat)(d:Tmp)(v:Value)(hi:i≠kc/\i≠kb/\i≠ka/\i≠ks:=by decide)(hd:d≠tb/\d≠ta:=by decide):ApW B g AN nn cn pl s s' f' out AO n co nd W0 kc kb ka ks tb ta (Rgs.upd live i) (a.put (some d) v) w:=by
 have e:∀ k,i≠k->Rgs.upd live i k=live k:=fun k hk=>by unfold Rgs.upd;simp[Ne.symm hk]
 have e1:=e kc hi.1;have e2:=e kb hi.2.1;have e3:=e ka hi.2.2.1;have e4:=e ks hi.2.2.2;exact⟨h.bel,h.siz,by rw[e1];exact h.r0,by rw[e1,e4];exact h.r1,by rw[e3];exact h.o,by rw[e2,e3,Reg.eval_other _ _ _ _ hd.1];exact h.b,by rw[e3,e4,Reg.eval_other _ _ _ _ hd.2];exact h.ap,by rw[e4];exact h.fin⟩
theorem ApW.up(h:ApW B g AN nn cn pl s s' f' out AO n co nd W0 kc kb ka ks tb ta live a w){i:Nat}{d:Tmp}{v:Value}(hi:i≠kc/\i≠kb/\i≠ka/\i≠ks:=by decide)(hd:d≠tb/\d≠ta:=by decide):ApW B g AN nn cn pl s s' f' out AO n co nd W0 kc kb ka ks tb ta (Rgs.upd live i) (a.put (some d) v) w:=h.upd i d v hi hd
theorem ApW.cell2(h:ApW B g AN nn cn pl s s' f' out AO n co nd W0 kc kb ka ks tb ta live a w)(hs:live ks=false):w.cell? ⟨g,2,none⟩=some (.slice AO n co)/\w.frozen? ⟨g,2,none⟩=false:=by
 cases e:live kc with
 | false =>
  have:=(h.r0 e).cells;exact⟨this.1.2.2.1,this.2.1.1⟩
 | true =>
  have:=(h.r1 e hs).cells;exact⟨this.1.2.2.1,this.2.1.1⟩
theorem ApW.call(h:ApW B g AN nn cn pl s s' f' out AO n co nd W0 kc kb ka ks tb ta live a w)(hb:live kb=false)(ha:live ka=false)(hs:live ks=false)(hd:kc≠kb/\kc≠ka/\kc≠ks)(hg:B<=g)(hr:Ex B g s' AN nn cn AO n co f' pl w')(ht:Trn g w w')(d:Tmp)(v:Value):
  ApW B g AN nn cn pl s s' f' out AO n co nd W0 kc kb ka ks tb ta (Rgs.upd live kc) (a.put (some d) v) w':=by
 have e:∀ k,kc≠k->Rgs.upd live kc k=live k:=fun k hk=>by unfold Rgs.upd;simp[Ne.symm hk]
 have e2:=e kb hd.1;have e3:=e ka hd.2.1;have e4:=e ks hd.2.2;refine⟨h.bel.trans (ht.bel B hg),Ai h.siz (ht.bel B hg).size,fun e=>absurd e (by rw[Rgs.upd_self];decide),fun _ _=>hr,fun _=>ht.own _ _ _ _ _ _ _ (by decide) (h.o ha),fun e=>?_,fun e=>?_,fun e=>?_⟩
 ·rw[e2,hb] at e;cases e
 ·rw[e3,ha] at e;cases e
 rw[e4,hs] at e;cases e
theorem ApW.lit(h:ApW B g AN nn cn pl s s' f' out AO n co nd W0 kc kb ka ks tb ta live a w)(hc:live kc=true)(ha:live ka=false)(hs:live ks=false)(hd:kb≠kc/\kb≠ka/\kb≠ks)(C:Array Value)(hC:C.toList=ns [nd])(hz:tb < a.tmps.size):
  ApW B g AN nn cn pl s s' f' out AO n co nd W0 kc kb ka ks tb ta (Rgs.upd live kb) (a.put (some tb) (.slice (some ⟨w.heap.size,0,none⟩) 1 1)) (w.alloc (.cells C 54)):=by
 have e:∀ k,kb≠k->Rgs.upd live kb k=live k:=fun k hk=>by unfold Rgs.upd;simp[Ne.symm hk]
 have e1:=e kc hd.1;have e3:=e ka hd.2.1;have e4:=e ks hd.2.2;have aA:=bl1 w (.cells C 54);refine⟨h.bel.trans (aA.mono h.siz),Ai h.siz aA.size,fun e=>?_,fun _ _=>OwnV.below (h.r1 hc hs) rfl aA,fun _=>(h.o ha).below rfl aA,fun _ _=>⟨_,Reg.eval_same _ _ _ hz,rdV_new w C _ _ hC⟩,fun e=>?_,fun e=>?_⟩
 ·rw[e1,hc] at e;cases e
 ·rw[e3,ha] at e;cases e
 rw[e4,hs] at e;cases e
theorem ApW.app(h:ApW B g AN nn cn pl s s' f' out AO n co nd W0 kc kb ka ks tb ta live a w)(hc:live kc=true)(hb:live kb=true)(ha:live ka=false)(hs:live ks=false)(hd:ka≠kc/\ka≠kb/\ka≠ks)(hz:ta < a.tmps.size)(hn:n<=1048576):
  ∃ gb,a.eval (.tmp tb)=.slice (some ⟨gb,0,none⟩) 1 1/\∃ A' c' w',(Builtin.append_ #[34,34] 34 #[.slice AO n co,.slice (some ⟨gb,0,none⟩) 1 1]).run Tryz.prog w=.ok (.slice A' (n+1) c') w'/\
   ApW B g AN nn cn pl s s' f' out AO n co nd W0 kc kb ka ks tb ta (Rgs.upd live ka) (a.put (some ta) (.slice A' (n+1:Nat) c')) w':=by
 have e:∀ k,ka≠k->Rgs.upd live ka k=live k:=fun k hk=>by unfold Rgs.upd;simp[Ne.symm hk]
 have e1:=e kc hd.1;have e2:=e kb hd.2.1;have e4:=e ks hd.2.2;obtain⟨gb,hq,hp⟩:=h.b hb ha;have ho:=h.o ha;obtain⟨A',c',w',aA,h1,h2,h3⟩:=Gn elN w B AO n co (ns out) ho ⟨gb,0,none⟩ 1 1 (ns [nd]) w.heap.size hp rfl Cv (Je _) (by omega) (by unfold maxLen;omega) h.siz;rw[<- H9] at h1;refine⟨gb,hq,A',c',w',aA,h.bel.trans h2,Ai h.siz h2.size,fun e=>?_,fun _ _=>OwnV.grown (h.r1 hc hs) ho (by decide) h3,fun e=>absurd e (by rw[Rgs.upd_self];decide),fun _ e=>absurd e (by rw[Rgs.upd_self];decide),fun _ _=>⟨A',c',Reg.eval_same _ _ _ hz,h1⟩,fun e=>?_⟩
 ·rw[e1,hc] at e;cases e
 rw[e4,hs] at e;cases e
theorem ApW.put(h:ApW B g AN nn cn pl s s' f' out AO n co nd W0 kc kb ka ks tb ta live a w)(hc:live kc=true)(ha:live ka=true)(hs:live ks=false)(hd:ks≠kc/\ks≠ka)(hg:B<=g):
  ∃ A' c',a.eval (.tmp ta)=.slice A' (n+1:Nat) c'/\ApW B g AN nn cn pl s s' f' out AO n co nd W0 kc kb ka ks tb ta (Rgs.upd live ks) a (w.setCell ⟨g,2,none⟩ (.slice A' (n+1:Nat) c')):=by
 have e:∀ k,ks≠k->Rgs.upd live ks k=live k:=fun k hk=>by unfold Rgs.upd;simp[Ne.symm hk]
 have e1:=e kc hd.1;have e3:=e ka hd.2;obtain⟨A',c',hq,ho⟩:=h.ap ha hs;have hr:=h.r1 hc hs;refine⟨A',c',hq,h.bel.setCell (p:=⟨g,2,none⟩) hg _,by simpa using h.siz,fun e=>?_,fun _ e=>absurd e (by rw[Rgs.upd_self];decide),fun e=>?_,fun _ e=>?_,fun _ e=>absurd e (by rw[Rgs.upd_self];decide),fun _=>⟨A',c',hr.rows A' (n+1) c',OwnV.other ho _ _ (OwnV.apart' ho hr (by decide))⟩⟩
 ·rw[e1,hc] at e;cases e
 ·rw[e3,ha] at e;cases e
 rw[e3,ha] at e;cases e
end
theorem N4{w w2 w3:World}{g:Nat}(h:w.grownBy w2 (some g))(k:Below w.heap.size w2 w3):w.grownBy w3 (some g) :=
 ⟨k.os.trans h.os,k.tape.trans h.tape,k.output.trans h.output,Ai h.size k.size,fun i hi aA=>(k.block i hi).trans (h.block i hi aA)⟩
theorem Ee{E s B B' n c g:Nat}{A:Option Addr}{l:List Value}{st:Option (List UInt8)}{w:World}(h:OwnV E s w B A n c l)(hr:Qce B' g st w)(hE:E≠79):obk A≠some g:=fun e=>OwnV.apart h hr hE g e rfl
def Qal(B g:Nat)(R:Option (List (Int×Int)×List UInt8))(w:World)(e:Ending)(w':World):Prop:=∃(L:List (Int×Int)) (st':Option (List UInt8)) (A:Option Addr) (n c:Nat),e=.returned (.slice A n c)/\L.length=n/\n<=1048577/\OwnV 62 2 w' w.heap.size A n c (L.flatMap prc)/\Got R L st'/\Rpo B g st' w w'
theorem aw(st:Option (List UInt8)):procsI (st.bind procsA) [] st:=by
 unfold procsI procsA;cases st with
 | none=>rfl
 | some s =>
  show procsS (s.length+1) s=(procsS (s.length+1) s).map fun y=>([]++y.1,y.2);cases procsS (s.length+1) s with
  | none=>rfl
  | some y=>rfl
theorem Sh{st aA st3:Option (List UInt8)}{v1 v2:Int}(h1:Got (st.bind numW) v1 aA)(h2:Got ((aA.bind (takeB 58)).bind numW) v2 st3):st.bind procS=st3.bind fun s=>some ((v1,v2),s):=by
 have e1:=h1.bind fun v s=>(takeB 58 s).bind fun r=>(numW r).bind fun q=>some ((v,q.1),q.2);have e2:=h2.bind fun v s=>some ((v1,v),s);show (st.bind fun s=>(numW s).bind fun e=>(takeB 58 e.2).bind fun r=>(numW r).bind fun q=>some ((e.1,q.1),q.2))=_;rw[e1,must_bind aA 58 fun r=>(numW r).bind fun q=>some ((v1,q.1),q.2),e2]
def mrB(v:Value)(k:Nat):Nat:=match v with
 | .bool true=>k+1
 | _=>0
theorem Tw{B g:Nat}{st:Option (List UInt8)}{w:World}(h:Qce B g st w)(hl:(st.getD []).length<=1048576):Calls Tryz.prog 112 #[.pointer (some ⟨g,0,none⟩)] w (Qal B g (st.bind procsA) w):=by
 have HI:=hid (aw st);have H0:=hid (Rpo.refl h);have HL:=hid hl;generalize st.bind procsA=R at HI |-;clear h hl;go_in;go_wp2;go_loopw [3,4,5] (fun o m _ wr=>∃(A:Option Addr) (n c:Nat) (L:List (Int×Int)) (sn:Option (List UInt8)) (b:Bool),o=.slice A n c/\m=.bool b/\L.length=n/\OwnV 62 2 wr w.heap.size A n c (L.flatMap prc)/\Rpo B g sn w wr/\
  (b=true->procsI R L sn/\n+(sn.getD []).length<=1048576)/\(b=false->(R=sn.bind fun s=>some (L,s))/\n<=1048577)) (fun _ m _ wr=>mrB m (Ve wr g))
 case atStart=>exact⟨none,0,0,[],st,true,rfl,rfl,rfl,OwnV.nil _ _ _ _,H0.o,fun _=>⟨HI.o,by have:=HL.o;omega⟩,fun e=>(by cases e)⟩
 obtain⟨A,n,c,L,sn,b,rfl,rfl,hL,ho,hr,aA,aJ⟩:=hrel;have bC:=hid hL;have HO:=hid ho;have HR:=hid hr;cases b with
 | false =>
  obtain⟨e1,e2⟩:=aJ rfl;have HG:Hd (Got R L sn):=hid (by rw[e1];exact Got.end_ L sn);have HN:=hid e2;clear e1 e2 aJ aA hL ho hr H0 HI;go_wp2;go_ret;exact⟨L,sn,A,n,c,rfl,bC.o,HN.o,HO.o,HG.o,HR.o⟩
 | true =>
  obtain⟨hi,hn⟩:=aA rfl;have bK:=hid hi;have aZ:=hid hn;have bJ:=hid (Gy hr.rd);have bB:=hid (Qcg hr.rd lim40 (Ag _));have bO:n<=1048576:=by omega
  clear hi hn aJ aA hL ho hr H0 HI;go_wp2_with fail;refine bB.o.mono ?_;rintro e w1⟨v1,bL,rfl,aI,aH,aX,h1⟩;have bF:=hid aX;have H1:=hid (HR.o.trans h1);have aM:=hid (OwnV.gbo HO.o h1.gb (Ee HO.o HR.o.rd (by decide)));have bN:IntKind.i64.wrap v1=v1:=by rw[Cm];omega
  have HM:=hid (Qcd h1.rd 58 58 rfl);clear aX h1 bB aI aH HO HR;go_wp2_with fail;refine HM.o.mono ?_;rintro e w2⟨rfl,h2⟩;have H2:=hid (H1.o.trans h2);have aL:=hid (OwnV.gbo aM.o h2.gb (Ee aM.o H1.o.rd (by decide)));have bA:=hid (Qcg h2.rd lim40 (Ag _));clear h2 HM aM H1;have aF:∀ x:Int,Tryz.prog.built 62 [(0,.int .i64 v1),(1,.int .i64 x)]=some #[.int .i64 v1,.int .i64 x]:=fun x=>rfl;have bH:=hid aF;clear aF;go_wp2_with fail;refine bA.o.mono ?_;rintro e w3⟨v2,st3,rfl,aI,aH,aV,h3⟩;have HP:Hd (sn.bind procS=st3.bind fun s=>some ((v1,v2),s)):=hid (Sh bF.o aV);have aC:=H2.o.trans h3;have H3:=hid aC;have aT:=OwnV.gbo aL.o h3.gb (Ee aL.o H2.o.rd (by decide));have bM:IntKind.i64.wrap v2=v2:=by rw[Cm];omega
  have bP:=bH.o v2;have aE:=bl1 w3 (.cells #[.int .i64 v1,.int .i64 v2] 62);have aB:=aT.below rfl aE;have aQ:=OwnV.below aC.rd rfl aE;have aR:=rdV_new w3 #[.int .i64 v1,.int .i64 v2] 62 ([(v1,v2)].flatMap prc) rfl;have aP:w.heap.size<=(w3.alloc (.cells #[.int .i64 v1,.int .i64 v2] 62)).heap.size:=Ai aC.gb.size aE.size;have bG:Hd (∀ A4 w4,Below w.heap.size (w3.alloc (.cells #[.int .i64 v1,.int .i64 v2] 62)) w4->Grew A A4 (w3.alloc (.cells #[.int .i64 v1,.int .i64 v2] 62)) w4->Rpo B g st3 w w4):=hid fun A4 w4 hb hg=>⟨OwnV.grown aQ aB (by decide) hg,N4 (N4 aC.gb (aE.mono aC.gb.size)) hb⟩;clear aV h3 aI aH aT aQ aC bA H2 aL bF bH aE;go_wp2_with (at_builtin;go_loud (refine Ea mg rfl (.tmp 13) (.tmp 18) rfl rfl w.heap.size A n c _ rfl aB _ 1 1 _ _ rfl aR rfl Cv (Q6 [(v1,v2)]) (by omega) (by unfold maxLen;omega) aP (n+1) rfl ((L++[(v1,v2)]).flatMap prc) (by rw[Bu]) ?_;intro A4 c4 w4 aO aY aU));have H4:=hid (bG.o A4 w4 aY aU);have aD:=hid aO;have bE:Hd ((L++[(v1,v2)]).length=n+1):=hid (by rw[Aa,bC.o];rfl);have aG:=hid (procsI_next bK.o HP.o);clear aO aY aU bG aB aR aP;cases hq:st3.bind (takeB 44) with
  | some r =>
   have HT:=hid (Fc H4.o.rd 44 44 rfl hq);have aN:=hid (aG.o.1 r hq);have bD:Hd (n+1+r.length<=1048576/\r.length < (sn.getD []).length):=hid (by
    cases st3 with
    | none=>cases hq
    | some s3 =>
     have hp:=HP.o;cases sn with
     | none=>cases hp
     | some s =>
      have a1:=procS_le (s:=s) (x:=((v1,v2),s3)) hp;have a2:=congrArg List.length (takeB_some (show takeB 44 s3=some r from hq));have a3:=aZ.o;rw[Ad] at a2;rw[Bq] at a3 |-;dsimp only at a1;omega)
   clear hq aG HP;go_wp2_with fail;refine HT.o.mono ?_;rintro e w5⟨rfl,h5⟩;have H5:=hid (H4.o.trans h5);have aK:=hid (OwnV.gbo aD.o h5.gb (Ee aD.o H4.o.rd (by decide)));clear h5 HT aD;go_wp2;go_roundw
   case rel=>exact⟨A4,n+1,c4,L++[(v1,v2)],some r,true,rfl,rfl,bE.o,aK.o,H5.o,fun _=>⟨aN.o,bD.o.1⟩,fun e=>(by cases e)⟩
   have a1:=bD.o.2;have a2:=bJ.o;have a3:=Gy H5.o.rd;rw[Bq] at a3;simp only[mrB];omega
  | none =>
   have HT:=hid (Fj H4.o.rd 44 44 rfl hq);have aN:=hid (aG.o.2 hq);have bI:Hd (n+1<=1048577):=hid (by have:=aZ.o;omega);clear hq aG HP;go_wp2_with fail;refine HT.o.mono ?_;rintro e w5⟨rfl,h5⟩;have H5:=hid (H4.o.trans h5);have aK:=hid (OwnV.gbo aD.o h5.gb (Ee aD.o H4.o.rd (by decide)));clear h5 HT aD;go_wp2;go_roundw
   case rel=>exact⟨A4,n+1,c4,L++[(v1,v2)],st3,false,rfl,rfl,bE.o,aK.o,H5.o,fun e=>(by cases e),fun _=>⟨aN.o,bI.o⟩⟩
   simp only[mrB];omega
end Go.Proofs.YtfmndmhjjbeokaaGreatDoor
namespace Go.Proofs.YtfmndmhjjbeokaaGreatDoor
open Go.RowKit Tab
theorem Rr(out:List Rn)(x:Rn):Dx (tpush out x)=Dx out++List.replicate x.n x.p:=by
 rcases tpush_cases out x with ⟨h,e⟩ | ⟨h,rfl,e⟩ | ⟨o,y,h,rfl,hp,e⟩ | ⟨o,y,h,rfl,hp,e⟩
 ·rw[e,h];simp
 ·rw[e];simp[Dx]
 ·rw[e,Fu,Fu];simp only[Dx,hp,Az,Ar];rw[List.replicate_append_replicate]
 rw[e,Fu];simp[Dx]
theorem Pb(l:List Rn):∀ out,Dx (tidyOn out l)=Dx out++Dx l:=by
 induction l with
 | nil=>intro out;simp[tidyOn,Dx]
 | cons x l ih =>
  intro out;have:=ih (tpush out x);unfold tidyOn at this |-;rw[List.foldl_cons,this,Rr];simp only[Dx,Ar]
theorem Mk(l:List Rn):Dx (tidy l)=Dx l:=by
 unfold tidy;rw[Pb];rfl
def fi(q:Int):List Int->Nat
 | []=>0
 | x::l=>if x=q then 0 else fi q l+1
theorem dj{q:Int}{Z:List Int}(h:E6 q Z=true):Z[fi q Z]? = some q:=by
 induction Z with
 | nil=>cases h
 | cons x Z ih =>
  simp only[E6,Dh,Av] at h;by_cases hx:x=q
  ·simp[fi,hx]
  simp only[fi,if_neg hx,C9];exact ih (h.resolve_left hx)
theorem Qah{q:Int}{Z:List Int}:∀ {i:Nat},i < fi q Z->¬ Z[i]? = some q:=by
 induction Z with
 | nil=>intro i h;simp[fi] at h
 | cons x Z ih =>
  intro i h;by_cases hx:x=q
  ·simp[fi,hx] at h
  simp only[fi,if_neg hx] at h;cases i with
  | zero=>simpa using hx
  | succ i=>simpa using ih (by omega)
theorem Qai{q:Int}{Z:List Int}(h:E6 q Z=true):fi q Z < Z.length:=(Af.1 (dj h)).1
theorem Me{x q:Int}(h:x≠q)(k:Nat)(Z:List Int):fi q (List.replicate k x++Z)=k+fi q Z:=by
 induction k with
 | zero=>simp
 | succ k ih =>
  simp only[Dp,Bo,fi,if_neg h,ih];omega
theorem Qk(q:Int)(k:Nat)(Z:List Int)(h:1<=k):fi q (List.replicate k q++Z)=0:=by
 obtain⟨k,rfl⟩:∃ j,k=j+1:=⟨k - 1,by omega⟩;simp[Dp,fi]
def wc(q:Int):List Rn->Nat->Nat
 | [],n=>n
 | r::s,n=>if r.p=q then 0 else wc q s n+r.n
theorem j5{q:Int}{S:List Rn}(h:∀ r∈S,1<=r.n)(Y:List Int):wc q S (fi q Y)=fi q (Dx S++Y):=by
 induction S with
 | nil=>rfl
 | cons r s ih =>
  have ih:=ih fun x hx=>h x (by simp[hx]);have h1:=h r (by simp);simp only[wc,Dx,Ar];by_cases hp:r.p=q
  ·rw[if_pos hp,hp,Qk q _ _ h1]
  rw[if_neg hp,Me hp,ih];omega
theorem Wc(q:Int)(S:List Rn)(n:Nat):wc q S n<=ticks S+n:=by
 induction S with
 | nil=>simp[wc,ticks]
 | cons r s ih =>
  simp only[wc,ticks];split <;> omega
theorem my{q:Int}{L:List Rn}{i:Nat}{r:Rn}(h:L[i]? = some r)(n:Nat):wc q (L.drop i) n=if r.p=q then 0 else wc q (L.drop (i+1)) n+r.n:=by
 obtain⟨hi,e⟩:=Af.1 h;rw[List.drop_eq_getElem_cons hi,e];rfl
def wt(q:Int)(L:List Rn)(i:Nat):Nat:=wc q (L.drop (i+1)) (wc q L 0)
theorem Kd(L:List Rn)(i:Nat):ticks (L.drop i)<=ticks L:=by
 have h:ticks (L.take i++L.drop i)=ticks L:=by rw[Dl]
 rw[ticks_append] at h;omega
theorem ko(q:Int)(L:List Rn):wc q L 0<=ticks L:=by
 have:=Wc q L 0;omega
theorem mw(q:Int)(L:List Rn)(i:Nat):wt q L i<=2*ticks L:=by
 have h1:=Wc q (L.drop (i+1)) (wc q L 0);have h2:=ko q L;have h3:=Kd L (i+1);unfold wt;omega
theorem Wa{q:Int}{L:List Rn}(h:∀ r∈L,1<=r.n)(i:Nat):wt q L i=fi q (Dx (L.drop (i+1))++Dx L):=by
 unfold wt;have e:wc q L 0=fi q (Dx L):=by
  have:=j5 (q:=q) h [];rw[Az] at this;exact this
 rw[e,j5 fun r hr=>h r (List.mem_of_mem_drop hr)]
theorem P3{X Y W:List Int}{x:Int}(hW:W=X++x::Y){m:Nat}(hm:m < (Y++W).length):rnd W (X.length+(1+m))=(Y++W)[m]?:=by
 have hl:W.length=X.length+1+Y.length:=by rw[hW,Aa,Ad];omega
 rw[Aa] at hm;by_cases h:m < Y.length
 ·rw[aj (by omega),Dq h,hW,Cy (by omega)];rw[show X.length+(1+m) - X.length=m+1 by omega,C9]
 rw[Cy (by omega)];have e:X.length+(1+m)=(m - Y.length)+W.length*1:=by omega
 rw[e,gi,aj (by omega)]
theorem Vo{X Y W:List Int}{x q:Int}(hW:W=X++x::Y)(h:E6 q W=true):Ph W q X.length=1+fi q (Y++W):=by
 have hZ:E6 q (Y++W)=true:=by rw[Mu,h,Bool.or_true]
 have aA:=Qai hZ;refine(Ok h X.length).eq ⟨by omega,?_,fun e h1 h2=>?_⟩
 ·rw[P3 hW aA];exact dj hZ
 obtain⟨m,rfl⟩:∃ m,e=1+m:=⟨e - 1,by omega⟩;rw[P3 hW (by omega)];exact Qah (by omega)
theorem Z7{L:List Rn}{i:Nat}{r:Rn}(hr:L[i]? = some r):Dx L=Dx (L.take i)++(List.replicate r.n r.p++Dx (L.drop (i+1))):=by
 have h:=congrArg Dx (Dl (i+1) L);rw[Fu,I7 hr,Ar] at h;exact h.symm
theorem Lq{L:List Rn}{i j:Nat}{r:Rn}{q:Int}(hr:L[i]? = some r)(h:E6 q (Dx L)=true)(hj:j < r.n):
  Ph (Dx L) q ((Dx (L.take i)).length+j)=1+fi q (List.replicate (r.n - 1 - j) r.p++(Dx (L.drop (i+1))++Dx L)):=by
 have e:Dx L=(Dx (L.take i)++List.replicate j r.p)++r.p::(List.replicate (r.n - 1 - j) r.p++Dx (L.drop (i+1))):=by
  refine(Z7 hr).trans ?_;have e2:List.replicate r.n r.p=List.replicate j r.p++r.p::List.replicate (r.n - 1 - j) r.p:=by
   rw[<- Dp,List.replicate_append_replicate];congr 1;omega
  rw[e2];simp only[Ar,Bo]
 have k:=Vo e h;rw[Aa,List.length_replicate,Ar] at k;exact k
theorem iw:∀(L:List Rn) (t:Nat),t < (Dx L).length->∃ i r j,L[i]? = some r/\j < r.n/\t=(Dx (L.take i)).length+j/\(Dx L)[t]? = some r.p:=by
 intro L;induction L with
 | nil=>intro t h;simp[Dx] at h
 | cons x L ih =>
  intro t h;by_cases hx:t < x.n
  ·refine⟨0,x,t,rfl,hx,by simp[Dx],?_⟩;simp only[Dx];rw[Dq (by simpa using hx),List.getElem?_replicate,if_pos hx]
  simp only[Dx,Aa,List.length_replicate] at h;obtain⟨i,r,j,h1,h2,h3,h4⟩:=ih (t - x.n) (by omega);refine⟨i+1,r,j,h1,h2,?_,?_⟩
  ·simp only[List.take_succ_cons,Dx,Aa,List.length_replicate];omega
  simp only[Dx];rw[Cy (by simp;omega),List.length_replicate];exact h4
theorem gg{L:List Rn}{i j:Nat}{r:Rn}(hr:L[i]? = some r)(hj:j < r.n):(Dx L)[(Dx (L.take i)).length+j]? = some r.p/\(Dx (L.take i)).length+j < (Dx L).length:=by
 have e:=Z7 hr;have h1:(Dx L)[(Dx (L.take i)).length+j]? = some r.p:=by
  rw[e,Cy (by omega),Nat.add_sub_cancel_left,Dq (by simpa using hj),List.getElem?_replicate,if_pos hj]
 exact⟨h1,(Af.1 h1).1⟩
def mo(p:Int)(g:Nat->Nat->Nat)(L:List Rn):Nat->Nat
 | 0=>0
 | k+1=>match L[k]? with
  | some r=>if r.p=p then max (mo p g L k) (g k r.n) else mo p g L k
  | none=>mo p g L k
theorem Vb{p:Int}{g:Nat->Nat->Nat}{L:List Rn}{k:Nat}{r:Rn}(h:L[k]? = some r)(hp:r.p=p):mo p g L (k+1)=max (mo p g L k) (g k r.n):=by simp only[mo,h,if_pos hp]
theorem cq{p:Int}{g:Nat->Nat->Nat}{L:List Rn}{k:Nat}{r:Rn}(h:L[k]? = some r)(hp:r.p≠p):mo p g L (k+1)=mo p g L k:=by simp only[mo,h,if_neg hp]
theorem j7{p:Int}{g:Nat->Nat->Nat}{L:List Rn}{M:Nat}:∀ k,mo p g L k<=M↔∀ i r,i < k->L[i]? = some r->r.p=p->g i r.n<=M:=by
 intro k;induction k with
 | zero=>exact⟨fun _ i r h=>by omega,fun _=>Cr _⟩
 | succ k ih =>
  have low:(∀ i r,i < k+1->L[i]? = some r->r.p=p->g i r.n<=M)↔mo p g L k<=M/\∀ r,L[k]? = some r->r.p=p->g k r.n<=M:=by
   constructor
   ·exact fun h=>⟨ih.2 fun i r hi=>h i r (by omega),fun r=>h k r (by omega)⟩
   rintro ⟨h1,h2⟩ i r hi hr hp;by_cases e:i=k
   ·subst e;exact h2 r hr hp
   exact ih.1 h1 i r (by omega) hr hp
  rw[low];cases hk:L[k]? with
  | none=>simp[mo,hk]
  | some x =>
   by_cases hp:x.p=p
   ·rw[Vb hk hp];constructor
    ·intro h;exact⟨by omega,fun r hr _=>by injection hr with hr;subst hr;omega⟩
    rintro ⟨h1,h2⟩;have:=h2 x rfl hp;omega
   rw[cq hk hp];exact⟨fun h=>⟨h,fun r hr aA=>by injection hr with hr;subst hr;exact absurd aA hp⟩,fun h=>h.1⟩
theorem Qd{L:List Rn}{p q:Int}{M:Nat}:Gb (Dx L) p q (Dx L).length<=M↔∀ i r j,L[i]? = some r->r.p=p->j < r.n->Ph (Dx L) q ((Dx (L.take i)).length+j)<=M:=by
 rw[Oe];constructor
 ·intro h i r j hr hp hj;obtain⟨h1,h2⟩:=gg hr hj;exact h _ h2 (by rw[h1,hp])
 intro h t ht hp;obtain⟨i,r,j,hr,hj,rfl,e⟩:=iw L t ht;rw[e] at hp;injection hp with hp;exact h i r j hr hp hj
theorem ip{L:List Rn}{p q:Int}(h:∀ r∈L,1<=r.n)(hq:E6 q (Dx L)=true)(aA:p≠q):Gb (Dx L) p q (Dx L).length=mo p (fun i n=>wt q L i+n) L L.length:=by
 refine Lg fun M=>?_;rw[Qd,j7];constructor
 ·intro H i r _ hr hp;have h1:=h r (An hr);have k:=H i r 0 hr hp (by omega);rw[Lq hr hq (by omega),Me (by rw[hp];exact aA),<- Wa h] at k;omega
 intro H i r j hr hp hj;have k:=H i r (Af.1 hr).1 hr hp;rw[Lq hr hq hj,Me (by rw[hp];exact aA),<- Wa h];omega
theorem md{L:List Rn}{p:Int}(h:∀ r∈L,1<=r.n)(hp:E6 p (Dx L)=true):Gb (Dx L) p p (Dx L).length=mo p (fun i _=>wt p L i) L L.length+1:=by
 have h1:1<=Gb (Dx L) p p (Dx L).length:=by
  obtain⟨t,ht,e⟩:=Ta hp;have k:=(Oe (W:=Dx L) (p:=p) (q:=p) (Dx L).length).1 (Ag _) t ht e;have:=(Ok hp t).1;omega
 have aB:Gb (Dx L) p p (Dx L).length - 1=mo p (fun i _=>wt p L i) L L.length:=by
  refine Lg fun M=>?_;rw[show (Gb (Dx L) p p (Dx L).length - 1<=M)↔Gb (Dx L) p p (Dx L).length<=M+1 by omega,Qd,j7];constructor
  ·intro H i r _ hr aA;have h1:=h r (An hr);have k:=H i r (r.n - 1) hr aA (by omega);rw[Lq hr hp (by omega),show r.n - 1 - (r.n - 1)=0 by omega,List.replicate_zero,Cw,<- Wa h] at k;omega
  intro H i r j hr aA hj;have k:=H i r (Af.1 hr).1 hr aA;rw[Lq hr hp hj];by_cases hl:r.n - 1 - j=0
  ·rw[hl,List.replicate_zero,Cw,<- Wa h];omega
  rw[aA,Qk p _ _ (by omega)];omega
 omega
theorem Vl{L:List Rn}{p:Int}:E6 p (Dx L)=true↔0 < tkOf p L:=by rw[<- je,Zc]
theorem Hp{L:List Rn}{p:Int}:E6 p (Dx L)=false↔tkOf p L=0:=by
 have h:=Vl (L:=L) (p:=p);cases hh:E6 p (Dx L) with
 | true =>
  rw[hh] at h;have:=h.1 rfl;exact⟨fun e=>(by cases e),fun e=>by omega⟩
 | false =>
  have h2:¬ 0 < tkOf p L:=fun k=>by
   have:=h.2 k;rw[hh] at this;cases this
  exact⟨fun _=>by omega,fun _=>rfl⟩
structure Qcq where
 a:Nat
 l:Nat
 m:Nat
def stp(p:Int)(P:Nat)(s:Qcq)(x:Int):Qcq:=if s.l=1 then ⟨min s.a (s.m+if x=p then 1 else 0),P,0⟩ else ⟨s.a,s.l - 1,s.m+if x=p then 1 else 0⟩
theorem fu{p x:Int}{P a m:Nat}:stp p P ⟨a,1,m⟩ x=⟨min a (m+if x=p then 1 else 0),P,0⟩:=rfl
theorem R0{p x:Int}{P a l m:Nat}(h:¬ l=1):stp p P ⟨a,l,m⟩ x=⟨a,l - 1,m+if x=p then 1 else 0⟩:=if_neg h
def Gh(p:Int)(P:Nat)(s:Qcq)(X:List Int):Qcq:=X.foldl (stp p P) s
theorem Ja(p:Int)(P:Nat)(s:Qcq)(X Y:List Int):Gh p P s (X++Y)=Gh p P (Gh p P s X) Y:=List.foldl_append
theorem fx{p:Int}{P:Nat}:∀(X:List Int) (a l m:Nat),X.length < l->Gh p P ⟨a,l,m⟩ X=⟨a,l - X.length,m+Gt p X⟩:=by
 intro X;induction X with
 | nil=>intro a l m _;rfl
 | cons x X ih =>
  intro a l m h;rw[Ad] at h;have e:Gh p P ⟨a,l,m⟩ (x::X)=Gh p P (stp p P ⟨a,l,m⟩ x) X:=rfl;rw[e,R0 (by omega),ih _ _ _ (by omega)];simp only[Ad,Gt];congr 1 <;> omega
theorem Wh{p:Int}{P:Nat}:∀(X:List Int) (a l m:Nat),X.length=l->1<=l->Gh p P ⟨a,l,m⟩ X=⟨min a (m+Gt p X),P,0⟩:=by
 intro X;induction X with
 | nil=>intro a l m h h1;simp at h;omega
 | cons x X ih =>
  intro a l m h h1;rw[Ad] at h;have e:Gh p P ⟨a,l,m⟩ (x::X)=Gh p P (stp p P ⟨a,l,m⟩ x) X:=rfl;rw[e];by_cases hl:l=1
  ·have hX:X=[]:=List.length_eq_zero_iff.1 (by omega);subst hX;subst hl;rw[fu];rfl
  rw[R0 hl,ih _ _ _ (by omega) (by omega)];simp only[Gt];congr 2;omega
theorem Z1{p x:Int}{P a l m n:Nat}(h:n < l):Gh p P ⟨a,l,m⟩ (List.replicate n x)=⟨a,l - n,m+if x=p then n else 0⟩:=by
 rw[fx _ _ _ _ (by simpa using h),List.length_replicate,Rj]
theorem K6{p x:Int}{P a l m n:Nat}(h:l<=n)(h1:1<=l):Gh p P ⟨a,l,m⟩ (List.replicate n x)=Gh p P ⟨min a (m+if x=p then l else 0),P,0⟩ (List.replicate (n - l) x):=by
 obtain⟨k,rfl⟩:∃ k,n=l+k:=⟨n - l,by omega⟩;rw[<- List.replicate_append_replicate,Ja,Wh _ _ _ _ (by simp) h1,Rj,Nat.add_sub_cancel_left]
theorem Z2{p x:Int}{P:Nat}(hP:1<=P)(r:Nat):∀(k a:Nat),Gh p P ⟨a,P,0⟩ (List.replicate (P*(k+1)+r) x)=Gh p P ⟨a,P,0⟩ (List.replicate (P+r) x):=by
 intro k;induction k with
 | zero=>intro a;rw[Dr,Cj]
 | succ k ih =>
  intro a;rw[K6 (by rw[Nat.mul_add];omega) hP,show P*(k+1+1)+r - P=P*(k+1)+r by rw[Nat.mul_add P (k+1) 1];omega,ih,
   K6 (n:=P+r) (a:=a) (by omega) hP,K6 (n:=P+r) (by omega) hP]
  congr 2;simp only[Dr];omega
theorem Wg{p x:Int}{P a n:Nat}(hP:1<=P)(h:1 < n / P):Gh p P ⟨a,P,0⟩ (List.replicate n x)=Gh p P ⟨a,P,0⟩ (List.replicate (P+n % P) x):=by
 obtain⟨k,hk⟩:∃ k,n / P=k+1:=⟨n / P - 1,by omega⟩;have e:=Nat.div_add_mod n P;rw[hk] at e;rw[<- Z2 hP (n % P) k a,e]
theorem fv{p:Int}{P:Nat}{W:List Int}(hP:1<=P):∀ k,P*k<=W.length->Gh p P ⟨P,P,0⟩ (W.take (P*k))=⟨min P (My W p P k),P,0⟩:=by
 intro k;induction k with
 | zero =>
  intro _;rw[Nat.mul_zero,List.take_zero];show (⟨P,P,0⟩:Qcq)=_;congr 1;simp only[My];omega
 | succ k ih =>
  intro h;rw[Nat.mul_add,Cj] at h |-;rw[List.take_add,Ja,ih (by omega),Wh _ _ _ _ (by rw[Cl,C1];omega) hP];simp only[My,Dr,Nat.mul_comm k P];congr 1;omega
theorem fw{p:Int}{P:Nat}{W:List Int}(hP:1<=P)(hW:1<=W.length)(hm:W.length % P=0):(Gh p P ⟨P,P,0⟩ W).a=My W p P (W.length / P):=by
 have e:=Nat.div_add_mod W.length P;rw[hm,Nat.add_zero] at e;have h:=fv (p:=p) (W:=W) hP (W.length / P) (by omega);rw[e,List.take_length] at h;rw[h];show min P (My W p P (W.length / P))=_;have hd:W.length / P≠0:=fun h0=>by
  rw[h0,Nat.mul_zero] at e;omega
 obtain⟨k,hk⟩:∃ k,W.length / P=k+1:=Nat.exists_eq_succ_of_ne_zero hd;rw[hk];simp only[My];have h1:=jf p ((W.drop (k*P)).take P);have h2:((W.drop (k*P)).take P).length<=P:=by rw[Cl];omega
 omega
def BOk(P:Nat)(s:Qcq):Prop:=s.a<=P/\1<=s.l/\s.l<=P/\s.m+s.l<=P
theorem ei{p:Int}{P:Nat}{s:Qcq}(hP:1<=P)(h:BOk P s)(x:Int):BOk P (stp p P s x):=by
 obtain⟨h1,h2,h3,h4⟩:=h;unfold stp;by_cases hl:s.l=1
 ·rw[if_pos hl];exact⟨by show min _ _<=P;omega,hP,Ag _,by show 0+P<=P;omega⟩
 rw[if_neg hl];refine⟨h1,by show 1<=s.l - 1;omega,by show s.l - 1<=P;omega,?_⟩;show s.m+_+(s.l - 1)<=P;split <;> omega
theorem jt{p:Int}{P:Nat}(hP:1<=P):∀(X:List Int) (s:Qcq),BOk P s->BOk P (Gh p P s X):=by
 intro X;induction X with
 | nil=>intro s h;exact h
 | cons x X ih=>intro s h;exact ih _ (ei hP h x)
theorem Zh{P:Nat}(hP:1<=P):BOk P ⟨P,P,0⟩:=⟨Ag _,hP,Ag _,by show 0+P<=P;omega⟩
