import Derived.Test.YtdkngfdnfekgfaaGreatLot39
import Derived.Deep.Cut
import Derived.Lib.SlBytesConst
set_option maxHeartbeats 8000000
set_option maxRecDepth 100000
set_option linter.unusedSimpArgs false
set_option linter.unusedVariables false
namespace Go.Proofs.YtdkngfdnfekgfaaGreat
open Go.RowKit Tab
structure SmX(m:Nat)(x:Cf):Prop where
 p1:1≤x.n1
 p2:x.n1≤m
 c:x.n2≤m
 t:x.n3≤m
 pr:∀ y∈x.P,y.1.pn≤m
 nd:∀ y∈x.T,y.n≤1024+m
def OdA(m:Nat)(w:World)(e:Ending)(w':World):Prop:=∃ y,e=.returned (cfv y)∧CfR w' y∧SmX m y∧Below w.heap.size w w'
theorem In64.and(a:Int)(m:Nat)(hm:m < 9223372036854775808):In64 (bits .and .i64 a (m:Int)):=by
 obtain⟨M,hM,hle⟩:=and_mask a m hm;rw[hM];unfold In64;omega
structure TapeC:Prop where
 cfg:∀(A:Option Addr) (n cap:Nat) (f:Nat→Int) (w:World),RdC w w.heap.size A n (fun j=>.int .i64 (f j))→n≤140737488351232 →
  Calls Tryz.prog 8 #[.pointer (some ⟨w.heap.size,0,none⟩)] (w.alloc (.cells #[.slice A n cap,.int .i64 0] 31)) (fun e w'=>∃ y,e=.returned (cfv y)∧CfR w' y∧SmX 16 y∧Below w.heap.size w w')
theorem fold_fn{α:Type}(f:List UInt8→α→List UInt8)(k:Nat)(L:List α)(h:∀ x∈L,∀ l,(f l x).length≤l.length+k)(l0:List UInt8):
  ∃ F:Nat→List UInt8,F 0=l0∧(∀ i x,L[i]? = some x→F (i+1)=f (F i) x)∧F L.length=L.foldl f l0∧∀ i,i≤L.length→(F i).length≤l0.length+i*k:=by
 refine⟨fun i=>(L.take i).foldl f l0,rfl,fun i x hx=>?_,by simp,fun i hi=>?_⟩
 ·show (L.take (i+1)).foldl f l0=_;rw[List.take_add_one,hx,Option.toList_some,List.foldl_append];rfl
 have:=foldl_few f k (L.take i) (fun x hx=>h x (List.mem_of_mem_take hx)) l0;rw[List.length_take,Nat.min_eq_left hi] at this;exact this
theorem tabB_few{t:NdT}(hn:In64 (t.n:Int))(h:∀ z∈t.l,NdIn z)(l:List UInt8):(tabB l t).length≤l.length+(9+t.l.length*27):=by
 have h1:=foldl_few nodeB 27 t.l (fun z hz l=>nodeB_few (h z hz) l) (l++Num.enc t.n);have h2:=enc_few _ hn;rw[List.length_append] at h1;unfold tabB;omega
def MdA(l:List UInt8)(w:World)(e:Ending)(w':World):Prop:=∃ A n c,e=.returned (.slice A n c)∧Own w' w.heap.size A n c l∧Below w.heap.size w w'
theorem seal_md(l:List UInt8)(v:Value)(w:World)(h:BtS l v w)(hn:l.length≤140737488355000):Calls Tryz.prog 13 #[v] w (MdA (Crc.seal4 l) w):=by
 obtain⟨A,c,rfl,hr⟩:=h;exact(rseal_any A l.length c l w hr hn).mono fun e w' ⟨A',c',he,ho,hb⟩=>⟨A',_,c',he,ho,hb⟩
theorem healB_succ(l:List UInt8)(y:PtV)(k:Nat):healB l y (k+1)=healB l y k++Num.enc (hv5 y k):=by
 unfold healB;rw[List.range_succ,List.foldl_append];rfl
theorem rbytes_any(x:Cf)(w:World)(hx:CfR w x)(hr:RiX x)(hs:SmX 16 x):Calls Tryz.prog 11 #[cfv x] w (MdA (bytesB x) w):=by
 have HPP:=hid hx.pp;have HCC:=hid hx.ch;have HTB:=hid hx.tb;have hpi:∀(k:Nat) (y:Pq),x.P[k]? = some y→PartIn y∧RdB prc w w.heap.size y.1.pa y.1.pn y.2:=fun k y hy=>by
  have hm:=List.mem_of_getElem? hy;exact⟨PartIn.of hy (hr.pt k (List.getElem?_eq_some_iff.1 hy).1) (hx.pt y hm).1.procs.len,(hx.pt y hm).1.procs⟩
 have hci:∀(k:Nat) (y:ChV),x.C[k]? = some y→ChanIn y:=fun k y hy=>ChanIn.of hy (hr.ch k (List.getElem?_eq_some_iff.1 hy).1) hr.sz.2.1;have hti:∀ y∈x.T,RdN w w.heap.size y.A y.n y.l∧y.n≤1040:=fun y hy=>⟨(hx.tt y hy).rd,by have:=hs.nd y hy;omega⟩;have l1:=hx.pp.len;have l2:=hx.ch.len;have l3:=hx.tb.len;have z1:x.n1≤6:=by rw[← l1];exact hr.sz.2.1
 have z2:x.n2≤8:=by rw[← l2];exact hr.sz.2.2.1
 have z3:x.n3≤3:=by rw[← l3];exact hr.sz.2.2.2.2
 have en1:(Num.enc (x.n1:Int)).length≤9:=enc_few _ (by unfold In64;omega);have en2:(Num.enc (x.n2:Int)).length≤9:=enc_few _ (by unfold In64;omega);have en3:(Num.enc (x.n3:Int)).length≤9:=enc_few _ (by unfold In64;omega);obtain⟨PF,p0,ps,pe,pb⟩:=fold_fn partB 165 x.P (fun y hy l=>by obtain⟨k,hk⟩:=List.getElem?_of_mem hy;exact partB_few (hpi k y hk).1 l) (horaB++Num.enc (x.n1:Int));rw[l1] at pe pb
 replace pb:∀ i,i≤x.n1→(PF i).length≤1100:=fun i hi=>by
  have:=pb i hi;rw[List.length_append,show horaB.length=4 from rfl] at this;omega
 obtain⟨CF,c0,cs,ce,cb⟩:=fold_fn chanB 54 x.C (fun y hy l=>by obtain⟨k,hk⟩:=List.getElem?_of_mem hy;exact chanB_few (hci k y hk) l) (PF x.n1++Num.enc (x.n2:Int));rw[l2] at ce cb
 replace cb:∀ i,i≤x.n2→(CF i).length≤2000:=fun i hi=>by
  have h1:=cb i hi;have h2:=pb x.n1 (Nat.le_refl _);rw[List.length_append] at h1;omega
 obtain⟨TF,t0,ts,te,tb⟩:=fold_fn tabB 28089 x.T (fun y hy l=>by
  have h1:=hti y hy;have h2:=tabB_few (t:=y) (by unfold In64;omega) h1.1.bd l;have h3:=h1.1.len;have h4:=h1.2;omega) (CF x.n2++Num.enc (x.n3:Int))
 rw[l3] at te tb
 replace tb:∀ i,i≤x.n3→(TF i).length≤100000:=fun i hi=>by
  have h1:=tb i hi;have h2:=cb x.n2 (Nat.le_refl _);rw[List.length_append] at h1;omega
 have hend:Crc.seal4 (TF x.n3)=bytesB x:=by rw[te,ce,pe];rfl
 have HPI:=hid hpi;have HCI:=hid hci;have HTI:=hid hti;have HP0:=hid p0;have HPS:=hid ps;have HPB:=hid pb;have HC0:=hid c0;have HCS:=hid cs;have HCB:=hid cb;have HT0:=hid t0;have HTS:=hid ts;have HTLB:=hid tb;have HEN:=hid (And.intro en1 (And.intro en2 en3));have HEND:=hid hend;generalize bytesB x=BB at HEND ⊢;clear hpi hci hti p0 ps pe pb c0 cs ce cb t0 ts te tb hend en1 en2 en3 l1 l2 l3 hx hr hs;obtain⟨A1,A2,A3,n1,n2,n3,c1,c2,c3,P,C,T⟩:=x;dsimp only[cfv] at HPP HCC HTB HPI HCI HTI HP0 HPS HPB HC0 HCS HCB HT0 HTS HTLB HEN HEND z1 z2 z3 ⊢;have hb0:=bl1 w (.cells #[.slice A1 n1 c1,.slice A2 n2 c2,.slice A3 n3 c3] 26);have hbox:=box_vec w (.slice A1 n1 c1) (.slice A2 n2 c2) (.slice A3 n3 c3) 26;go_enter Tryz.func11,Tryz.ntmps11;go_upto_region 1 with fail;generalize w.alloc (.cells #[.slice A1 n1 c1,.slice A2 n2 c2,.slice A3 n3 c3] 26)=W0 at hb0 hbox ⊢;have HBX:=hid fun V (hv:Below W0.heap.size W0 V)=>(hbox.on hv).three;have HB0:=hid hb0;have HW:=hid fun V (hv:Below W0.heap.size W0 V)=>hb0.trans (hv.mono hb0.size);obtain⟨g0,hg0⟩:∃ g,g=w.heap.size:=⟨_,rfl⟩;rw[← hg0] at HBX ⊢;clear hg0 hbox hb0;have hb1:=bl1 W0 (.cells #[.int .u8 72,.int .u8 79,.int .u8 82,.int .u8 65] 5 (4,5));obtain⟨m0,m1,m2⟩:=HBX.out _ hb1;have HO1:=hid ((rd_mark W0 #[.int .u8 72,.int .u8 79,.int .u8 82,.int .u8 65] (4,5) horaB 4 _ rfl rfl rfl).more (B':=(W0.alloc (.cells #[.int .u8 72,.int .u8 79,.int .u8 82,.int .u8 65] 5 (4,5))).heap.size) (by simp));have HB1:=hid hb1;have p1:(convert 35 35 (.slice (some ⟨W0.heap.size,0,none⟩) 4 4)).run Tryz.prog (W0.alloc (.cells #[.int .u8 72,.int .u8 79,.int .u8 82,.int .u8 65] 5))=.ok (.slice (some ⟨W0.heap.size,0,none⟩) 4 4) (W0.alloc (.cells #[.int .u8 72,.int .u8 79,.int .u8 82,.int .u8 65] 5 (4,5))):=Lib.run_convert_bytes_const (P:=Tryz.prog) W0 35 5 #[.int .u8 72,.int .u8 79,.int .u8 82,.int .u8 65] 4 4 Tryz.underlying35 Tryz.underlying5;clear hb1;go_wp2_with fail;clear m0 m1 m2 p1;generalize W0.alloc (.cells #[.int .u8 72,.int .u8 79,.int .u8 82,.int .u8 65] 5 (4,5))=W1 at HO1 HB1 ⊢;refine(put_bt horaB _ (n1:Int) W1 ⟨_,_,rfl,HO1.out⟩ (by decide) (by unfold In64;omega)).mono ?_;rintro e w2⟨v2,rfl,hv2,hb2⟩;rw[← HP0.out] at hv2;have HV2:=hid hv2;have HB2:=hid (HB1.out.trans (hb2.mono HB1.out.size));clear hv2 hb2 HO1 HB1 HP0;obtain⟨m0,m1,m2⟩:=HBX.out _ HB2.out;go_wp2_with fail;clear m0 m1 m2;go_loopw [3,5,7,9,25] (fun q _ _ _ s wr=>∃(i:Nat) (A:Option Addr) (n c:Nat),i≤n1∧s=.int .i64 i∧q=.slice A n c∧BtS (PF i) (.slice A n c) wr∧Below W0.heap.size W0 wr) (fun _ _ _ _ s _=>n1 - (intOf s).toNat)
 case atStart =>
  obtain⟨A,c,rfl,hr⟩:=HV2.out;exact⟨0,A,_,c,by omega,rfl,rfl,⟨A,c,rfl,hr⟩,HB2.out⟩
 obtain⟨i,A,na,ca,hi,rfl,rfl,hv,hb⟩:=hrel;have HV:=hid hv;clear hv HV2 HB2;by_cases hlt:i < n1
 ·obtain⟨ad,x,rfl,had,hx,d0,ck⟩:=(HPP.out.on (HW.out _ hb)).at_ pcq_len (by omega) hlt;have hpi:=HPI.out i x hx;have hps:=HPS.out i x hx;have hpl:=HPB.out i hi;have d0:=d0 _ rfl;have d1:=ck 1 _ (by omega) rfl;have d2:=ck 2 _ (by omega) rfl;have d3:=ck 3 _ (by omega) rfl;have d4:=ck 4 _ (by omega) rfl;have d5:=ck 5 _ (by omega) rfl;have d6:=ck 6 _ (by omega) rfl;have d7:=ck 7 _ (by omega) rfl;have d8:=ck 8 _ (by omega) rfl;have d9:=ck 9 _ (by omega) rfl;have d10:=ck 10 _ (by omega) rfl;have PI:=hid hpi.1;have PR:=hid (hpi.2.on (HW.out _ hb));obtain⟨LH,hLH⟩:∃ l,l=headB (PF i) x.1:=⟨_,rfl⟩;obtain⟨LF,hLF⟩:∃ l,l=flagB LH x.1:=⟨_,rfl⟩;have nLH:LH.length≤1139:=by have:=headB_few hpi.1 (PF i);rw[hLH];omega
  have nLF:LF.length≤1166:=by have:=flagB_few hpi.1 LH;rw[hLF];omega
  obtain⟨LQ,hLQ⟩:∃ l,l=x.2.foldl procB LF:=⟨_,rfl⟩;have nLQ:LQ.length≤1300:=by
   have h1:=foldl_few procB 18 x.2 (fun q hq l=>procB_few (hpi.1.pr q hq) l) LF;have h2:=hpi.1.len;have h3:=hpi.1.few;rw[hLQ];omega
  have PX:Hid (PF (i+1)=healB LQ x.1 5):=hid (by rw[hps,hLQ,hLF,hLH];rfl);have EH:=hid hLH;have EF:=hid hLF;have EQ:=hid hLQ;have BND:=hid (And.intro hpl (And.intro nLH (And.intro nLF nLQ)));clear hpi hps hpl hLH hLF nLH nLF hLQ nLQ;obtain⟨⟨nm,bu,pe,sc,st,pa,pn,pc,h0,h1,h2,h3,h4⟩,L⟩:=x;dsimp only at d0 d1 d2 d3 d4 d5 d6 d7 d8 d9 d10 PI PR EH EF EQ PX;have NB:Hid (nm.data.toList.length≤12∧nm.size≤12∧(Num.enc (nm.size:Int)).length≤9∧(Num.enc bu).length≤9∧(Num.enc pe).length≤9∧pn≤3):=hid (by
   have h2:nm.size≤12:=PI.out.name;have h3:nm.data.toList.length=nm.size:=by rw[Array.length_toList];rfl
   exact⟨by omega,h2,enc_few _ (by unfold In64;omega),enc_few _ PI.out.bud,enc_few _ PI.out.per,PI.out.few⟩)
  have hbx:=bl1 wr (.cells #[.string nm,.int .i64 bu,.int .i64 pe,.bool sc,.bool st,.slice pa pn pc,.int .i64 h0,.int .i64 h1,.int .i64 h2,.int .i64 h3,.int .i64 h4] 57);have hb5:=hb.trans (hbx.mono hb.size);have hv5:=HV.out.on hbx;have f:∀ o v,(#[Value.string nm,.int .i64 bu,.int .i64 pe,.bool sc,.bool st,.slice pa pn pc,.int .i64 h0,.int .i64 h1,.int .i64 h2,.int .i64 h3,.int .i64 h4]:Array Value)[o]? = some v→(wr.alloc (.cells #[.string nm,.int .i64 bu,.int .i64 pe,.bool sc,.bool st,.slice pa pn pc,.int .i64 h0,.int .i64 h1,.int .i64 h2,.int .i64 h3,.int .i64 h4] 57)).cell? ⟨wr.heap.size,o,none⟩=some v:=fun o v hv=>(World.cell?_alloc_mark _ _ _ _ _).trans hv;have hgx:wr.heap.size < (wr.alloc (.cells #[.string nm,.int .i64 bu,.int .i64 pe,.bool sc,.bool st,.slice pa pn pc,.int .i64 h0,.int .i64 h1,.int .i64 h2,.int .i64 h3,.int .i64 h4] 57)).heap.size:=by simp
  have PR5:=hid (PR.out.on hbx);clear ck had hx hbx HV PR;go_upto_region 5 with fail;generalize wr.alloc (.cells #[.string nm,.int .i64 bu,.int .i64 pe,.bool sc,.bool st,.slice pa pn pc,.int .i64 h0,.int .i64 h1,.int .i64 h2,.int .i64 h3,.int .i64 h4] 57)=w5 at hb5 hv5 f hgx PR5 ⊢;generalize wr.heap.size=gx at f hgx ⊢;have HB5:=hid hb5;have HV5:=hid hv5;have GX:=hid hgx;have HF:=hid fun V (hv:Below w5.heap.size w5 V) o v hq=>(hv.cell (p:=⟨gx,o,none⟩) hgx).trans (f o v hq);clear hb5 hv5 hgx f d0 d1 d2 d3 d4 d5 d6 d7 d8 d9 d10 hb;obtain⟨W5,hW5⟩:∃ W,W=w5:=⟨_,rfl⟩;rw[← hW5] at HV5;have HB5s:=hid (hW5▸Below.refl _ _:Below w5.heap.size w5 W5);rw[← hW5];clear hW5;refine Rgs.region (by kernel_rfl) (by kernel_rfl) (fun(opn:Nat) (vl:Value) (wv:World)=>match opn with
    | 0=>BtS (PF i) vl wv
    | 1=>vl=.pointer (some ⟨gx,0,none⟩)
    | 2=>vl=.string nm
    | 3=>BtS (PF i++Num.enc (nm.size:Int)++nm.data.toList) vl wv
    | 4=>vl=.pointer (some ⟨gx,1,none⟩)
    | 5=>vl=.int .i64 bu
    | 6=>BtS (PF i++Num.enc (nm.size:Int)++nm.data.toList++Num.enc bu) vl wv
    | 7=>vl=.pointer (some ⟨gx,2,none⟩)
    | 8=>vl=.int .i64 pe
    | 9=>BtS (PF i++Num.enc (nm.size:Int)++nm.data.toList++Num.enc bu++Num.enc pe) vl wv
    | 10=>BtS (PF i++Num.enc (nm.size:Int)++nm.data.toList++Num.enc bu++Num.enc pe) vl wv
    | _=>True) (ByW 10 W5 (.slice A na ca)) ⟨(Below.refl _ _).drew,fun _=>rfl⟩ (Rgs.steps_of ?_) ?_
  ·refine⟨?_,?_,?_,?_,?_,?_,?_,?_,?_,?_,?_,trivial⟩<;>intro a w1 live S E D C' h0 hk hW
   ·have l3:=Reg.not_live C' h0 (j:=3) rfl rfl;have l6:=Reg.not_live C' l3 (j:=6) rfl rfl;have l9:=Reg.not_live C' l6 (j:=9) rfl rfl;have l10:=Reg.not_live C' l9 (j:=10) rfl rfl;have e3:a.eval (.tmp 3)=.slice A na ca:=hW.t3 l10;exact Rgs.val rfl (Reg.wanted_free rfl) (.slice A na ca) (by have c:=Reg.consts a;generalize a.eval=ρ at *;simp[execOp,go_sem,c.1,c.2,e3]) (HV5.out.on hW.on) (hW.upd (Below.refl _ _) 0 29 _)
   ·have eb:a.eval (.tmp 5)=.pointer (some ⟨gx,0,none⟩):=E 5 rfl;exact Rgs.va (.pointer (some ⟨gx,0,none⟩)) (hW.upd (Below.refl _ _) 1 30 _)
   ·have d0:_=_:=D 1 rfl _ _ rfl rfl;have hc:=(hW.on.cell (p:=⟨gx,0,none⟩) (Nat.lt_of_lt_of_le GX.out HB5s.out.size)).trans ((HF.out W5 HB5s.out 0 _ rfl));exact Rgs.va (.string nm) (hW.upd (Below.refl _ _) 2 31 _)
   ·have hA:BtS (PF i) (a.eval (.tmp 29)) w1:=D 0 rfl _ _ rfl rfl;have dB:a.eval (.tmp 31)=.string nm:=D 2 rfl _ _ rfl rfl;generalize hv:a.eval (.tmp 29)=vA at hA;refine Rgs.call rfl (Reg.wanted_free rfl) 26 #[vA,.string nm] (by have c:=Reg.consts a;generalize a.eval=ρ at *;simp[execOp,go_sem,c.1,c.2,hv,dB]) ?_;refine(text_bt (PF i) vA nm w1 hA (by have h1:=BND.out;have h2:=NB.out;(try simp only[List.length_append]);omega)).mono ?_;rintro e w5⟨v5,rfl,hB,hb5⟩;exact⟨_,rfl,hB,(hW.upd hb5 3 32 _ (by decide) (by decide)),fun jq vq _ hq=>by
     revert hq
     match jq with
     | 0=>exact fun hq=>hq.on hb5
     | 3=>exact fun hq=>hq.on hb5
     | 6=>exact fun hq=>hq.on hb5
     | 9=>exact fun hq=>hq.on hb5
     | 10=>exact fun hq=>hq.on hb5
     | 1 | 2 | 4 | 5 | 7 | 8 | _+11=>exact fun hq=>hq⟩
   ·have eb:a.eval (.tmp 5)=.pointer (some ⟨gx,0,none⟩):=E 5 rfl;exact Rgs.va (.pointer (some ⟨gx,1,none⟩)) (hW.upd (Below.refl _ _) 4 33 _)
   ·have d0:_=_:=D 4 rfl _ _ rfl rfl;have hc:=(hW.on.cell (p:=⟨gx,1,none⟩) (Nat.lt_of_lt_of_le GX.out HB5s.out.size)).trans ((HF.out W5 HB5s.out 1 _ rfl));exact Rgs.va (.int .i64 bu) (hW.upd (Below.refl _ _) 5 34 _)
   ·have hA:BtS (PF i++Num.enc (nm.size:Int)++nm.data.toList) (a.eval (.tmp 32)) w1:=D 3 rfl _ _ rfl rfl;have dB:a.eval (.tmp 34)=.int .i64 bu:=D 5 rfl _ _ rfl rfl;generalize hv:a.eval (.tmp 32)=vA at hA;refine Rgs.call rfl (Reg.wanted_free rfl) 25 #[vA,.int .i64 bu] (by have c:=Reg.consts a;generalize a.eval=ρ at *;simp[execOp,go_sem,c.1,c.2,hv,dB]) ?_;refine(put_bt (PF i++Num.enc (nm.size:Int)++nm.data.toList) vA bu w1 hA (by have h1:=BND.out;have h2:=NB.out;(try simp only[List.length_append]);omega) (PI.out.bud)).mono ?_;rintro e w5⟨v5,rfl,hB,hb5⟩;exact⟨_,rfl,hB,(hW.upd hb5 6 35 _ (by decide) (by decide)),fun jq vq _ hq=>by
     revert hq
     match jq with
     | 0=>exact fun hq=>hq.on hb5
     | 3=>exact fun hq=>hq.on hb5
     | 6=>exact fun hq=>hq.on hb5
     | 9=>exact fun hq=>hq.on hb5
     | 10=>exact fun hq=>hq.on hb5
     | 1 | 2 | 4 | 5 | 7 | 8 | _+11=>exact fun hq=>hq⟩
   ·have eb:a.eval (.tmp 5)=.pointer (some ⟨gx,0,none⟩):=E 5 rfl;exact Rgs.va (.pointer (some ⟨gx,2,none⟩)) (hW.upd (Below.refl _ _) 7 36 _)
   ·have d0:_=_:=D 7 rfl _ _ rfl rfl;have hc:=(hW.on.cell (p:=⟨gx,2,none⟩) (Nat.lt_of_lt_of_le GX.out HB5s.out.size)).trans ((HF.out W5 HB5s.out 2 _ rfl));exact Rgs.va (.int .i64 pe) (hW.upd (Below.refl _ _) 8 37 _)
   ·have hA:BtS (PF i++Num.enc (nm.size:Int)++nm.data.toList++Num.enc bu) (a.eval (.tmp 35)) w1:=D 6 rfl _ _ rfl rfl;have dB:a.eval (.tmp 37)=.int .i64 pe:=D 8 rfl _ _ rfl rfl;generalize hv:a.eval (.tmp 35)=vA at hA;refine Rgs.call rfl (Reg.wanted_free rfl) 25 #[vA,.int .i64 pe] (by have c:=Reg.consts a;generalize a.eval=ρ at *;simp[execOp,go_sem,c.1,c.2,hv,dB]) ?_;refine(put_bt (PF i++Num.enc (nm.size:Int)++nm.data.toList++Num.enc bu) vA pe w1 hA (by have h1:=BND.out;have h2:=NB.out;(try simp only[List.length_append]);omega) (PI.out.per)).mono ?_;rintro e w5⟨v5,rfl,hB,hb5⟩;exact⟨_,rfl,hB,(hW.upd hb5 9 38 _ (by decide) (by decide)),fun jq vq _ hq=>by
     revert hq
     match jq with
     | 0=>exact fun hq=>hq.on hb5
     | 3=>exact fun hq=>hq.on hb5
     | 6=>exact fun hq=>hq.on hb5
     | 9=>exact fun hq=>hq.on hb5
     | 10=>exact fun hq=>hq.on hb5
     | 1 | 2 | 4 | 5 | 7 | 8 | _+11=>exact fun hq=>hq⟩
   have hA:BtS (PF i++Num.enc (nm.size:Int)++nm.data.toList++Num.enc bu++Num.enc pe) (a.eval (.tmp 38)) w1:=D 9 rfl _ _ rfl rfl;generalize hv:a.eval (.tmp 38)=vA at hA;exact Rgs.val rfl (Reg.wanted_free rfl) vA (by have c:=Reg.consts a;generalize a.eval=ρ at *;simp[execOp,go_sem,c.1,c.2,hv]) hA ⟨hW.on,fun e=>absurd e (by rw[Rgs.upd_self];decide)⟩
  intro a w6 live hs hd E Dv Hl hW;obtain⟨v6,hv9,he9⟩:=Dv 10 _ rfl;have e3:a.eval (.tmp 3)=v6:=he9 3 rfl;rw[Rgs.act_ws a _ _ hs hd E [29,30,31,32,33,34,35,36,37,38,3] (by kernel_rfl)];simp only[List.foldl,List.setIfInBounds_toArray,List.set_cons_succ,List.set_cons_zero,e3];have HV6:Hid (BtS (LH) v6 w6):=hid (by rw[EH.out];exact hv9);have HX6:=hid hW.on;clear E Dv Hl hW e3 he9 hv9;generalize a.eval=ρ6;clear a hs hd;have HB6:=hid (HB5s.out.trans (HX6.out.mono HB5s.out.size));clear HB5s HX6 HV5 EH;go_upto_region 6 with fail;refine Rgs.region (by kernel_rfl) (by kernel_rfl) (fun(opn:Nat) (vl:Value) (wv:World)=>match opn with
    | 0=>BtS (LH) vl wv
    | 1=>vl=.pointer (some ⟨gx,3,none⟩)
    | 2=>vl=.bool sc
    | 3=>BtS (LH++Num.enc (fl sc)) vl wv
    | 4=>vl=.pointer (some ⟨gx,4,none⟩)
    | 5=>vl=.bool st
    | 6=>BtS (LH++Num.enc (fl sc)++Num.enc (fl st)) vl wv
    | 7=>vl=.pointer (some ⟨gx,5,none⟩)
    | 8=>vl=.slice pa pn pc
    | 9=>vl=.int .i64 (pn:Int)
    | 10=>BtS (LH++Num.enc (fl sc)++Num.enc (fl st)++Num.enc (pn:Int)) vl wv
    | 11=>BtS (LH++Num.enc (fl sc)++Num.enc (fl st)++Num.enc (pn:Int)) vl wv
    | _=>True) (ByW 11 w6 (v6)) ⟨(Below.refl _ _).drew,fun _=>rfl⟩ (Rgs.steps_of ?_) ?_
  ·refine⟨?_,?_,?_,?_,?_,?_,?_,?_,?_,?_,?_,?_,trivial⟩<;>intro a w1 live S E D C' h0 hk hW
   ·have l3:=Reg.not_live C' h0 (j:=3) rfl rfl;have l6:=Reg.not_live C' l3 (j:=6) rfl rfl;have l10:=Reg.not_live C' l6 (j:=10) rfl rfl;have l11:=Reg.not_live C' l10 (j:=11) rfl rfl;have e3:a.eval (.tmp 3)=v6:=hW.t3 l11;exact Rgs.val rfl (Reg.wanted_free rfl) (v6) (by have c:=Reg.consts a;generalize a.eval=ρ at *;simp[execOp,go_sem,c.1,c.2,e3]) (HV6.out.on hW.on) (hW.upd (Below.refl _ _) 0 39 _)
   ·have eb:a.eval (.tmp 5)=.pointer (some ⟨gx,0,none⟩):=E 5 rfl;exact Rgs.va (.pointer (some ⟨gx,3,none⟩)) (hW.upd (Below.refl _ _) 1 40 _)
   ·have d0:_=_:=D 1 rfl _ _ rfl rfl;have hc:=(hW.on.cell (p:=⟨gx,3,none⟩) (Nat.lt_of_lt_of_le GX.out HB6.out.size)).trans ((HF.out w6 HB6.out 3 _ rfl));exact Rgs.va (.bool sc) (hW.upd (Below.refl _ _) 2 41 _)
   ·have hA:BtS (LH) (a.eval (.tmp 39)) w1:=D 0 rfl _ _ rfl rfl;have dB:a.eval (.tmp 41)=.bool sc:=D 2 rfl _ _ rfl rfl;generalize hv:a.eval (.tmp 39)=vA at hA;refine Rgs.call rfl (Reg.wanted_free rfl) 27 #[vA,.bool sc] (by have c:=Reg.consts a;generalize a.eval=ρ at *;simp[execOp,go_sem,c.1,c.2,hv,dB]) ?_;refine(flag_bt (LH) vA sc w1 hA (by have h1:=BND.out;have h4:=enc_few _ (fl_in sc);have h5:=enc_few _ (fl_in st);(try simp only[List.length_append]);omega)).mono ?_;rintro e w5⟨v5,rfl,hB,hb5⟩;exact⟨_,rfl,hB,(hW.upd hb5 3 42 _ (by decide) (by decide)),fun jq vq _ hq=>by
     revert hq
     match jq with
     | 0=>exact fun hq=>hq.on hb5
     | 3=>exact fun hq=>hq.on hb5
     | 6=>exact fun hq=>hq.on hb5
     | 10=>exact fun hq=>hq.on hb5
     | 11=>exact fun hq=>hq.on hb5
     | 1 | 2 | 4 | 5 | 7 | 8 | 9 | _+12=>exact fun hq=>hq⟩
   ·have eb:a.eval (.tmp 5)=.pointer (some ⟨gx,0,none⟩):=E 5 rfl;exact Rgs.va (.pointer (some ⟨gx,4,none⟩)) (hW.upd (Below.refl _ _) 4 43 _)
   ·have d0:_=_:=D 4 rfl _ _ rfl rfl;have hc:=(hW.on.cell (p:=⟨gx,4,none⟩) (Nat.lt_of_lt_of_le GX.out HB6.out.size)).trans ((HF.out w6 HB6.out 4 _ rfl));exact Rgs.va (.bool st) (hW.upd (Below.refl _ _) 5 44 _)
   ·have hA:BtS (LH++Num.enc (fl sc)) (a.eval (.tmp 42)) w1:=D 3 rfl _ _ rfl rfl;have dB:a.eval (.tmp 44)=.bool st:=D 5 rfl _ _ rfl rfl;generalize hv:a.eval (.tmp 42)=vA at hA;refine Rgs.call rfl (Reg.wanted_free rfl) 27 #[vA,.bool st] (by have c:=Reg.consts a;generalize a.eval=ρ at *;simp[execOp,go_sem,c.1,c.2,hv,dB]) ?_;refine(flag_bt (LH++Num.enc (fl sc)) vA st w1 hA (by have h1:=BND.out;have h4:=enc_few _ (fl_in sc);have h5:=enc_few _ (fl_in st);(try simp only[List.length_append]);omega)).mono ?_;rintro e w5⟨v5,rfl,hB,hb5⟩;exact⟨_,rfl,hB,(hW.upd hb5 6 45 _ (by decide) (by decide)),fun jq vq _ hq=>by
     revert hq
     match jq with
     | 0=>exact fun hq=>hq.on hb5
     | 3=>exact fun hq=>hq.on hb5
     | 6=>exact fun hq=>hq.on hb5
     | 10=>exact fun hq=>hq.on hb5
     | 11=>exact fun hq=>hq.on hb5
     | 1 | 2 | 4 | 5 | 7 | 8 | 9 | _+12=>exact fun hq=>hq⟩
   ·have eb:a.eval (.tmp 5)=.pointer (some ⟨gx,0,none⟩):=E 5 rfl;exact Rgs.va (.pointer (some ⟨gx,5,none⟩)) (hW.upd (Below.refl _ _) 7 46 _)
   ·have d0:_=_:=D 7 rfl _ _ rfl rfl;have hc:=(hW.on.cell (p:=⟨gx,5,none⟩) (Nat.lt_of_lt_of_le GX.out HB6.out.size)).trans ((HF.out w6 HB6.out 5 _ rfl));exact Rgs.va (.slice pa pn pc) (hW.upd (Below.refl _ _) 8 47 _)
   ·have d0:_=_:=D 8 rfl _ _ rfl rfl;exact Rgs.va (.int .i64 (pn:Int)) (hW.upd (Below.refl _ _) 9 48 _)
   ·have hA:BtS (LH++Num.enc (fl sc)++Num.enc (fl st)) (a.eval (.tmp 45)) w1:=D 6 rfl _ _ rfl rfl;have dB:a.eval (.tmp 48)=.int .i64 (pn:Int):=D 9 rfl _ _ rfl rfl;generalize hv:a.eval (.tmp 45)=vA at hA;refine Rgs.call rfl (Reg.wanted_free rfl) 25 #[vA,.int .i64 (pn:Int)] (by have c:=Reg.consts a;generalize a.eval=ρ at *;simp[execOp,go_sem,c.1,c.2,hv,dB]) ?_;refine(put_bt (LH++Num.enc (fl sc)++Num.enc (fl st)) vA (pn:Int) w1 hA (by have h1:=BND.out;have h4:=enc_few _ (fl_in sc);have h5:=enc_few _ (fl_in st);(try simp only[List.length_append]);omega) (by have:=NB.out;unfold In64;omega)).mono ?_;rintro e w5⟨v5,rfl,hB,hb5⟩;exact⟨_,rfl,hB,(hW.upd hb5 10 49 _ (by decide) (by decide)),fun jq vq _ hq=>by
     revert hq
     match jq with
     | 0=>exact fun hq=>hq.on hb5
     | 3=>exact fun hq=>hq.on hb5
     | 6=>exact fun hq=>hq.on hb5
     | 10=>exact fun hq=>hq.on hb5
     | 11=>exact fun hq=>hq.on hb5
     | 1 | 2 | 4 | 5 | 7 | 8 | 9 | _+12=>exact fun hq=>hq⟩
   have hA:BtS (LH++Num.enc (fl sc)++Num.enc (fl st)++Num.enc (pn:Int)) (a.eval (.tmp 49)) w1:=D 10 rfl _ _ rfl rfl;generalize hv:a.eval (.tmp 49)=vA at hA;exact Rgs.val rfl (Reg.wanted_free rfl) vA (by have c:=Reg.consts a;generalize a.eval=ρ at *;simp[execOp,go_sem,c.1,c.2,hv]) hA ⟨hW.on,fun e=>absurd e (by rw[Rgs.upd_self];decide)⟩
  intro a w7 live hs hd E Dv Hl hW;obtain⟨v7,hv9,he9⟩:=Dv 11 _ rfl;have e3:a.eval (.tmp 3)=v7:=he9 3 rfl;rw[Rgs.act_ws a _ _ hs hd E [39,40,41,42,43,44,45,46,47,48,49,3] (by kernel_rfl)];simp only[List.foldl,List.setIfInBounds_toArray,List.set_cons_succ,List.set_cons_zero,e3];have HV7:Hid (BtS (LF) v7 w7):=hid (by rw[EF.out];exact hv9);have HX7:=hid hW.on;clear E Dv Hl hW e3 he9 hv9;generalize a.eval=ρ7;clear a hs hd;have HB7:=hid (HB6.out.trans (HX7.out.mono HB6.out.size));clear HB6 HX7 HV6 EF;obtain⟨QF,q0,qs,qe,qb⟩:=fold_fn procB 18 L (fun q hq l=>procB_few (PI.out.pr q hq) l) LF;have hll:L.length=pn:=PI.out.len;have hpn:pn≤3:=PI.out.few;rw[hll] at qe qb;have HQ0:=hid q0;have HQS:=hid qs;have HQE:=hid (qe.trans EQ.out.symm);have HQB:Hid (∀ j,j≤pn→(QF j).length≤1300):=hid fun j hj=>by have h1:=qb j hj;have h2:=BND.out.2.2.1;omega
  clear q0 qs qe qb hll EQ;have f5:=HF.out w7 HB7.out 5 _ rfl;go_wp2_with fail;clear f5;go_loopw [3,7,53] (fun q _ s wx=>∃(j:Nat) (A:Option Addr) (n c:Nat),j≤pn∧s=.int .i64 j∧q=.slice A n c∧BtS (QF j) (.slice A n c) wx∧Below w5.heap.size w5 wx) (fun _ _ s _=>pn - (intOf s).toNat)
  case atStart =>
   obtain⟨A,c,rfl,hr⟩:=HV7.out;exact⟨0,A,_,c,by omega,rfl,rfl,by rw[HQ0.out];exact⟨A,c,rfl,hr⟩,HB7.out⟩
  obtain⟨j,A,na,ca,hj,rfl,rfl,hv,hb⟩:=hrel;have HV:=hid hv;clear hv HV7;by_cases hlj:j < pn
  ·obtain⟨ap,q,rfl,hap,hq,e0,ek⟩:=(PR5.out.on hb).at_ prc_len (by omega) hlj;have e0:=e0 _ rfl;have e1:=ek 1 _ (by omega) rfl;have QI:=hid (PI.out.pr q (List.mem_of_getElem? hq));have EQ:=hid (HQS.out j q hq);have QB:=hid (HQB.out j hj);obtain⟨qe,qp⟩:=q;dsimp only at e0 e1 QI EQ;have hbx:=bl1 wr (.cells #[.int .i64 qe,.int .i64 qp] 59);have hby:=hb.trans (hbx.mono hb.size);have hvy:=HV.out.on hbx;have f:∀ o v,(#[Value.int .i64 qe,.int .i64 qp]:Array Value)[o]? = some v→(wr.alloc (.cells #[.int .i64 qe,.int .i64 qp] 59)).cell? ⟨wr.heap.size,o,none⟩=some v:=fun o v hv=>(World.cell?_alloc_mark _ _ _ _ _).trans hv;have hgy:wr.heap.size < (wr.alloc (.cells #[.int .i64 qe,.int .i64 qp] 59)).heap.size:=by simp
   clear ek hap hq hbx HV;go_upto_region 10 with fail;generalize wr.alloc (.cells #[.int .i64 qe,.int .i64 qp] 59)=w8 at hby hvy f hgy ⊢;generalize wr.heap.size=gy at f hgy ⊢;have HV8:=hid hvy;have HB8:=hid hby
   have GY:=hid hgy;have HFY:=hid f;clear hby hvy hgy f e0 e1 hb;refine Rgs.region (by kernel_rfl) (by kernel_rfl) (fun(opn:Nat) (vl:Value) (wv:World)=>match opn with
     | 0=>BtS (QF j) vl wv
     | 1=>vl=.pointer (some ⟨gy,0,none⟩)
     | 2=>vl=.int .i64 qe
     | 3=>BtS (QF j++Num.enc qe) vl wv
     | 4=>vl=.pointer (some ⟨gy,1,none⟩)
     | 5=>vl=.int .i64 qp
     | 6=>BtS (QF j++Num.enc qe++Num.enc qp) vl wv
     | 7=>BtS (QF j++Num.enc qe++Num.enc qp) vl wv
     | _=>True) (ByW 7 w8 (.slice A na ca)) ⟨(Below.refl _ _).drew,fun _=>rfl⟩ (Rgs.steps_of ?_) ?_
   ·refine⟨?_,?_,?_,?_,?_,?_,?_,?_,trivial⟩<;>intro a w1 live S E D C' h0 hk hW
    ·have l3:=Reg.not_live C' h0 (j:=3) rfl rfl;have l6:=Reg.not_live C' l3 (j:=6) rfl rfl;have l7:=Reg.not_live C' l6 (j:=7) rfl rfl;have e3:a.eval (.tmp 3)=.slice A na ca:=hW.t3 l7;exact Rgs.val rfl (Reg.wanted_free rfl) (.slice A na ca) (by have c:=Reg.consts a;generalize a.eval=ρ at *;simp[execOp,go_sem,c.1,c.2,e3]) (HV8.out.on hW.on) (hW.upd (Below.refl _ _) 0 57 _)
    ·have eb:a.eval (.tmp 7)=.pointer (some ⟨gy,0,none⟩):=E 7 rfl;exact Rgs.va (.pointer (some ⟨gy,0,none⟩)) (hW.upd (Below.refl _ _) 1 58 _)
    ·have d0:_=_:=D 1 rfl _ _ rfl rfl;have hc:=(hW.on.cell (p:=⟨gy,0,none⟩) (GY.out)).trans ((HFY.out 0 _ rfl));exact Rgs.va (.int .i64 qe) (hW.upd (Below.refl _ _) 2 59 _)
    ·have hA:BtS (QF j) (a.eval (.tmp 57)) w1:=D 0 rfl _ _ rfl rfl;have dB:a.eval (.tmp 59)=.int .i64 qe:=D 2 rfl _ _ rfl rfl;generalize hv:a.eval (.tmp 57)=vA at hA;refine Rgs.call rfl (Reg.wanted_free rfl) 25 #[vA,.int .i64 qe] (by have c:=Reg.consts a;generalize a.eval=ρ at *;simp[execOp,go_sem,c.1,c.2,hv,dB]) ?_;refine(put_bt (QF j) vA qe w1 hA (by have h1:=QB.out;have h2:=enc_few _ QI.out.1;(try simp only[List.length_append]);omega) (QI.out.1)).mono ?_;rintro e w5⟨v5,rfl,hB,hb5⟩;exact⟨_,rfl,hB,(hW.upd hb5 3 60 _ (by decide) (by decide)),fun jq vq _ hq=>by
      revert hq
      match jq with
      | 0=>exact fun hq=>hq.on hb5
      | 3=>exact fun hq=>hq.on hb5
      | 6=>exact fun hq=>hq.on hb5
      | 7=>exact fun hq=>hq.on hb5
      | 1 | 2 | 4 | 5 | _+8=>exact fun hq=>hq⟩
    ·have eb:a.eval (.tmp 7)=.pointer (some ⟨gy,0,none⟩):=E 7 rfl;exact Rgs.va (.pointer (some ⟨gy,1,none⟩)) (hW.upd (Below.refl _ _) 4 61 _)
    ·have d0:_=_:=D 4 rfl _ _ rfl rfl;have hc:=(hW.on.cell (p:=⟨gy,1,none⟩) (GY.out)).trans ((HFY.out 1 _ rfl));exact Rgs.va (.int .i64 qp) (hW.upd (Below.refl _ _) 5 62 _)
    ·have hA:BtS (QF j++Num.enc qe) (a.eval (.tmp 60)) w1:=D 3 rfl _ _ rfl rfl;have dB:a.eval (.tmp 62)=.int .i64 qp:=D 5 rfl _ _ rfl rfl;generalize hv:a.eval (.tmp 60)=vA at hA;refine Rgs.call rfl (Reg.wanted_free rfl) 25 #[vA,.int .i64 qp] (by have c:=Reg.consts a;generalize a.eval=ρ at *;simp[execOp,go_sem,c.1,c.2,hv,dB]) ?_;refine(put_bt (QF j++Num.enc qe) vA qp w1 hA (by have h1:=QB.out;have h2:=enc_few _ QI.out.1;(try simp only[List.length_append]);omega) (QI.out.2)).mono ?_;rintro e w5⟨v5,rfl,hB,hb5⟩;exact⟨_,rfl,hB,(hW.upd hb5 6 63 _ (by decide) (by decide)),fun jq vq _ hq=>by
      revert hq
      match jq with
      | 0=>exact fun hq=>hq.on hb5
      | 3=>exact fun hq=>hq.on hb5
      | 6=>exact fun hq=>hq.on hb5
      | 7=>exact fun hq=>hq.on hb5
      | 1 | 2 | 4 | 5 | _+8=>exact fun hq=>hq⟩
    have hA:BtS (QF j++Num.enc qe++Num.enc qp) (a.eval (.tmp 63)) w1:=D 6 rfl _ _ rfl rfl;generalize hv:a.eval (.tmp 63)=vA at hA;exact Rgs.val rfl (Reg.wanted_free rfl) vA (by have c:=Reg.consts a;generalize a.eval=ρ at *;simp[execOp,go_sem,c.1,c.2,hv]) hA ⟨hW.on,fun e=>absurd e (by rw[Rgs.upd_self];decide)⟩
   intro a w9 live hs hd E Dv Hl hW;obtain⟨v9,hv9,he9⟩:=Dv 7 _ rfl;have e3:a.eval (.tmp 3)=v9:=he9 3 rfl;rw[Rgs.act_ws a _ _ hs hd E [57,58,59,60,61,62,63,3] (by kernel_rfl)];simp only[List.foldl,List.setIfInBounds_toArray,List.set_cons_succ,List.set_cons_zero,e3];have HV9:Hid (BtS (QF (j+1)) v9 w9):=hid (by rw[EQ.out];exact hv9);have HX9:=hid hW.on;clear E Dv Hl hW e3 he9 hv9;generalize a.eval=ρ9;clear a hs hd;have HB9:=hid (HB8.out.trans (HX9.out.mono HB8.out.size));obtain⟨A9,c9,rfl,hr9⟩:=HV9.out;have HR9:=hid hr9;clear HX9 HV8 HV9 hr9 HB8 EQ QI QB HFY GY;go_wp2_with fail;go_roundw
   case rel=>exact⟨j+1,A9,_,c9,by omega,by go_num,rfl,⟨A9,c9,rfl,HR9.out⟩,HB9.out⟩
   simp[intOf];omega
  have hlj':¬ (j:Int) < (pn:Int):=by omega
  have HV8:Hid (BtS LQ (.slice A na ca) wr):=hid (by
   have h:=HV.out;rw[show j=pn by omega,HQE.out] at h;exact h)
  have f6:=HF.out wr hb 6 _ rfl;have f7:=HF.out wr hb 7 _ rfl;have f8:=HF.out wr hb 8 _ rfl;have f9:=HF.out wr hb 9 _ rfl;have f10:=HF.out wr hb 10 _ rfl;have HB8:=hid hb;clear HV HQ0 HQS HQE HQB;go_wp2_with fail;clear f6 f7 f8 f9 f10 hb;have hz:∀ k:Nat,k < 5→∀ W,(Instr.index 55 (.agg #[Value.int .i64 h0,.int .i64 h1,.int .i64 h2,.int .i64 h3,.int .i64 h4]) (.int .i64 (k:Int))).run Tryz.prog W=.ok (.int .i64 (hv5 ⟨nm,bu,pe,sc,st,pa,pn,pc,h0,h1,h2,h3,h4⟩ k)) W:=fun k hk=>by
   rcases(by omega:k=0∨k=1∨k=2∨k=3∨k=4) with rfl | rfl | rfl | rfl | rfl <;> exact fun W=>by simp[Instr.index,go_sem,hv5]
  have HZ:=hid hz;have HGI:Hid (∀ k,In64 (hv5 ⟨nm,bu,pe,sc,st,pa,pn,pc,h0,h1,h2,h3,h4⟩ k)):=hid PI.out.hl;have HGS:=hid fun k=>healB_succ LQ ⟨nm,bu,pe,sc,st,pa,pn,pc,h0,h1,h2,h3,h4⟩ k;have HGB:Hid (∀ k,k≤5→(healB LQ ⟨nm,bu,pe,sc,st,pa,pn,pc,h0,h1,h2,h3,h4⟩ k).length≤1400):=hid fun k hk=>by
   have h1:=healB_few PI.out k LQ;have h2:=BND.out.2.2.2;dsimp only at h1;omega
  have HG0:Hid (healB LQ ⟨nm,bu,pe,sc,st,pa,pn,pc,h0,h1,h2,h3,h4⟩ 0=LQ):=hid rfl;generalize healB LQ ⟨nm,bu,pe,sc,st,pa,pn,pc,h0,h1,h2,h3,h4⟩=GF at HGS HGB HG0 PX;generalize hv5 ⟨nm,bu,pe,sc,st,pa,pn,pc,h0,h1,h2,h3,h4⟩=hf at HZ HGI HGS;clear hz;go_loopw [3,9,67] (fun q _ s wx=>∃(j:Nat) (A:Option Addr) (n c:Nat),j≤5∧s=.int .i64 j∧q=.slice A n c∧BtS (GF j) (.slice A n c) wx∧Below w5.heap.size w5 wx) (fun _ _ s _=>5 - (intOf s).toNat)
  case atStart=>exact⟨0,A,na,ca,by omega,rfl,rfl,by rw[HG0.out];exact HV8.out,HB8.out⟩
  obtain⟨k,A,na,ca,hk,rfl,rfl,hv,hb⟩:=hrel;have HV:=hid hv;clear hv HV8 HB8;by_cases hk5:k < 5
  ·have hz:=HZ.out k hk5;have hgs:=HGS.out k;have hgi:=HGI.out k;have GB:=hid (HGB.out k hk);clear HZ HGS HGI HGB HG0;generalize hf k=z at hz hgs hgi;have GS:=hid hgs;have GI:=hid hgi;have hk5':(k:Int) < 5:=by omega
   clear hgs hgi;go_wp2_with fail;refine(put_bt (GF k) _ z wr HV.out (by have:=GB.out;omega) GI.out).mono ?_;rintro e w9⟨v9,rfl,hv9,hb9⟩;rw[← GS.out] at hv9;obtain⟨A9,c9,rfl,hr9⟩:=hv9;have HR9:=hid hr9;have HB9:=hid (hb.trans (hb9.mono hb.size));clear hr9 hb9 hz GS GI GB HV hb;go_wp2_with fail;go_roundw
   case rel=>exact⟨k+1,A9,_,c9,by omega,by go_num,rfl,⟨A9,c9,rfl,HR9.out⟩,HB9.out⟩
   simp[intOf];omega
  have hk5':¬ (k:Int) < 5:=by omega
  have HV9:Hid (BtS (PF (i+1)) (.slice A na ca) wr):=hid (by
   have h:=HV.out;rw[show k=5 by omega,← PX.out] at h;exact h)
  have HB9:=hid (HB5.out.trans (hb.mono HB5.out.size));clear HZ HGS HGI HGB HG0 HV hb;go_wp2_with fail;go_roundw
  case rel=>exact⟨i+1,A,na,ca,by omega,by go_num,rfl,HV9.out,HB9.out⟩
  simp[intOf];omega
 have hlt':¬ (i:Int) < (n1:Int):=by omega
 have hie:i=n1:=by omega
 have HV3:Hid (BtS (PF n1) (.slice A na ca) wr):=hid (by
  have h:=HV.out;rw[hie] at h;exact h)
 have PB:=hid (HPB.out n1 (Nat.le_refl _));have HB3:=hid hb;obtain⟨m0,m1,m2⟩:=HBX.out _ hb;clear HV hie HPS HPB HPI HPP hb;go_wp2_with fail;clear m0 m1 m2;refine(put_bt (PF n1) _ (n2:Int) wr HV3.out (by have:=PB.out;omega) (by unfold In64;omega)).mono ?_;rintro e w4⟨v4,rfl,hv4,hb4⟩;rw[← HC0.out] at hv4;have HV4:=hid hv4;have HB4:=hid (HB3.out.trans (hb4.mono HB3.out.size));clear hv4 hb4 HV3 HB3 HC0;obtain⟨m0,m1,m2⟩:=HBX.out _ HB4.out;go_wp2_with fail;clear m0 m1 m2;go_loopw [3,11,83] (fun q _ s wx=>∃(i:Nat) (A:Option Addr) (n c:Nat),i≤n2∧s=.int .i64 i∧q=.slice A n c∧BtS (CF i) (.slice A n c) wx∧Below W0.heap.size W0 wx) (fun _ _ s _=>n2 - (intOf s).toNat)
 case atStart =>
  obtain⟨A,c,rfl,hr⟩:=HV4.out;exact⟨0,A,_,c,by omega,rfl,rfl,⟨A,c,rfl,hr⟩,HB4.out⟩
 obtain⟨j,A,na,ca,hj,rfl,rfl,hv,hb⟩:=hrel;have HV:=hid hv;clear hv HV4 HB4;by_cases hlj:j < n2
 ·obtain⟨ac,x,rfl,hac,hx,d0,ck⟩:=(HCC.out.on (HW.out _ hb)).at_ cc_len (by omega) hlj;have d0:=d0 _ rfl;have d1:=ck 1 _ (by omega) rfl;have d2:=ck 2 _ (by omega) rfl;have d3:=ck 3 _ (by omega) rfl;have d4:=ck 4 _ (by omega) rfl;have d5:=ck 5 _ (by omega) rfl;have CI:=hid (HCI.out j x hx);obtain⟨LA,hLA⟩:∃ l,l=chanA (CF j) x:=⟨_,rfl⟩;have EC:Hid (CF (j+1)=LA++Num.enc x.cap++Num.enc (IntKind.i64.wrap x.max)++Num.enc x.late):=hid (by rw[HCS.out j x hx,hLA];rfl);have EA:=hid hLA;have CB:Hid ((CF j).length≤2000∧LA.length≤2027):=hid (by have h1:=HCB.out j hj;have h2:=chanA_few CI.out (CF j);rw[hLA];omega);obtain⟨xf,xt,xq,xc,xm,xl⟩:=x;dsimp only at d0 d1 d2 d3 d4 d5 CI EC EA;have CE:Hid ((Num.enc xf).length≤9∧(Num.enc xt).length≤9∧(Num.enc xc).length≤9∧(Num.enc (IntKind.i64.wrap xm)).length≤9):=hid ⟨enc_few _ CI.out.fr,enc_few _ CI.out.tt,enc_few _ CI.out.cap,enc_few _ (wrap_in _)⟩;have hbx:=bl1 wr (.cells #[.int .i64 xf,.int .i64 xt,.bool xq,.int .i64 xc,.int .u32 xm,.int .i64 xl] 63);have hby:=hb.trans (hbx.mono hb.size);have hvy:=HV.out.on hbx;have f:∀ o v,(#[Value.int .i64 xf,.int .i64 xt,.bool xq,.int .i64 xc,.int .u32 xm,.int .i64 xl]:Array Value)[o]? = some v→(wr.alloc (.cells #[.int .i64 xf,.int .i64 xt,.bool xq,.int .i64 xc,.int .u32 xm,.int .i64 xl] 63)).cell? ⟨wr.heap.size,o,none⟩=some v:=fun o v hv=>(World.cell?_alloc_mark _ _ _ _ _).trans hv;have hgy:wr.heap.size < (wr.alloc (.cells #[.int .i64 xf,.int .i64 xt,.bool xq,.int .i64 xc,.int .u32 xm,.int .i64 xl] 63)).heap.size:=by simp
  clear ck hac hx hbx HV hLA;go_upto_region 22 with fail;generalize wr.alloc (.cells #[.int .i64 xf,.int .i64 xt,.bool xq,.int .i64 xc,.int .u32 xm,.int .i64 xl] 63)=w8 at hby hvy f hgy ⊢;generalize wr.heap.size=gy at f hgy ⊢;have HV8:=hid hvy;have HB8:=hid hby
  have GY:=hid hgy;have HFY:=hid fun V (hv:Below w8.heap.size w8 V) o v hq=>(hv.cell (p:=⟨gy,o,none⟩) hgy).trans (f o v hq);clear hby hvy hgy f d0 d1 d2 d3 d4 d5 hb;refine Rgs.region (by kernel_rfl) (by kernel_rfl) (fun(opn:Nat) (vl:Value) (wv:World)=>match opn with
    | 0=>BtS (CF j) vl wv
    | 1=>vl=.pointer (some ⟨gy,0,none⟩)
    | 2=>vl=.int .i64 xf
    | 3=>BtS (CF j++Num.enc xf) vl wv
    | 4=>vl=.pointer (some ⟨gy,1,none⟩)
    | 5=>vl=.int .i64 xt
    | 6=>BtS (CF j++Num.enc xf++Num.enc xt) vl wv
    | 7=>vl=.pointer (some ⟨gy,2,none⟩)
    | 8=>vl=.bool xq
    | 9=>BtS (CF j++Num.enc xf++Num.enc xt++Num.enc (fl xq)) vl wv
    | 10=>BtS (CF j++Num.enc xf++Num.enc xt++Num.enc (fl xq)) vl wv
    | _=>True) (ByW 10 w8 (.slice A na ca)) ⟨(Below.refl _ _).drew,fun _=>rfl⟩ (Rgs.steps_of ?_) ?_
  ·refine⟨?_,?_,?_,?_,?_,?_,?_,?_,?_,?_,?_,trivial⟩<;>intro a w1 live S E D C' h0 hk hW
   ·have l3:=Reg.not_live C' h0 (j:=3) rfl rfl;have l6:=Reg.not_live C' l3 (j:=6) rfl rfl;have l9:=Reg.not_live C' l6 (j:=9) rfl rfl;have l10:=Reg.not_live C' l9 (j:=10) rfl rfl;have e3:a.eval (.tmp 3)=.slice A na ca:=hW.t3 l10;exact Rgs.val rfl (Reg.wanted_free rfl) (.slice A na ca) (by have c:=Reg.consts a;generalize a.eval=ρ at *;simp[execOp,go_sem,c.1,c.2,e3]) (HV8.out.on hW.on) (hW.upd (Below.refl _ _) 0 87 _)
   ·have eb:a.eval (.tmp 11)=.pointer (some ⟨gy,0,none⟩):=E 11 rfl;exact Rgs.va (.pointer (some ⟨gy,0,none⟩)) (hW.upd (Below.refl _ _) 1 88 _)
   ·have d0:_=_:=D 1 rfl _ _ rfl rfl;have hc:=(hW.on.cell (p:=⟨gy,0,none⟩) (GY.out)).trans ((HFY.out w8 (Below.refl _ _) 0 _ rfl));exact Rgs.va (.int .i64 xf) (hW.upd (Below.refl _ _) 2 89 _)
   ·have hA:BtS (CF j) (a.eval (.tmp 87)) w1:=D 0 rfl _ _ rfl rfl;have dB:a.eval (.tmp 89)=.int .i64 xf:=D 2 rfl _ _ rfl rfl;generalize hv:a.eval (.tmp 87)=vA at hA;refine Rgs.call rfl (Reg.wanted_free rfl) 25 #[vA,.int .i64 xf] (by have c:=Reg.consts a;generalize a.eval=ρ at *;simp[execOp,go_sem,c.1,c.2,hv,dB]) ?_;refine(put_bt (CF j) vA xf w1 hA (by have h1:=CB.out;have h2:=CE.out;(try simp only[List.length_append]);omega) (CI.out.fr)).mono ?_;rintro e w5⟨v5,rfl,hB,hb5⟩;exact⟨_,rfl,hB,(hW.upd hb5 3 90 _ (by decide) (by decide)),fun jq vq _ hq=>by
     revert hq
     match jq with
     | 0=>exact fun hq=>hq.on hb5
     | 3=>exact fun hq=>hq.on hb5
     | 6=>exact fun hq=>hq.on hb5
     | 9=>exact fun hq=>hq.on hb5
     | 10=>exact fun hq=>hq.on hb5
     | 1 | 2 | 4 | 5 | 7 | 8 | _+11=>exact fun hq=>hq⟩
   ·have eb:a.eval (.tmp 11)=.pointer (some ⟨gy,0,none⟩):=E 11 rfl;exact Rgs.va (.pointer (some ⟨gy,1,none⟩)) (hW.upd (Below.refl _ _) 4 91 _)
   ·have d0:_=_:=D 4 rfl _ _ rfl rfl;have hc:=(hW.on.cell (p:=⟨gy,1,none⟩) (GY.out)).trans ((HFY.out w8 (Below.refl _ _) 1 _ rfl));exact Rgs.va (.int .i64 xt) (hW.upd (Below.refl _ _) 5 92 _)
   ·have hA:BtS (CF j++Num.enc xf) (a.eval (.tmp 90)) w1:=D 3 rfl _ _ rfl rfl;have dB:a.eval (.tmp 92)=.int .i64 xt:=D 5 rfl _ _ rfl rfl;generalize hv:a.eval (.tmp 90)=vA at hA;refine Rgs.call rfl (Reg.wanted_free rfl) 25 #[vA,.int .i64 xt] (by have c:=Reg.consts a;generalize a.eval=ρ at *;simp[execOp,go_sem,c.1,c.2,hv,dB]) ?_;refine(put_bt (CF j++Num.enc xf) vA xt w1 hA (by have h1:=CB.out;have h2:=CE.out;(try simp only[List.length_append]);omega) (CI.out.tt)).mono ?_;rintro e w5⟨v5,rfl,hB,hb5⟩;exact⟨_,rfl,hB,(hW.upd hb5 6 93 _ (by decide) (by decide)),fun jq vq _ hq=>by
     revert hq
     match jq with
     | 0=>exact fun hq=>hq.on hb5
     | 3=>exact fun hq=>hq.on hb5
     | 6=>exact fun hq=>hq.on hb5
     | 9=>exact fun hq=>hq.on hb5
     | 10=>exact fun hq=>hq.on hb5
     | 1 | 2 | 4 | 5 | 7 | 8 | _+11=>exact fun hq=>hq⟩
   ·have eb:a.eval (.tmp 11)=.pointer (some ⟨gy,0,none⟩):=E 11 rfl;exact Rgs.va (.pointer (some ⟨gy,2,none⟩)) (hW.upd (Below.refl _ _) 7 94 _)
   ·have d0:_=_:=D 7 rfl _ _ rfl rfl;have hc:=(hW.on.cell (p:=⟨gy,2,none⟩) (GY.out)).trans ((HFY.out w8 (Below.refl _ _) 2 _ rfl));exact Rgs.va (.bool xq) (hW.upd (Below.refl _ _) 8 95 _)
   ·have hA:BtS (CF j++Num.enc xf++Num.enc xt) (a.eval (.tmp 93)) w1:=D 6 rfl _ _ rfl rfl;have dB:a.eval (.tmp 95)=.bool xq:=D 8 rfl _ _ rfl rfl;generalize hv:a.eval (.tmp 93)=vA at hA;refine Rgs.call rfl (Reg.wanted_free rfl) 27 #[vA,.bool xq] (by have c:=Reg.consts a;generalize a.eval=ρ at *;simp[execOp,go_sem,c.1,c.2,hv,dB]) ?_;refine(flag_bt (CF j++Num.enc xf++Num.enc xt) vA xq w1 hA (by have h1:=CB.out;have h2:=CE.out;(try simp only[List.length_append]);omega)).mono ?_;rintro e w5⟨v5,rfl,hB,hb5⟩;exact⟨_,rfl,hB,(hW.upd hb5 9 96 _ (by decide) (by decide)),fun jq vq _ hq=>by
     revert hq
     match jq with
     | 0=>exact fun hq=>hq.on hb5
     | 3=>exact fun hq=>hq.on hb5
     | 6=>exact fun hq=>hq.on hb5
     | 9=>exact fun hq=>hq.on hb5
     | 10=>exact fun hq=>hq.on hb5
     | 1 | 2 | 4 | 5 | 7 | 8 | _+11=>exact fun hq=>hq⟩
   have hA:BtS (CF j++Num.enc xf++Num.enc xt++Num.enc (fl xq)) (a.eval (.tmp 96)) w1:=D 9 rfl _ _ rfl rfl;generalize hv:a.eval (.tmp 96)=vA at hA;exact Rgs.val rfl (Reg.wanted_free rfl) vA (by have c:=Reg.consts a;generalize a.eval=ρ at *;simp[execOp,go_sem,c.1,c.2,hv]) hA ⟨hW.on,fun e=>absurd e (by rw[Rgs.upd_self];decide)⟩
  intro a w9 live hs hd E Dv Hl hW;obtain⟨v9,hv9,he9⟩:=Dv 10 _ rfl;have e3:a.eval (.tmp 3)=v9:=he9 3 rfl;rw[Rgs.act_ws a _ _ hs hd E [87,88,89,90,91,92,93,94,95,96,3] (by kernel_rfl)];simp only[List.foldl,List.setIfInBounds_toArray,List.set_cons_succ,List.set_cons_zero,e3];have HV9:Hid (BtS (LA) v9 w9):=hid (by rw[EA.out];exact hv9);have HX9:=hid hW.on;clear E Dv Hl hW e3 he9 hv9;generalize a.eval=ρ9;clear a hs hd;have HB9:=hid (HB8.out.trans (HX9.out.mono HB8.out.size));clear HV8;go_upto_region 23 with fail;refine Rgs.region (by kernel_rfl) (by kernel_rfl) (fun(opn:Nat) (vl:Value) (wv:World)=>match opn with
    | 0=>BtS (LA) vl wv
    | 1=>vl=.pointer (some ⟨gy,3,none⟩)
    | 2=>vl=.int .i64 xc
    | 3=>BtS (LA++Num.enc xc) vl wv
    | 4=>vl=.pointer (some ⟨gy,4,none⟩)
    | 5=>vl=.int .u32 xm
    | 6=>vl=.int .i64 (IntKind.i64.wrap xm)
    | 7=>BtS (LA++Num.enc xc++Num.enc (IntKind.i64.wrap xm)) vl wv
    | 8=>vl=.pointer (some ⟨gy,5,none⟩)
    | 9=>vl=.int .i64 xl
    | 10=>BtS (LA++Num.enc xc++Num.enc (IntKind.i64.wrap xm)++Num.enc xl) vl wv
    | 11=>BtS (LA++Num.enc xc++Num.enc (IntKind.i64.wrap xm)++Num.enc xl) vl wv
    | _=>True) (ByW 11 w9 (v9)) ⟨(Below.refl _ _).drew,fun _=>rfl⟩ (Rgs.steps_of ?_) ?_
  ·refine⟨?_,?_,?_,?_,?_,?_,?_,?_,?_,?_,?_,?_,trivial⟩<;>intro a w1 live S E D C' h0 hk hW
   ·have l3:=Reg.not_live C' h0 (j:=3) rfl rfl;have l7:=Reg.not_live C' l3 (j:=7) rfl rfl;have l10:=Reg.not_live C' l7 (j:=10) rfl rfl;have l11:=Reg.not_live C' l10 (j:=11) rfl rfl;have e3:a.eval (.tmp 3)=v9:=hW.t3 l11;exact Rgs.val rfl (Reg.wanted_free rfl) (v9) (by have c:=Reg.consts a;generalize a.eval=ρ at *;simp[execOp,go_sem,c.1,c.2,e3]) (HV9.out.on hW.on) (hW.upd (Below.refl _ _) 0 97 _)
   ·have eb:a.eval (.tmp 11)=.pointer (some ⟨gy,0,none⟩):=E 11 rfl;exact Rgs.va (.pointer (some ⟨gy,3,none⟩)) (hW.upd (Below.refl _ _) 1 98 _)
   ·have d0:_=_:=D 1 rfl _ _ rfl rfl;have hc:=(hW.on.cell (p:=⟨gy,3,none⟩) (Nat.lt_of_lt_of_le GY.out HX9.out.size)).trans ((HFY.out w9 (HX9.out) 3 _ rfl));exact Rgs.va (.int .i64 xc) (hW.upd (Below.refl _ _) 2 99 _)
   ·have hA:BtS (LA) (a.eval (.tmp 97)) w1:=D 0 rfl _ _ rfl rfl;have dB:a.eval (.tmp 99)=.int .i64 xc:=D 2 rfl _ _ rfl rfl;generalize hv:a.eval (.tmp 97)=vA at hA;refine Rgs.call rfl (Reg.wanted_free rfl) 25 #[vA,.int .i64 xc] (by have c:=Reg.consts a;generalize a.eval=ρ at *;simp[execOp,go_sem,c.1,c.2,hv,dB]) ?_;refine(put_bt (LA) vA xc w1 hA (by have h1:=CB.out;have h2:=CE.out;(try simp only[List.length_append]);omega) (CI.out.cap)).mono ?_;rintro e w5⟨v5,rfl,hB,hb5⟩;exact⟨_,rfl,hB,(hW.upd hb5 3 100 _ (by decide) (by decide)),fun jq vq _ hq=>by
     revert hq
     match jq with
     | 0=>exact fun hq=>hq.on hb5
     | 3=>exact fun hq=>hq.on hb5
     | 7=>exact fun hq=>hq.on hb5
     | 10=>exact fun hq=>hq.on hb5
     | 11=>exact fun hq=>hq.on hb5
     | 1 | 2 | 4 | 5 | 6 | 8 | 9 | _+12=>exact fun hq=>hq⟩
   ·have eb:a.eval (.tmp 11)=.pointer (some ⟨gy,0,none⟩):=E 11 rfl;exact Rgs.va (.pointer (some ⟨gy,4,none⟩)) (hW.upd (Below.refl _ _) 4 101 _)
   ·have d0:_=_:=D 4 rfl _ _ rfl rfl;have hc:=(hW.on.cell (p:=⟨gy,4,none⟩) (Nat.lt_of_lt_of_le GY.out HX9.out.size)).trans ((HFY.out w9 (HX9.out) 4 _ rfl));exact Rgs.va (.int .u32 xm) (hW.upd (Below.refl _ _) 5 102 _)
   ·have d0:_=_:=D 5 rfl _ _ rfl rfl;exact Rgs.va (.int .i64 (IntKind.i64.wrap xm)) (hW.upd (Below.refl _ _) 6 103 _)
   ·have hA:BtS (LA++Num.enc xc) (a.eval (.tmp 100)) w1:=D 3 rfl _ _ rfl rfl;have dB:a.eval (.tmp 103)=.int .i64 (IntKind.i64.wrap xm):=D 6 rfl _ _ rfl rfl;generalize hv:a.eval (.tmp 100)=vA at hA;refine Rgs.call rfl (Reg.wanted_free rfl) 25 #[vA,.int .i64 (IntKind.i64.wrap xm)] (by have c:=Reg.consts a;generalize a.eval=ρ at *;simp[execOp,go_sem,c.1,c.2,hv,dB]) ?_;refine(put_bt (LA++Num.enc xc) vA (IntKind.i64.wrap xm) w1 hA (by have h1:=CB.out;have h2:=CE.out;(try simp only[List.length_append]);omega) (wrap_in _)).mono ?_;rintro e w5⟨v5,rfl,hB,hb5⟩;exact⟨_,rfl,hB,(hW.upd hb5 7 104 _ (by decide) (by decide)),fun jq vq _ hq=>by
     revert hq
     match jq with
     | 0=>exact fun hq=>hq.on hb5
     | 3=>exact fun hq=>hq.on hb5
     | 7=>exact fun hq=>hq.on hb5
     | 10=>exact fun hq=>hq.on hb5
     | 11=>exact fun hq=>hq.on hb5
     | 1 | 2 | 4 | 5 | 6 | 8 | 9 | _+12=>exact fun hq=>hq⟩
   ·have eb:a.eval (.tmp 11)=.pointer (some ⟨gy,0,none⟩):=E 11 rfl;exact Rgs.va (.pointer (some ⟨gy,5,none⟩)) (hW.upd (Below.refl _ _) 8 105 _)
   ·have d0:_=_:=D 8 rfl _ _ rfl rfl;have hc:=(hW.on.cell (p:=⟨gy,5,none⟩) (Nat.lt_of_lt_of_le GY.out HX9.out.size)).trans ((HFY.out w9 (HX9.out) 5 _ rfl));exact Rgs.va (.int .i64 xl) (hW.upd (Below.refl _ _) 9 106 _)
   ·have hA:BtS (LA++Num.enc xc++Num.enc (IntKind.i64.wrap xm)) (a.eval (.tmp 104)) w1:=D 7 rfl _ _ rfl rfl;have dB:a.eval (.tmp 106)=.int .i64 xl:=D 9 rfl _ _ rfl rfl;generalize hv:a.eval (.tmp 104)=vA at hA;refine Rgs.call rfl (Reg.wanted_free rfl) 25 #[vA,.int .i64 xl] (by have c:=Reg.consts a;generalize a.eval=ρ at *;simp[execOp,go_sem,c.1,c.2,hv,dB]) ?_;refine(put_bt (LA++Num.enc xc++Num.enc (IntKind.i64.wrap xm)) vA xl w1 hA (by have h1:=CB.out;have h2:=CE.out;(try simp only[List.length_append]);omega) (CI.out.late)).mono ?_;rintro e w5⟨v5,rfl,hB,hb5⟩;exact⟨_,rfl,hB,(hW.upd hb5 10 107 _ (by decide) (by decide)),fun jq vq _ hq=>by
     revert hq
     match jq with
     | 0=>exact fun hq=>hq.on hb5
     | 3=>exact fun hq=>hq.on hb5
     | 7=>exact fun hq=>hq.on hb5
     | 10=>exact fun hq=>hq.on hb5
     | 11=>exact fun hq=>hq.on hb5
     | 1 | 2 | 4 | 5 | 6 | 8 | 9 | _+12=>exact fun hq=>hq⟩
   have hA:BtS (LA++Num.enc xc++Num.enc (IntKind.i64.wrap xm)++Num.enc xl) (a.eval (.tmp 107)) w1:=D 10 rfl _ _ rfl rfl;generalize hv:a.eval (.tmp 107)=vA at hA;exact Rgs.val rfl (Reg.wanted_free rfl) vA (by have c:=Reg.consts a;generalize a.eval=ρ at *;simp[execOp,go_sem,c.1,c.2,hv]) hA ⟨hW.on,fun e=>absurd e (by rw[Rgs.upd_self];decide)⟩
  intro a w10 live hs hd E Dv Hl hW;obtain⟨v10,hv9,he9⟩:=Dv 11 _ rfl;have e3:a.eval (.tmp 3)=v10:=he9 3 rfl;rw[Rgs.act_ws a _ _ hs hd E [97,98,99,100,101,102,103,104,105,106,107,3] (by kernel_rfl)];simp only[List.foldl,List.setIfInBounds_toArray,List.set_cons_succ,List.set_cons_zero,e3];have HV10:Hid (BtS (CF (j+1)) v10 w10):=hid (by rw[EC.out];exact hv9);have HX10:=hid hW.on;clear E Dv Hl hW e3 he9 hv9;generalize a.eval=ρ10;clear a hs hd;have HB10:=hid (HB9.out.trans (HX10.out.mono HB9.out.size));obtain⟨A9,c9,rfl,hr9⟩:=HV10.out;have HR9:=hid hr9;clear HX9 HX10 HV9 HV10 hr9 HB8 HB9 EC EA CB CI CE HFY GY;go_wp2_with fail;go_roundw
  case rel=>exact⟨j+1,A9,_,c9,by omega,by go_num,rfl,⟨A9,c9,rfl,HR9.out⟩,HB10.out⟩
  simp[intOf];omega
 have hlj':¬ (j:Int) < (n2:Int):=by omega
 have hje:j=n2:=by omega
 have HV3:Hid (BtS (CF n2) (.slice A na ca) wr):=hid (by
  have h:=HV.out;rw[hje] at h;exact h)
 have CB:=hid (HCB.out n2 (Nat.le_refl _));have HB3:=hid hb;obtain⟨m0,m1,m2⟩:=HBX.out _ hb;clear HV hje HCS HCB HCI HCC hb;go_wp2_with fail;clear m0 m1 m2;refine(put_bt (CF n2) _ (n3:Int) wr HV3.out (by have:=CB.out;omega) (by unfold In64;omega)).mono ?_;rintro e w4⟨v4,rfl,hv4,hb4⟩;rw[← HT0.out] at hv4;have HV4:=hid hv4;have HB4:=hid (HB3.out.trans (hb4.mono HB3.out.size));clear hv4 hb4 HV3 HB3 HT0;obtain⟨m0,m1,m2⟩:=HBX.out _ HB4.out;go_wp2_with fail;clear m0 m1 m2;go_loopw [3,13,15,117] (fun q _ _ s wx=>∃(i:Nat) (A:Option Addr) (n c:Nat),i≤n3∧s=.int .i64 i∧q=.slice A n c∧BtS (TF i) (.slice A n c) wx∧Below W0.heap.size W0 wx) (fun _ _ _ s _=>n3 - (intOf s).toNat)
 case atStart =>
  obtain⟨A,c,rfl,hr⟩:=HV4.out;exact⟨0,A,_,c,by omega,rfl,rfl,⟨A,c,rfl,hr⟩,HB4.out⟩
 obtain⟨t,A,na,ca,ht,rfl,rfl,hv,hb⟩:=hrel;have HV:=hid hv;clear hv HV4 HB4;by_cases hlt3:t < n3
 ·obtain⟨at3,y,rfl,had,hy,c0,ck⟩:=(HTB.out.on (HW.out _ hb)).at_ tcn_len (by omega) hlt3;have c0:=c0 _ rfl;rw[Nat.mul_one] at c0;have hym:=HTI.out y (List.mem_of_getElem? hy);have RN:=hid hym.1;have hyl:=hym.1.len;have hyn:=hym.2;have TS:=hid (HTS.out t y hy);have TB:=hid (HTLB.out t ht);obtain⟨NF,q0,qs,qe,qb⟩:=fold_fn nodeB 27 y.l (fun z hz l=>nodeB_few (hym.1.bd z hz) l) (TF t++Num.enc (y.n:Int));rw[hyl] at qe qb;have HN0:=hid q0;have HNS:=hid qs;have HNE:Hid (TF (t+1)=NF y.n):=hid (by rw[TS.out,qe];rfl);have HNB:Hid (∀ j,j≤y.n→(NF j).length≤200000):=hid fun j hj=>by
   have h1:=qb j hj;have h2:=TB.out;have h3:=enc_few (y.n:Int) (by unfold In64;omega);rw[List.length_append] at h1;omega
  obtain⟨tA,tn,tc,tl⟩:=y;dsimp only at c0 RN hyn HN0 HNS HNE HNB;clear q0 qs qe qb hyl hym TS had hy ck;go_wp2_with fail;refine(put_bt (TF t) _ (tn:Int) wr HV.out (by have:=TB.out;omega) (by unfold In64;omega)).mono ?_;rintro e w6⟨v6,rfl,hv6,hb6⟩;rw[← HN0.out] at hv6;have HV6:=hid hv6;have HB6:=hid (hb.trans (hb6.mono hb.size));have RN6:=hid ((RN.out.on (HW.out _ hb)).on hb6);clear hv6 hb6 HN0 HV c0 RN hb TB;go_wp2_with fail;go_loopw [3,15,127] (fun q _ s wx=>∃(i:Nat) (A:Option Addr) (n c:Nat),i≤tn∧s=.int .i64 i∧q=.slice A n c∧BtS (NF i) (.slice A n c) wx∧Below w6.heap.size w6 wx) (fun _ _ s _=>tn - (intOf s).toNat)
  case atStart =>
   obtain⟨A,c,rfl,hr⟩:=HV6.out;exact⟨0,A,_,c,by omega,rfl,rfl,⟨A,c,rfl,hr⟩,Below.refl _ _⟩
  obtain⟨k,A,na,ca,hk,rfl,rfl,hv,hb⟩:=hrel;have HV:=hid hv;clear hv HV6;by_cases hlk:k < tn
  ·obtain⟨an,z,rfl,han,hz,hzi,k0,k1,k2⟩:=(RN6.out.on hb).at_ hlk;have ZI:=hid hzi;have EN:=hid (HNS.out k z hz);have NB:=hid (HNB.out k hk);obtain⟨zk,zp,zn⟩:=z;dsimp only at k0 k1 k2 ZI EN;have NE:Hid ((Num.enc zk).length≤9∧(Num.enc zp).length≤9):=hid ⟨enc_few _ ZI.out.1,enc_few _ ZI.out.2.1⟩;have hbx:=bl1 wr (.cells #[.int .i64 zk,.int .i64 zp,.int .i64 zn] 70);have hby:=hb.trans (hbx.mono hb.size);have hvy:=HV.out.on hbx;have f:∀ o v,(#[Value.int .i64 zk,.int .i64 zp,.int .i64 zn]:Array Value)[o]? = some v→(wr.alloc (.cells #[.int .i64 zk,.int .i64 zp,.int .i64 zn] 70)).cell? ⟨wr.heap.size,o,none⟩=some v:=fun o v hv=>(World.cell?_alloc_mark _ _ _ _ _).trans hv;have hgy:wr.heap.size < (wr.alloc (.cells #[.int .i64 zk,.int .i64 zp,.int .i64 zn] 70)).heap.size:=by simp
   clear han hz hzi hbx HV;go_upto_region 33 with fail;generalize wr.alloc (.cells #[.int .i64 zk,.int .i64 zp,.int .i64 zn] 70)=w8 at hby hvy f hgy ⊢;generalize wr.heap.size=gy at f hgy ⊢;have HV8:=hid hvy;have HB8:=hid hby
   have GY:=hid hgy;have HFY:=hid f;clear hby hvy hgy f k0 k1 k2 hb;refine Rgs.region (by kernel_rfl) (by kernel_rfl) (fun(opn:Nat) (vl:Value) (wv:World)=>match opn with
     | 0=>BtS (NF k) vl wv
     | 1=>vl=.pointer (some ⟨gy,0,none⟩)
     | 2=>vl=.int .i64 zk
     | 3=>BtS (NF k++Num.enc zk) vl wv
     | 4=>vl=.pointer (some ⟨gy,1,none⟩)
     | 5=>vl=.int .i64 zp
     | 6=>BtS (NF k++Num.enc zk++Num.enc zp) vl wv
     | 7=>vl=.pointer (some ⟨gy,2,none⟩)
     | 8=>vl=.int .i64 zn
     | 9=>BtS (NF k++Num.enc zk++Num.enc zp++Num.enc zn) vl wv
     | 10=>BtS (NF k++Num.enc zk++Num.enc zp++Num.enc zn) vl wv
     | _=>True) (ByW 10 w8 (.slice A na ca)) ⟨(Below.refl _ _).drew,fun _=>rfl⟩ (Rgs.steps_of ?_) ?_
   ·refine⟨?_,?_,?_,?_,?_,?_,?_,?_,?_,?_,?_,trivial⟩<;>intro a w1 live S E D C' h0 hk hW
    ·have l3:=Reg.not_live C' h0 (j:=3) rfl rfl;have l6:=Reg.not_live C' l3 (j:=6) rfl rfl;have l9:=Reg.not_live C' l6 (j:=9) rfl rfl;have l10:=Reg.not_live C' l9 (j:=10) rfl rfl;have e3:a.eval (.tmp 3)=.slice A na ca:=hW.t3 l10;exact Rgs.val rfl (Reg.wanted_free rfl) (.slice A na ca) (by have c:=Reg.consts a;generalize a.eval=ρ at *;simp[execOp,go_sem,c.1,c.2,e3]) (HV8.out.on hW.on) (hW.upd (Below.refl _ _) 0 131 _)
    ·have eb:a.eval (.tmp 15)=.pointer (some ⟨gy,0,none⟩):=E 15 rfl;exact Rgs.va (.pointer (some ⟨gy,0,none⟩)) (hW.upd (Below.refl _ _) 1 132 _)
    ·have d0:_=_:=D 1 rfl _ _ rfl rfl;have hc:=(hW.on.cell (p:=⟨gy,0,none⟩) (GY.out)).trans ((HFY.out 0 _ rfl));exact Rgs.va (.int .i64 zk) (hW.upd (Below.refl _ _) 2 133 _)
    ·have hA:BtS (NF k) (a.eval (.tmp 131)) w1:=D 0 rfl _ _ rfl rfl;have dB:a.eval (.tmp 133)=.int .i64 zk:=D 2 rfl _ _ rfl rfl;generalize hv:a.eval (.tmp 131)=vA at hA;refine Rgs.call rfl (Reg.wanted_free rfl) 25 #[vA,.int .i64 zk] (by have c:=Reg.consts a;generalize a.eval=ρ at *;simp[execOp,go_sem,c.1,c.2,hv,dB]) ?_;refine(put_bt (NF k) vA zk w1 hA (by have h1:=NB.out;have h2:=NE.out;(try simp only[List.length_append]);omega) (ZI.out.1)).mono ?_;rintro e w5⟨v5,rfl,hB,hb5⟩;exact⟨_,rfl,hB,(hW.upd hb5 3 134 _ (by decide) (by decide)),fun jq vq _ hq=>by
      revert hq
      match jq with
      | 0=>exact fun hq=>hq.on hb5
      | 3=>exact fun hq=>hq.on hb5
      | 6=>exact fun hq=>hq.on hb5
      | 9=>exact fun hq=>hq.on hb5
      | 10=>exact fun hq=>hq.on hb5
      | 1 | 2 | 4 | 5 | 7 | 8 | _+11=>exact fun hq=>hq⟩
    ·have eb:a.eval (.tmp 15)=.pointer (some ⟨gy,0,none⟩):=E 15 rfl;exact Rgs.va (.pointer (some ⟨gy,1,none⟩)) (hW.upd (Below.refl _ _) 4 135 _)
    ·have d0:_=_:=D 4 rfl _ _ rfl rfl;have hc:=(hW.on.cell (p:=⟨gy,1,none⟩) (GY.out)).trans ((HFY.out 1 _ rfl));exact Rgs.va (.int .i64 zp) (hW.upd (Below.refl _ _) 5 136 _)
    ·have hA:BtS (NF k++Num.enc zk) (a.eval (.tmp 134)) w1:=D 3 rfl _ _ rfl rfl;have dB:a.eval (.tmp 136)=.int .i64 zp:=D 5 rfl _ _ rfl rfl;generalize hv:a.eval (.tmp 134)=vA at hA;refine Rgs.call rfl (Reg.wanted_free rfl) 25 #[vA,.int .i64 zp] (by have c:=Reg.consts a;generalize a.eval=ρ at *;simp[execOp,go_sem,c.1,c.2,hv,dB]) ?_;refine(put_bt (NF k++Num.enc zk) vA zp w1 hA (by have h1:=NB.out;have h2:=NE.out;(try simp only[List.length_append]);omega) (ZI.out.2.1)).mono ?_;rintro e w5⟨v5,rfl,hB,hb5⟩;exact⟨_,rfl,hB,(hW.upd hb5 6 137 _ (by decide) (by decide)),fun jq vq _ hq=>by
      revert hq
      match jq with
      | 0=>exact fun hq=>hq.on hb5
      | 3=>exact fun hq=>hq.on hb5
      | 6=>exact fun hq=>hq.on hb5
      | 9=>exact fun hq=>hq.on hb5
      | 10=>exact fun hq=>hq.on hb5
      | 1 | 2 | 4 | 5 | 7 | 8 | _+11=>exact fun hq=>hq⟩
    ·have eb:a.eval (.tmp 15)=.pointer (some ⟨gy,0,none⟩):=E 15 rfl;exact Rgs.va (.pointer (some ⟨gy,2,none⟩)) (hW.upd (Below.refl _ _) 7 138 _)
    ·have d0:_=_:=D 7 rfl _ _ rfl rfl;have hc:=(hW.on.cell (p:=⟨gy,2,none⟩) (GY.out)).trans ((HFY.out 2 _ rfl));exact Rgs.va (.int .i64 zn) (hW.upd (Below.refl _ _) 8 139 _)
    ·have hA:BtS (NF k++Num.enc zk++Num.enc zp) (a.eval (.tmp 137)) w1:=D 6 rfl _ _ rfl rfl;have dB:a.eval (.tmp 139)=.int .i64 zn:=D 8 rfl _ _ rfl rfl;generalize hv:a.eval (.tmp 137)=vA at hA;refine Rgs.call rfl (Reg.wanted_free rfl) 25 #[vA,.int .i64 zn] (by have c:=Reg.consts a;generalize a.eval=ρ at *;simp[execOp,go_sem,c.1,c.2,hv,dB]) ?_;refine(put_bt (NF k++Num.enc zk++Num.enc zp) vA zn w1 hA (by have h1:=NB.out;have h2:=NE.out;(try simp only[List.length_append]);omega) (ZI.out.2.2)).mono ?_;rintro e w5⟨v5,rfl,hB,hb5⟩;exact⟨_,rfl,hB,(hW.upd hb5 9 140 _ (by decide) (by decide)),fun jq vq _ hq=>by
      revert hq
      match jq with
      | 0=>exact fun hq=>hq.on hb5
      | 3=>exact fun hq=>hq.on hb5
      | 6=>exact fun hq=>hq.on hb5
      | 9=>exact fun hq=>hq.on hb5
      | 10=>exact fun hq=>hq.on hb5
      | 1 | 2 | 4 | 5 | 7 | 8 | _+11=>exact fun hq=>hq⟩
    have hA:BtS (NF k++Num.enc zk++Num.enc zp++Num.enc zn) (a.eval (.tmp 140)) w1:=D 9 rfl _ _ rfl rfl;generalize hv:a.eval (.tmp 140)=vA at hA;exact Rgs.val rfl (Reg.wanted_free rfl) vA (by have c:=Reg.consts a;generalize a.eval=ρ at *;simp[execOp,go_sem,c.1,c.2,hv]) hA ⟨hW.on,fun e=>absurd e (by rw[Rgs.upd_self];decide)⟩
   intro a w9 live hs hd E Dv Hl hW;obtain⟨v9,hv9,he9⟩:=Dv 10 _ rfl;have e3:a.eval (.tmp 3)=v9:=he9 3 rfl;rw[Rgs.act_ws a _ _ hs hd E [131,132,133,134,135,136,137,138,139,140,3] (by kernel_rfl)];simp only[List.foldl,List.setIfInBounds_toArray,List.set_cons_succ,List.set_cons_zero,e3];have HV9:Hid (BtS (NF (k+1)) v9 w9):=hid (by rw[EN.out];exact hv9);have HX9:=hid hW.on;clear E Dv Hl hW e3 he9 hv9;generalize a.eval=ρ9;clear a hs hd;have HB9:=hid (HB8.out.trans (HX9.out.mono HB8.out.size));obtain⟨A9,c9,rfl,hr9⟩:=HV9.out;have HR9:=hid hr9;clear HX9 HV8 HV9 hr9 HB8 EN ZI NB NE HFY GY;go_wp2_with fail;go_roundw
   case rel=>exact⟨k+1,A9,_,c9,by omega,by go_num,rfl,⟨A9,c9,rfl,HR9.out⟩,HB9.out⟩
   simp[intOf];omega
  have hlk':¬ (k:Int) < (tn:Int):=by omega
  have HV9:Hid (BtS (TF (t+1)) (.slice A na ca) wr):=hid (by
   have h:=HV.out;rw[show k=tn by omega,← HNE.out] at h;exact h)
  have HB9:=hid (HB6.out.trans (hb.mono HB6.out.size));clear HV HNS HNE HNB hb;go_wp2_with fail;go_roundw
  case rel=>exact⟨t+1,A,na,ca,by omega,by go_num,rfl,HV9.out,HB9.out⟩
  simp[intOf];omega
 have hlt3':¬ (t:Int) < (n3:Int):=by omega
 have hte:t=n3:=by omega
 have HV3:Hid (BtS (TF n3) (.slice A na ca) wr):=hid (by
  have h:=HV.out;rw[hte] at h;exact h)
 have TB:=hid (HTLB.out n3 (Nat.le_refl _));have HB3:=hid (HW.out _ hb);clear HV hte HTS HTLB HTI HTB hb;go_wp2_with fail;refine(seal_md (TF n3) _ wr HV3.out (by have:=TB.out;omega)).mono ?_;rintro e w4⟨A4,n4,c4,rfl,hv4,hb4⟩;rw[HEND.out] at hv4;have HV4:=hid (hv4.weak HB3.out.size);have HB4:=hid (HB3.out.trans (hb4.mono HB3.out.size));clear hv4 hb4 HV3 HB3;go_wp2_with fail;go_ret;exact⟨A4,n4,c4,rfl,HV4.out,HB4.out⟩
theorem Own.bel{B n c:Nat}{A A':Option Addr}{l:List UInt8}{w w':World}(h:Own w B A n c l)(g:Grew A A' w w')(hB:B≤w.heap.size):Below B w w':=⟨g.gb.os,g.gb.tape,g.gb.output,g.gb.size,fun i hi=>g.gb.block i (by omega) fun e=>by have:=(OwnV.obk_ge h e.symm).1;omega⟩
theorem KpS.bow{B n c:Nat}{A:Option Addr}{l:List UInt8}{w w':World}(k:KpS (fun q=>obk A=some q) w w')(h:Own w B A n c l)(hB:B≤w.heap.size):Below B w w':=k.below (fun q e=>(OwnV.obk_ge h e).1) hB
theorem enc_pos(z:Int):0 < (Num.enc z).length:=by rw[Num.enc_length];omega
theorem procE_few{q:Int×Int}(h:In64 q.1∧In64 q.2):(procE q).length≤18:=by
 have e1:=enc_few _ h.1;have e2:=enc_few _ h.2;unfold procE;rw[List.length_append];omega
theorem nodeE_few{z:Nd}(h:NdIn z):(nodeE z).length≤27:=by
 have e1:=enc_few _ h.1;have e2:=enc_few _ h.2.1;have e3:=enc_few _ h.2.2;unfold nodeE;simp only[List.length_append];omega
theorem flat_few{α:Type}(f:α→List UInt8)(k:Nat):∀(L:List α),(∀ x∈L,(f x).length≤k)→(L.flatMap f).length≤L.length*k
 | [],_=>by simp
 | x::L,h=>by
  have h1:=h x (by simp)
  have h2:=flat_few f k L fun y hy=>h y (by simp[hy])
  rw[List.flatMap_cons,List.length_append,List.length_cons,Nat.succ_mul]
  omega
theorem mda_of{B n c:Nat}{A:Option Addr}{l:List UInt8}{w0 W0 w:World}(ho:Own w B A n c l)(hB:w0.heap.size≤B)(h0:Below w0.heap.size w0 W0)(hb:Below B W0 w):MdA l w0 (.returned (.slice A n c)) w:=⟨A,n,c,rfl,ho.weak hB,h0.trans (hb.mono hB)⟩
theorem wchan_any(x:ChV)(w:World)(hx:ChanIn x):Calls Tryz.prog 56 #[cv x] w (MdA (chanE x) w):=by
 obtain⟨f,t,q,c,m,l⟩:=x;have HIN:Hid (In64 f∧In64 t∧In64 c∧In64 l):=hid ⟨hx.fr,hx.tt,hx.cap,hx.late⟩;have HB0:=hid (bl1 w (.cells #[.int .i64 f,.int .i64 t,.bool q,.int .i64 c,.int .u32 m,.int .i64 l] 63));have hbx:∀ o v,(#[.int .i64 f,.int .i64 t,.bool q,.int .i64 c,.int .u32 m,.int .i64 l]:Array Value)[o]? = some v→(w.alloc (.cells #[.int .i64 f,.int .i64 t,.bool q,.int .i64 c,.int .u32 m,.int .i64 l] 63)).cell? ⟨w.heap.size,o,none⟩=some v:=fun o v hv=>(World.cell?_alloc_mark _ _ _ _ _).trans hv;have hgl:w.heap.size < (w.alloc (.cells #[.int .i64 f,.int .i64 t,.bool q,.int .i64 c,.int .u32 m,.int .i64 l] 63)).heap.size:=by simp
 have HN0:Hid (([]++[f,t].flatMap Num.enc).length≤1000000):=hid (by
  have h2:=enc_few f HIN.out.1;have h3:=enc_few t HIN.out.2.1;simp only[List.nil_append,List.flatMap_cons,List.flatMap_nil,List.append_nil,List.length_append];omega)
 clear hx;go_enter Tryz.func56,Tryz.ntmps56;go_upto_region 1 with fail;generalize w.alloc (.cells #[.int .i64 f,.int .i64 t,.bool q,.int .i64 c,.int .u32 m,.int .i64 l] 63)=W0 at HB0 hbx hgl ⊢;have HGL:=hid hgl;obtain⟨g0,hg0⟩:∃ g,g=w.heap.size:=⟨_,rfl⟩;rw[← hg0] at hbx hgl ⊢;have HBX:Hid (∀ V,Below W0.heap.size W0 V→∀(o:Nat) (v:Value),(#[.int .i64 f,.int .i64 t,.bool q,.int .i64 c,.int .u32 m,.int .i64 l]:Array Value)[o]? = some v→V.cell? ⟨g0,o,none⟩=some v):=hid fun V hv o v h=>(hv.cell (p:=⟨g0,o,none⟩) hgl).trans (hbx o v h);have HNIL:Hid (Own W0 W0.heap.size none 0 0 []):=hid (World.ownsRow_nil _ _ _ _);have HCB:=hid fun V (hv:KpS (fun q=>obk none=some q) W0.drew V)=>HBX.out V ((Below.refl _ _).drew.trans (hv.below (fun k e=>by cases e) (Nat.le_refl _)));clear hbx hgl hg0;refine Rgs.region (by kernel_rfl) (by kernel_rfl) (fun(opn:Nat) (vl:Value) (_:World)=>match opn with
   | 0=>vl=.pointer (some ⟨g0,0,none⟩)
   | 1=>vl=.int .i64 f
   | 2=>vl=.pointer (some ⟨g0,1,none⟩)
   | 3=>vl=.int .i64 t
   | 6=>vl=.pointer (some ⟨g0,2,none⟩)
   | 7=>vl=.bool q
   | _=>True) (ChS W0.heap.size 5 8 9 4 91 9 12 3 8 901 3 3 [.int .i64 f,.int .i64 t] [] (none) 0 0 ([]) ([]++[f,t].flatMap Num.enc) (([]++[f,t].flatMap Num.enc)++Num.enc (fl q)) (_) W0.drew) (ChS.start (HNIL.out) rfl) (Rgs.steps_of ?_) ?_
 ·refine⟨?_,?_,?_,?_,?_,?_,?_,?_,?_,?_,trivial⟩<;>intro a w1 live S E D C h0 hk hX
  ·have e0:a.eval (.tmp 1)=.pointer (some ⟨g0,0,none⟩):=E 1 rfl;exact Rgs.va (.pointer (some ⟨g0,0,none⟩)) (hX.id 0 4 _ (by decide) (by decide))
  ·have e0:a.eval (.tmp 4)=.pointer (some ⟨g0,0,none⟩):=D 0 rfl _ _ rfl rfl;have hc:=HCB.out w1 hX.kp 0 _ rfl;exact Rgs.va (.int .i64 f) (hX.id 1 5 _ (by decide) (by decide))
  ·have e0:a.eval (.tmp 1)=.pointer (some ⟨g0,0,none⟩):=E 1 rfl;exact Rgs.va (.pointer (some ⟨g0,1,none⟩)) (hX.id 2 6 _ (by decide) (by decide))
  ·have e0:a.eval (.tmp 6)=.pointer (some ⟨g0,1,none⟩):=D 2 rfl _ _ rfl rfl;have hc:=HCB.out w1 hX.kp 1 _ rfl;exact Rgs.va (.int .i64 t) (hX.id 3 7 _ (by decide) (by decide))
  ·have e0:a.eval (.tmp 5)=.int .i64 f:=D 1 rfl _ _ rfl rfl;have e1:a.eval (.tmp 7)=.int .i64 t:=D 3 rfl _ _ rfl rfl;exact Rgs.grow rfl (Reg.wanted_free rfl) (.slice (some ⟨w1.heap.size,0,none⟩) 2 2) (w1.alloc (.cells #[.int .i64 f,.int .i64 t] 3)) (by have c:=Reg.consts a;generalize a.eval=ρ at *;simp[execOp,go_sem,c.1,c.2,e0,e1]) trivial (hX.lit1 (by decide) (by decide) (by simp) (by rw[S];exact(by decide:8 < 25))) (fun _ _ _ h=>h)
  ·have l8:=Reg.not_live C h0 (j:=8) rfl rfl;obtain⟨gq,dq,hq⟩:=hX.p1 (hk 4 rfl) h0;have dq2:a.eval (.tmp 8)=.slice (some ⟨gq,0,none⟩) 2 2:=dq;refine Rgs.call rfl (Reg.wanted_free rfl) 54 #[.slice none 0 0,.slice (some ⟨gq,0,none⟩) 2 2] (by have c:=Reg.consts a;generalize a.eval=ρ at *;simp[execOp,go_sem,c.1,c.2,dq2]) ?_;refine(puti_row (E:=3) (zs:=[f,t]) (hX.s0 h0) (hX.kp.size) hq (by decide) (by intro z hz;simp only[List.mem_cons,List.not_mem_nil,or_false] at hz;rcases hz with rfl | rfl;exact HIN.out.1;exact HIN.out.2.1) (by omega) (by simp)).mono ?_;rintro e w5⟨A5,n5,c5,rfl,ho5,hg5⟩;exact⟨_,rfl,trivial,hX.call1 h0 l8 (by decide) (by decide) (by decide) (by rw[S];exact(by decide:9 < 25)) ho5 hg5,fun _ _ _ h=>h⟩
  ·have e0:a.eval (.tmp 1)=.pointer (some ⟨g0,0,none⟩):=E 1 rfl;exact Rgs.va (.pointer (some ⟨g0,2,none⟩)) (hX.id 6 10 _ (by decide) (by decide))
  ·have e0:a.eval (.tmp 10)=.pointer (some ⟨g0,2,none⟩):=D 6 rfl _ _ rfl rfl;have hc:=HCB.out w1 hX.kp 2 _ rfl;exact Rgs.va (.bool q) (hX.id 7 11 _ (by decide) (by decide))
  ·have l9:=Reg.not_live C h0 (j:=9) rfl rfl;obtain⟨A1,n1,c1,f1,ho1,nw1⟩:=hX.s1 (hk 5 rfl) h0;have hl1:=ho1.len;have d11:_=_:=D 7 rfl _ _ rfl rfl;refine Rgs.call rfl (Reg.wanted_free rfl) 84 #[.slice A1 n1 c1,.bool q] (by have c:=Reg.consts a;generalize a.eval=ρ at *;simp[execOp,go_sem,c.1,c.2,f1,d11]) ?_;refine((flag_any A1 n1 c1 _ q w1 ho1.rd (by rw[← hl1];have:=HN0.out;omega)).mono fun _ _ h=>PutA.made (A:=A1) h hX.kp.size (by omega)).mono ?_;rintro e w5⟨A5,n5,c5,rfl,ho5,hg5⟩;exact⟨_,rfl,trivial,hX.call2 (hk 5 rfl) l9 (by decide) (by decide) (by rw[S];exact(by decide:12 < 25)) nw1 ho5 hg5,fun _ _ _ h=>h⟩
  obtain⟨A5,n5,c5,e5,hX5⟩:=hX.asg (c1:=5) (c2:=8) (C 8 _ rfl (hk 8 rfl) 5 rfl) (hk 8 rfl) (by decide) (by decide) (by rw[S];exact(by decide:3 < 25));exact Rgs.val rfl (Reg.wanted_free rfl) (.slice A5 n5 c5) (by have c:=Reg.consts a;generalize a.eval=ρ at *;simp[execOp,go_sem,c.1,c.2,e5]) trivial hX5
 intro a w4 live hs hd E D Hl hX;obtain⟨A1,n1,c1,e4,ho4,hg4⟩:=hX.fin (Hl 8 (by decide)) (Hl 9 (by decide));rw[Rgs.act_ws a _ _ hs hd E [4,5,6,7,8,9,10,11,12,3] (by kernel_rfl)];simp only[List.foldl,List.setIfInBounds_toArray,List.set_cons_succ,List.set_cons_zero,e4];have HO1:=hid ho4;have HG1:=hid hg4.drew;clear E D Hl hX e4 ho4 hg4;generalize a.eval=ρ;clear a hs hd;generalize w4=w1 at HO1 HG1 ⊢;have HB1:=hid (HNIL.out.bel HG1.out (Nat.le_refl _));have HN:Hid (n1≤1000000∧((([]++[f,t].flatMap Num.enc)++Num.enc (fl q))++[c].flatMap Num.enc).length≤1000000):=hid (by
  have h1:=HO1.out.len;have h2:=enc_few f HIN.out.1;have h3:=enc_few t HIN.out.2.1;have h4:=enc_few _ (fl_in q);have h5:=enc_few c HIN.out.2.2.1;simp only[List.nil_append,List.flatMap_cons,List.flatMap_nil,List.append_nil,List.length_append] at h1 ⊢;omega)
 have HCB:=hid fun V (hv:KpS (fun q=>obk A1=some q) w1.drew V)=>HBX.out V (HB1.out.trans ((Below.refl _ _).drew.trans (hv.bow (w:=w1.drew) HO1.out HB1.out.size)));go_upto_region 2 with fail;refine Rgs.region (by kernel_rfl) (by kernel_rfl) (fun(opn:Nat) (vl:Value) (_:World)=>match opn with
   | 0=>vl=.slice A1 n1 c1
   | 1=>vl=.pointer (some ⟨g0,3,none⟩)
   | 2=>vl=.int .i64 c
   | 5=>vl=.pointer (some ⟨g0,4,none⟩)
   | 6=>vl=.int .u32 m
   | 7=>vl=.int .i64 (IntKind.i64.wrap m)
   | 8=>vl=.pointer (some ⟨g0,5,none⟩)
   | 9=>vl=.int .i64 l
   | _=>True) (ChS W0.heap.size 4 11 12 3 10 17 24 2 16 23 3 2 [.int .i64 c] [.int .i64 (IntKind.i64.wrap m),.int .i64 l] (A1) n1 c1 (([]++[f,t].flatMap Num.enc)++Num.enc (fl q)) ((([]++[f,t].flatMap Num.enc)++Num.enc (fl q))++[c].flatMap Num.enc) (((([]++[f,t].flatMap Num.enc)++Num.enc (fl q))++[c].flatMap Num.enc)++[IntKind.i64.wrap m,l].flatMap Num.enc) (_) w1.drew) (ChS.start (HO1.out) rfl) (Rgs.steps_of ?_) ?_
 ·refine⟨?_,?_,?_,?_,?_,?_,?_,?_,?_,?_,?_,?_,?_,trivial⟩<;>intro a w1 live S E D C h0 hk hX
  ·have e0:a.eval (.tmp 3)=.slice A1 n1 c1:=E 3 rfl;exact Rgs.va (.slice A1 n1 c1) (hX.id 0 13 _ (by decide) (by decide))
  ·have e0:a.eval (.tmp 1)=.pointer (some ⟨g0,0,none⟩):=E 1 rfl;exact Rgs.va (.pointer (some ⟨g0,3,none⟩)) (hX.id 1 14 _ (by decide) (by decide))
  ·have e0:a.eval (.tmp 14)=.pointer (some ⟨g0,3,none⟩):=D 1 rfl _ _ rfl rfl;have hc:=HCB.out w1 hX.kp 3 _ rfl;exact Rgs.va (.int .i64 c) (hX.id 2 15 _ (by decide) (by decide))
  ·have e0:a.eval (.tmp 15)=.int .i64 c:=D 2 rfl _ _ rfl rfl;exact Rgs.grow rfl (Reg.wanted_free rfl) (.slice (some ⟨w1.heap.size,0,none⟩) 1 1) (w1.alloc (.cells #[.int .i64 c] 3)) (by have c:=Reg.consts a;generalize a.eval=ρ at *;simp[execOp,go_sem,c.1,c.2,e0]) trivial (hX.lit1 (by decide) (by decide) (by simp) (by rw[S];exact(by decide:16 < 25))) (fun _ _ _ h=>h)
  ·have l11:=Reg.not_live C h0 (j:=11) rfl rfl;obtain⟨gq,dq,hq⟩:=hX.p1 (hk 3 rfl) h0;have dq2:a.eval (.tmp 16)=.slice (some ⟨gq,0,none⟩) 1 1:=dq;have d13:_=_:=D 0 rfl _ _ rfl rfl;refine Rgs.call rfl (Reg.wanted_free rfl) 54 #[.slice A1 n1 c1,.slice (some ⟨gq,0,none⟩) 1 1] (by have c:=Reg.consts a;generalize a.eval=ρ at *;simp[execOp,go_sem,c.1,c.2,dq2,d13]) ?_;refine(puti_row (E:=3) (zs:=[c]) (hX.s0 h0) (Nat.le_trans HB1.out.size hX.kp.size) hq (by decide) (by intro z hz;simp only[List.mem_cons,List.not_mem_nil,or_false] at hz;subst hz;exact HIN.out.2.2.1) (HN.out.1) (by simp)).mono ?_;rintro e w5⟨A5,n5,c5,rfl,ho5,hg5⟩;exact⟨_,rfl,trivial,hX.call1 h0 l11 (by decide) (by decide) (by decide) (by rw[S];exact(by decide:17 < 25)) ho5 hg5,fun _ _ _ h=>h⟩
  ·have e0:a.eval (.tmp 1)=.pointer (some ⟨g0,0,none⟩):=E 1 rfl;exact Rgs.va (.pointer (some ⟨g0,4,none⟩)) (hX.id 5 18 _ (by decide) (by decide))
  ·have e0:a.eval (.tmp 18)=.pointer (some ⟨g0,4,none⟩):=D 5 rfl _ _ rfl rfl;have hc:=HCB.out w1 hX.kp 4 _ rfl;exact Rgs.va (.int .u32 m) (hX.id 6 19 _ (by decide) (by decide))
  ·have e0:a.eval (.tmp 19)=.int .u32 m:=D 6 rfl _ _ rfl rfl;exact Rgs.va (.int .i64 (IntKind.i64.wrap m)) (hX.id 7 20 _ (by decide) (by decide))
  ·have e0:a.eval (.tmp 1)=.pointer (some ⟨g0,0,none⟩):=E 1 rfl;exact Rgs.va (.pointer (some ⟨g0,5,none⟩)) (hX.id 8 21 _ (by decide) (by decide))
  ·have e0:a.eval (.tmp 21)=.pointer (some ⟨g0,5,none⟩):=D 8 rfl _ _ rfl rfl;have hc:=HCB.out w1 hX.kp 5 _ rfl;exact Rgs.va (.int .i64 l) (hX.id 9 22 _ (by decide) (by decide))
  ·have e0:a.eval (.tmp 20)=.int .i64 (IntKind.i64.wrap m):=D 7 rfl _ _ rfl rfl;have e1:a.eval (.tmp 22)=.int .i64 l:=D 9 rfl _ _ rfl rfl;exact Rgs.grow rfl (Reg.wanted_free rfl) (.slice (some ⟨w1.heap.size,0,none⟩) 2 2) (w1.alloc (.cells #[.int .i64 (IntKind.i64.wrap m),.int .i64 l] 2)) (by have c:=Reg.consts a;generalize a.eval=ρ at *;simp[execOp,go_sem,c.1,c.2,e0,e1]) trivial (hX.lit2 (by decide) (by decide) (by simp) (by rw[S];exact(by decide:23 < 25))) (fun _ _ _ h=>h)
  ·have l12:=Reg.not_live C h0 (j:=12) rfl rfl;obtain⟨A1,n1,c1,f1,ho1,nw1⟩:=hX.s1 (hk 4 rfl) h0;have hl1:=ho1.len;obtain⟨gq,dq,hq⟩:=hX.p2 (hk 10 rfl) h0;have dq2:a.eval (.tmp 23)=.slice (some ⟨gq,0,none⟩) 2 2:=dq;refine Rgs.call rfl (Reg.wanted_free rfl) 82 #[.slice A1 n1 c1,.slice (some ⟨gq,0,none⟩) 2 2] (by have c:=Reg.consts a;generalize a.eval=ρ at *;simp[execOp,go_sem,c.1,c.2,f1,dq2]) ?_;refine(putl_row (E:=2) (zs:=[IntKind.i64.wrap m,l]) (ho1) (Nat.le_trans HB1.out.size hX.kp.size) hq (by decide) (by intro z hz;simp only[List.mem_cons,List.not_mem_nil,or_false] at hz;rcases hz with rfl | rfl;exact wrap_in m;exact HIN.out.2.2.2) (by rw[← hl1];exact HN.out.2) (by simp)).mono ?_;rintro e w5⟨A5,n5,c5,rfl,ho5,hg5⟩;exact⟨_,rfl,trivial,hX.call2 (hk 4 rfl) l12 (by decide) (by decide) (by rw[S];exact(by decide:24 < 25)) nw1 ho5 hg5,fun _ _ _ h=>h⟩
  obtain⟨A5,n5,c5,e5,hX5⟩:=hX.asg (c1:=4) (c2:=11) (C 11 _ rfl (hk 11 rfl) 4 rfl) (hk 11 rfl) (by decide) (by decide) (by rw[S];exact(by decide:2 < 25));exact Rgs.val rfl (Reg.wanted_free rfl) (.slice A5 n5 c5) (by have c:=Reg.consts a;generalize a.eval=ρ at *;simp[execOp,go_sem,c.1,c.2,e5]) trivial hX5
 intro a w4 live hs hd E D Hl hX;obtain⟨A2,n2,c2,e4,ho4,hg4⟩:=hX.fin (Hl 11 (by decide)) (Hl 12 (by decide));rw[Rgs.act_ws a _ _ hs hd E [13,14,15,16,17,18,19,20,21,22,23,24,2] (by kernel_rfl)];simp only[List.foldl,List.setIfInBounds_toArray,List.set_cons_succ,List.set_cons_zero,e4];have HO2:=hid ho4;have HG2:=hid hg4.drew;clear E D Hl hX e4 ho4 hg4;generalize a.eval=ρ;clear a hs hd;generalize w4=w2 at HO2 HG2 ⊢;have HB2:=hid (HB1.out.trans ((HO1.out.bel HG2.out HB1.out.size).mono (Nat.le_refl _)));go_wp2_with fail;go_ret;have h:=mda_of (l:=((([]++[f,t].flatMap Num.enc)++Num.enc (fl q))++[c].flatMap Num.enc)++[IntKind.i64.wrap m,l].flatMap Num.enc) HO2.out (Nat.le_of_lt HGL.out) HB0.out HB2.out;rw[show ((([]++[f,t].flatMap Num.enc)++Num.enc (fl q))++[c].flatMap Num.enc)++[IntKind.i64.wrap m,l].flatMap Num.enc=chanE ⟨f,t,q,c,m,l⟩ from by unfold chanE;simp only[List.nil_append,List.flatMap_cons,List.flatMap_nil,List.append_nil,List.append_assoc]] at h;exact h
theorem wpart_any(y:Pq)(w:World)(hy:PartIn y)(hr:RdB prc w w.heap.size y.1.pa y.1.pn y.2):Calls Tryz.prog 55 #[pv y.1] w (MdA (partE (coreK y)) w):=by
 obtain⟨⟨nm,bu,pe,sc,st,pa,pn,pc,h0,h1,h2,h3,h4⟩,L⟩:=y;have HIN:Hid (nm.size≤12∧In64 bu∧In64 pe):=hid ⟨hy.name,hy.bud,hy.per⟩;have HPN:Hid (pn≤3):=hid hy.few;have HLL:Hid (L.length=pn):=hid hy.len;have HPR:Hid (∀ q∈L,In64 q.1∧In64 q.2):=hid hy.pr;have HHL:Hid (In64 h0∧In64 h1∧In64 h2∧In64 h3∧In64 h4):=hid ⟨hy.hl 0,hy.hl 1,hy.hl 2,hy.hl 3,hy.hl 4⟩;have HPP:Hid (RdB prc w w.heap.size pa pn L):=hid hr;have HB0:=hid (bl1 w (.cells #[.string nm,.int .i64 bu,.int .i64 pe,.bool sc,.bool st,.slice pa pn pc,.int .i64 h0,.int .i64 h1,.int .i64 h2,.int .i64 h3,.int .i64 h4] 57));have hbx:∀ o v,(#[.string nm,.int .i64 bu,.int .i64 pe,.bool sc,.bool st,.slice pa pn pc,.int .i64 h0,.int .i64 h1,.int .i64 h2,.int .i64 h3,.int .i64 h4]:Array Value)[o]? = some v→(w.alloc (.cells #[.string nm,.int .i64 bu,.int .i64 pe,.bool sc,.bool st,.slice pa pn pc,.int .i64 h0,.int .i64 h1,.int .i64 h2,.int .i64 h3,.int .i64 h4] 57)).cell? ⟨w.heap.size,o,none⟩=some v:=fun o v hv=>(World.cell?_alloc_mark _ _ _ _ _).trans hv;have hgl:w.heap.size < (w.alloc (.cells #[.string nm,.int .i64 bu,.int .i64 pe,.bool sc,.bool st,.slice pa pn pc,.int .i64 h0,.int .i64 h1,.int .i64 h2,.int .i64 h3,.int .i64 h4] 57)).heap.size:=by simp
 have HN0:Hid (([]++Num.enc nm.size++nm.data.toList).length≤1000):=hid (by
  have h6:=enc_few nm.size (by have:=HIN.out.1;unfold In64;omega);have h7:=HIN.out.1;have h8:nm.data.toList.length=nm.size:=by rw[Array.length_toList];rfl
  simp only[List.nil_append,List.length_append];omega)
 show Calls Tryz.prog 55 #[.agg #[.string nm,.int .i64 bu,.int .i64 pe,.bool sc,.bool st,.slice pa pn pc,.int .i64 h0,.int .i64 h1,.int .i64 h2,.int .i64 h3,.int .i64 h4]] w (MdA (partE ⟨nm,bu,pe,sc,st,L,[h0,h1,h2,h3,h4]⟩) w);clear hy hr;go_enter Tryz.func55,Tryz.ntmps55;go_upto_region 1 with fail;generalize w.alloc (.cells #[.string nm,.int .i64 bu,.int .i64 pe,.bool sc,.bool st,.slice pa pn pc,.int .i64 h0,.int .i64 h1,.int .i64 h2,.int .i64 h3,.int .i64 h4] 57)=W0 at HB0 hbx hgl ⊢;have HGW:=hid hgl;obtain⟨g0,hg0⟩:∃ g,g=w.heap.size:=⟨_,rfl⟩;rw[← hg0] at hbx hgl ⊢;have HGL:=hid hgl;have HBX:Hid (∀ V,Below W0.heap.size W0 V→∀(o:Nat) (v:Value),(#[.string nm,.int .i64 bu,.int .i64 pe,.bool sc,.bool st,.slice pa pn pc,.int .i64 h0,.int .i64 h1,.int .i64 h2,.int .i64 h3,.int .i64 h4]:Array Value)[o]? = some v→V.cell? ⟨g0,o,none⟩=some v):=hid fun V hv o v h=>(hv.cell (p:=⟨g0,o,none⟩) hgl).trans (hbx o v h);have HNIL:Hid (Own W0 W0.heap.size none 0 0 []):=hid (World.ownsRow_nil _ _ _ _);have HCB:=hid fun V (hv:KpS (fun q=>obk none=some q) W0.drew V)=>HBX.out V ((Below.refl _ _).drew.trans (hv.below (fun k e=>by cases e) (Nat.le_refl _)));clear hbx hgl hg0;refine Rgs.region (by kernel_rfl) (by kernel_rfl) (fun(opn:Nat) (vl:Value) (_:World)=>match opn with
   | 0=>vl=.pointer (some ⟨g0,0,none⟩)
   | 1=>vl=.string nm
   | 3=>vl=.pointer (some ⟨g0,1,none⟩)
   | 4=>vl=.int .i64 bu
   | 5=>vl=.pointer (some ⟨g0,2,none⟩)
   | 6=>vl=.int .i64 pe
   | _=>True) (ChS W0.heap.size 2 8 9 90 7 8 14 3 900 13 3 2 [] [.int .i64 bu,.int .i64 pe] (none) 0 0 ([]) ([]++Num.enc nm.size++nm.data.toList) (([]++Num.enc nm.size++nm.data.toList)++[bu,pe].flatMap Num.enc) (_) W0.drew) (ChS.start (HNIL.out) rfl) (Rgs.steps_of ?_) ?_
 ·refine⟨?_,?_,?_,?_,?_,?_,?_,?_,?_,?_,trivial⟩<;>intro a w1 live S E D C h0 hk hX
  ·have e0:a.eval (.tmp 1)=.pointer (some ⟨g0,0,none⟩):=E 1 rfl;exact Rgs.va (.pointer (some ⟨g0,0,none⟩)) (hX.id 0 6 _ (by decide) (by decide))
  ·have e0:a.eval (.tmp 6)=.pointer (some ⟨g0,0,none⟩):=D 0 rfl _ _ rfl rfl;have hc:=HCB.out w1 hX.kp 0 _ rfl;exact Rgs.va (.string nm) (hX.id 1 7 _ (by decide) (by decide))
  ·have l8:=Reg.not_live C h0 (j:=8) rfl rfl;have d7:_=_:=D 1 rfl _ _ rfl rfl;refine Rgs.call rfl (Reg.wanted_free rfl) 83 #[.slice none 0 0,.string nm] (by have c:=Reg.consts a;generalize a.eval=ρ at *;simp[execOp,go_sem,c.1,c.2,d7]) ?_;refine((text_any none 0 0 [] nm w1 (rd_nil _ _) (by have:=HIN.out.1;omega)).mono fun _ _ h=>PutA.made (A:=none) h hX.kp.size (by omega)).mono ?_;rintro e w5⟨A5,n5,c5,rfl,ho5,hg5⟩;exact⟨_,rfl,trivial,hX.call1 h0 l8 (by decide) (by decide) (by decide) (by rw[S];exact(by decide:8 < 47)) ho5 hg5,fun _ _ _ h=>h⟩
  ·have e0:a.eval (.tmp 1)=.pointer (some ⟨g0,0,none⟩):=E 1 rfl;exact Rgs.va (.pointer (some ⟨g0,1,none⟩)) (hX.id 3 9 _ (by decide) (by decide))
  ·have e0:a.eval (.tmp 9)=.pointer (some ⟨g0,1,none⟩):=D 3 rfl _ _ rfl rfl;have hc:=HCB.out w1 hX.kp 1 _ rfl;exact Rgs.va (.int .i64 bu) (hX.id 4 10 _ (by decide) (by decide))
  ·have e0:a.eval (.tmp 1)=.pointer (some ⟨g0,0,none⟩):=E 1 rfl;exact Rgs.va (.pointer (some ⟨g0,2,none⟩)) (hX.id 5 11 _ (by decide) (by decide))
  ·have e0:a.eval (.tmp 11)=.pointer (some ⟨g0,2,none⟩):=D 5 rfl _ _ rfl rfl;have hc:=HCB.out w1 hX.kp 2 _ rfl;exact Rgs.va (.int .i64 pe) (hX.id 6 12 _ (by decide) (by decide))
  ·have e0:a.eval (.tmp 10)=.int .i64 bu:=D 4 rfl _ _ rfl rfl;have e1:a.eval (.tmp 12)=.int .i64 pe:=D 6 rfl _ _ rfl rfl;exact Rgs.grow rfl (Reg.wanted_free rfl) (.slice (some ⟨w1.heap.size,0,none⟩) 2 2) (w1.alloc (.cells #[.int .i64 bu,.int .i64 pe] 2)) (by have c:=Reg.consts a;generalize a.eval=ρ at *;simp[execOp,go_sem,c.1,c.2,e0,e1]) trivial (hX.lit2 (by decide) (by decide) (by simp) (by rw[S];exact(by decide:13 < 47))) (fun _ _ _ h=>h)
  ·have l9:=Reg.not_live C h0 (j:=9) rfl rfl;obtain⟨A1,n1,c1,f1,ho1,nw1⟩:=hX.s1 (hk 2 rfl) h0;have hl1:=ho1.len;obtain⟨gq,dq,hq⟩:=hX.p2 (hk 7 rfl) h0;have dq2:a.eval (.tmp 13)=.slice (some ⟨gq,0,none⟩) 2 2:=dq;refine Rgs.call rfl (Reg.wanted_free rfl) 82 #[.slice A1 n1 c1,.slice (some ⟨gq,0,none⟩) 2 2] (by have c:=Reg.consts a;generalize a.eval=ρ at *;simp[execOp,go_sem,c.1,c.2,f1,dq2]) ?_;refine(putl_row (E:=2) (zs:=[bu,pe]) (ho1) (hX.kp.size) hq (by decide) (by intro z hz;simp only[List.mem_cons,List.not_mem_nil,or_false] at hz;rcases hz with rfl | rfl;exact HIN.out.2.1;exact HIN.out.2.2) (by rw[← hl1];have:=HN0.out;omega) (by simp)).mono ?_;rintro e w5⟨A5,n5,c5,rfl,ho5,hg5⟩;exact⟨_,rfl,trivial,hX.call2 (hk 2 rfl) l9 (by decide) (by decide) (by rw[S];exact(by decide:14 < 47)) nw1 ho5 hg5,fun _ _ _ h=>h⟩
  obtain⟨A5,n5,c5,e5,hX5⟩:=hX.asg (c1:=2) (c2:=8) (C 8 _ rfl (hk 8 rfl) 2 rfl) (hk 8 rfl) (by decide) (by decide) (by rw[S];exact(by decide:3 < 47));exact Rgs.val rfl (Reg.wanted_free rfl) (.slice A5 n5 c5) (by have c:=Reg.consts a;generalize a.eval=ρ at *;simp[execOp,go_sem,c.1,c.2,e5]) trivial hX5
 intro a w4 live hs hd E D Hl hX;obtain⟨A1,n1,c1,e4,ho4,hg4⟩:=hX.fin (Hl 8 (by decide)) (Hl 9 (by decide));rw[Rgs.act_ws a _ _ hs hd E [6,7,8,9,10,11,12,13,14,3] (by kernel_rfl)];simp only[List.foldl,List.setIfInBounds_toArray,List.set_cons_succ,List.set_cons_zero,e4];have HO1:=hid ho4;have HG1:=hid hg4.drew;clear E D Hl hX e4 ho4 hg4;generalize a.eval=ρ;clear a hs hd;generalize w4=w1 at HO1 HG1 ⊢;have HB1:=hid (HNIL.out.bel HG1.out (Nat.le_refl _));have HNL:Hid ((((([]++Num.enc nm.size++nm.data.toList)++[bu,pe].flatMap Num.enc)++Num.enc (fl sc))++Num.enc (fl st)).length≤1000):=hid (by
  have h2:=enc_few bu HIN.out.2.1;have h3:=enc_few pe HIN.out.2.2;have h4:=enc_few _ (fl_in sc);have h5:=enc_few _ (fl_in st);have h6:=enc_few nm.size (by have:=HIN.out.1;unfold In64;omega);have h7:=HIN.out.1;have h8:nm.data.toList.length=nm.size:=by rw[Array.length_toList];rfl
  simp only[List.nil_append,List.flatMap_cons,List.flatMap_nil,List.append_nil,List.length_append];omega)
 have HN:Hid (n1≤1000000∧((([]++Num.enc nm.size++nm.data.toList)++[bu,pe].flatMap Num.enc)++Num.enc (fl sc)).length≤1000000):=hid (by
  have h1:=HO1.out.len;have h2:=HNL.out;simp only[List.length_append] at h1 h2 ⊢;omega)
 have HCB:=hid fun V (hv:KpS (fun q=>obk A1=some q) w1.drew V)=>HBX.out V (HB1.out.trans ((Below.refl _ _).drew.trans (hv.bow (w:=w1.drew) HO1.out HB1.out.size)));go_upto_region 2 with fail;refine Rgs.region (by kernel_rfl) (by kernel_rfl) (fun(opn:Nat) (vl:Value) (_:World)=>match opn with
   | 0=>vl=.slice A1 n1 c1
   | 1=>vl=.pointer (some ⟨g0,3,none⟩)
   | 2=>vl=.bool sc
   | 4=>vl=.pointer (some ⟨g0,4,none⟩)
   | 5=>vl=.bool st
   | _=>True) (ChS W0.heap.size 3 6 7 90 91 18 21 3 900 901 3 3 [] [] (A1) n1 c1 (([]++Num.enc nm.size++nm.data.toList)++[bu,pe].flatMap Num.enc) ((([]++Num.enc nm.size++nm.data.toList)++[bu,pe].flatMap Num.enc)++Num.enc (fl sc)) (((([]++Num.enc nm.size++nm.data.toList)++[bu,pe].flatMap Num.enc)++Num.enc (fl sc))++Num.enc (fl st)) (.slice A1 n1 c1) w1.drew) (ChS.start (HO1.out) rfl) (Rgs.steps_of ?_) ?_
 ·refine⟨?_,?_,?_,?_,?_,?_,?_,?_,trivial⟩<;>intro a w1 live S E D C h0 hk hX
  ·have l3:=Reg.not_live C h0 (j:=3) rfl rfl;have l6:=Reg.not_live C l3 (j:=6) rfl rfl;have l7:=Reg.not_live C l6 (j:=7) rfl rfl;have e0:=hX.e3 l7;exact Rgs.va (.slice A1 n1 c1) (hX.id 0 15 _ (by decide) (by decide))
  ·have e0:a.eval (.tmp 1)=.pointer (some ⟨g0,0,none⟩):=E 1 rfl;exact Rgs.va (.pointer (some ⟨g0,3,none⟩)) (hX.id 1 16 _ (by decide) (by decide))
  ·have e0:a.eval (.tmp 16)=.pointer (some ⟨g0,3,none⟩):=D 1 rfl _ _ rfl rfl;have hc:=HCB.out w1 hX.kp 3 _ rfl;exact Rgs.va (.bool sc) (hX.id 2 17 _ (by decide) (by decide))
  ·have l6:=Reg.not_live C h0 (j:=6) rfl rfl;have d15:_=_:=D 0 rfl _ _ rfl rfl;have d17:_=_:=D 2 rfl _ _ rfl rfl;refine Rgs.call rfl (Reg.wanted_free rfl) 84 #[.slice A1 n1 c1,.bool sc] (by have c:=Reg.consts a;generalize a.eval=ρ at *;simp[execOp,go_sem,c.1,c.2,d15,d17]) ?_;refine((flag_any A1 n1 c1 _ sc w1 (hX.s0 h0).rd (by have:=HN.out.1;omega)).mono fun _ _ h=>PutA.made (A:=A1) h (Nat.le_trans HB1.out.size hX.kp.size) (by omega)).mono ?_;rintro e w5⟨A5,n5,c5,rfl,ho5,hg5⟩;exact⟨_,rfl,trivial,hX.call1 h0 l6 (by decide) (by decide) (by decide) (by rw[S];exact(by decide:18 < 47)) ho5 hg5,fun _ _ _ h=>h⟩
  ·have e0:a.eval (.tmp 1)=.pointer (some ⟨g0,0,none⟩):=E 1 rfl;exact Rgs.va (.pointer (some ⟨g0,4,none⟩)) (hX.id 4 19 _ (by decide) (by decide))
  ·have e0:a.eval (.tmp 19)=.pointer (some ⟨g0,4,none⟩):=D 4 rfl _ _ rfl rfl;have hc:=HCB.out w1 hX.kp 4 _ rfl;exact Rgs.va (.bool st) (hX.id 5 20 _ (by decide) (by decide))
  ·have l7:=Reg.not_live C h0 (j:=7) rfl rfl;obtain⟨A1,n1,c1,f1,ho1,nw1⟩:=hX.s1 (hk 3 rfl) h0;have hl1:=ho1.len;have d20:_=_:=D 5 rfl _ _ rfl rfl;refine Rgs.call rfl (Reg.wanted_free rfl) 84 #[.slice A1 n1 c1,.bool st] (by have c:=Reg.consts a;generalize a.eval=ρ at *;simp[execOp,go_sem,c.1,c.2,f1,d20]) ?_;refine((flag_any A1 n1 c1 _ st w1 ho1.rd (by rw[← hl1];have:=HN.out.2;omega)).mono fun _ _ h=>PutA.made (A:=A1) h (Nat.le_trans HB1.out.size hX.kp.size) (by omega)).mono ?_;rintro e w5⟨A5,n5,c5,rfl,ho5,hg5⟩;exact⟨_,rfl,trivial,hX.call2 (hk 3 rfl) l7 (by decide) (by decide) (by rw[S];exact(by decide:21 < 47)) nw1 ho5 hg5,fun _ _ _ h=>h⟩
  obtain⟨A5,n5,c5,e5,hX5⟩:=hX.asg (c1:=3) (c2:=6) (C 6 _ rfl (hk 6 rfl) 3 rfl) (hk 6 rfl) (by decide) (by decide) (by rw[S];exact(by decide:3 < 47));exact Rgs.val rfl (Reg.wanted_free rfl) (.slice A5 n5 c5) (by have c:=Reg.consts a;generalize a.eval=ρ at *;simp[execOp,go_sem,c.1,c.2,e5]) trivial hX5
 intro a w4 live hs hd E D Hl hX;obtain⟨A2,n2,c2,e4,ho4,hg4⟩:=hX.fin (Hl 6 (by decide)) (Hl 7 (by decide));rw[Rgs.act_ws a _ _ hs hd E [15,16,17,18,19,20,21,3] (by kernel_rfl)];simp only[List.foldl,List.setIfInBounds_toArray,List.set_cons_succ,List.set_cons_zero,e4];have HO2:=hid ho4;have HG2:=hid hg4.drew;clear E D Hl hX e4 ho4 hg4;generalize a.eval=ρ;clear a hs hd;generalize w4=w2 at HO2 HG2 ⊢;have HB2:=hid (HB1.out.trans (HO1.out.bel HG2.out HB1.out.size));have c5:=HBX.out w2 HB2.out 5 _ rfl;have hwb:=bl1 w2 (.cells #[.int .i64 (pn:Int)] 3);have hor:=HO2.out.below rfl hwb;have HC3:=hid (puti_row (zs:=[(pn:Int)]) hor (Nat.le_trans HB2.out.size hwb.size) (ownV_lit w2 3 1 w2.heap.size #[.int .i64 (pn:Int)] 1 rfl (Nat.le_refl _) (by unfold maxLen;omega)) (by decide) (by intro z hz;simp only[List.mem_cons,List.not_mem_nil,or_false] at hz;subst hz;unfold In64;have:=HPN.out;omega) (by have:=HO2.out.len;have:=HNL.out;omega) (by simp));have HOR:=hid hor;have HBL:=hid (HB2.out.trans (hwb.mono HB2.out.size));clear hor hwb;go_wp2_with (go_at_call 54;refine HC3.out.mono ?_;rintro e w3⟨A3,n3,c3,rfl,ho3,hg3⟩;have c5:=HBX.out w3 (HBL.out.trans (HOR.out.bel hg3 HBL.out.size)) 5 _ rfl);have HB3:=hid (HBL.out.trans (HOR.out.bel hg3 HBL.out.size));have HO3:=hid ho3;clear ho3 hg3 HC3 HOR HBL c5 HO1 HO2 HG1 HG2 HB1 HB2 HCB HNIL;go_loopw [3,5,31] (fun o _ q wr=>∃(k n' c':Nat) (A':Option Addr),k≤pn∧q=.int .i64 k∧o=.slice A' n' c'∧Own wr W0.heap.size A' n' c' (((((([]++Num.enc nm.size++nm.data.toList)++[bu,pe].flatMap Num.enc)++Num.enc (fl sc))++Num.enc (fl st))++[(pn:Int)].flatMap Num.enc)++(L.take k).flatMap procE)∧Below W0.heap.size W0 wr) (fun _ _ q _=>pn - (intOf q).toNat)
 case atStart=>exact⟨0,n3,c3,A3,by omega,rfl,rfl,by simpa using HO3.out,HB3.out⟩
 obtain⟨k,n1,c1,A1,hk,rfl,rfl,ho,hb⟩:=hrel;have HO:=hid ho;have HB:=hid hb;clear ho hb HB3 HO3;have HLN:Hid (n1≤1000000):=hid (by
  have h1:=HO.out.len;have h2:=HNL.out;have h3:=enc_few (pn:Int) (by unfold In64;have:=HPN.out;omega);have h4:=flat_few procE 18 (L.take k) fun q hq=>(procE_few (HPR.out q (List.mem_of_mem_take hq)));have h5:(L.take k).length≤3:=by rw[List.length_take];have:=HPN.out;omega
  simp only[List.flatMap_cons,List.flatMap_nil,List.append_nil,List.length_append] at h1 h2;omega)
 by_cases hlt:k < pn
 ·have hlti:(k:Int) < (pn:Int):=by omega
  obtain⟨ad,q,rfl,had,hx,d0,dk⟩:=(HPP.out.on (HB0.out.trans (HB.out.mono HB0.out.size))).at_ prc_len (by omega) hlt;have d0:=d0 _ rfl;have d1:=dk 1 _ (by omega) rfl;have hin:=HPR.out q (List.mem_of_getElem? hx);have HTK:Hid (L.take (k+1)=L.take k++[q]):=hid (by rw[List.take_add_one,hx];rfl);obtain⟨e1,p1⟩:=q;dsimp only at d0 d1;have hw1:=bl1 wr (.cells #[.int .i64 e1,.int .i64 p1] 59);have hw2:=hw1.trans ((bl1 (wr.alloc (.cells #[.int .i64 e1,.int .i64 p1] 59)) (.cells #[.int .i64 e1,.int .i64 p1] 3)).mono (by simp));have hor:=HO.out.below rfl hw2;have HC3:=hid (puti_row (zs:=[e1,p1]) hor (Nat.le_trans HB.out.size hw2.size) (ownV_lit (wr.alloc (.cells #[.int .i64 e1,.int .i64 p1] 59)) 3 1 w.heap.size #[.int .i64 e1,.int .i64 p1] 2 rfl (Nat.le_trans HB0.out.size (Nat.le_trans HB.out.size hw1.size)) (by unfold maxLen;omega)) (by decide) (by intro z hz;simp only[List.mem_cons,List.not_mem_nil,or_false] at hz;rcases hz with rfl | rfl;exact hin.1;exact hin.2) HLN.out (by simp));have HOR:=hid hor;have HBL:=hid (HB.out.trans (hw2.mono HB.out.size));have hsz:(wr.alloc (.cells #[.int .i64 e1,.int .i64 p1] 59)).heap.size=wr.heap.size+1:=by simp
  rw[hsz] at HC3;clear hor hw1 hw2 hin hx dk;have hp3:=HPN.out;go_wp2_with (go_at_call 54;refine HC3.out.mono ?_;rintro e w3⟨A3,n3,c3,rfl,ho3,hg3⟩);have HB3:=hid (HBL.out.trans (HOR.out.bel hg3 HBL.out.size));have HO3:=hid ho3;clear ho3 hg3 HC3 HOR HBL;go_roundw
  case rel=>exact⟨k+1,n3,c3,A3,by omega,by go_num,rfl,by rw[HTK.out,List.flatMap_append,← List.append_assoc];simpa [procE] using HO3.out,HB3.out⟩
  simp[intOf];omega
 have hlti:¬ (k:Int) < (pn:Int):=by omega
 have hke:L.take k=L:=List.take_of_length_le (by have:=HLL.out;omega);have HO4:Hid (Own wr W0.heap.size A1 n1 c1 (((((([]++Num.enc nm.size++nm.data.toList)++[bu,pe].flatMap Num.enc)++Num.enc (fl sc))++Num.enc (fl st))++[(pn:Int)].flatMap Num.enc)++L.flatMap procE)):=hid (by rw[← hke];exact HO.out);have HC4:=hid (puti_any W0.heap.size A1 n1 c1 _ ⟨g0,6,none⟩ 5 5 (fun j=>[h0,h1,h2,h3,h4][j]?.getD 0) wr (.inl HO4.out) HB.out.size (fun j hj=>by
  have h:=HBX.out wr HB.out (6+j);rcases(by omega:j=0∨j=1∨j=2∨j=3∨j=4) with rfl | rfl | rfl | rfl | rfl
  ·simpa [Addr.add] using h _ rfl
  ·simpa [Addr.add] using h _ rfl
  ·simpa [Addr.add] using h _ rfl
  ·simpa [Addr.add] using h _ rfl
  ·simpa [Addr.add] using h _ rfl) (Nat.lt_of_lt_of_le HGL.out HB.out.size) (fun e=>by have:=(OwnV.obk_ge HO4.out e).1;have:=HGL.out;have e2:(⟨g0,6,none⟩:Addr).block=g0:=rfl;omega) (fun j hj=>by
  rcases(by omega:j=0∨j=1∨j=2∨j=3∨j=4) with rfl | rfl | rfl | rfl | rfl
  ·exact HHL.out.1
  ·exact HHL.out.2.1
  ·exact HHL.out.2.2.1
  ·exact HHL.out.2.2.2.1
  exact HHL.out.2.2.2.2) HLN.out (by omega) (by omega))
 clear HO hke;go_wp2_with (go_at_call 54;refine HC4.out.mono ?_;rintro e w3⟨A3,n3,c3,rfl,ho3,hg3⟩);go_ret;have h:=mda_of (l:=_) ho3 (Nat.le_of_lt HGW.out) HB0.out (HB.out.trans (HO4.out.bel hg3 HB.out.size));rw[show encN (fun j=>[h0,h1,h2,h3,h4][j]?.getD 0) 5=[h0,h1,h2,h3,h4].flatMap Num.enc from row_enc _ [h0,h1,h2,h3,h4] fun j x hx=>by rw[hx];rfl,show ((((([]++Num.enc nm.size++nm.data.toList)++[bu,pe].flatMap Num.enc)++Num.enc (fl sc))++Num.enc (fl st))++[(pn:Int)].flatMap Num.enc)++L.flatMap procE++[h0,h1,h2,h3,h4].flatMap Num.enc=partE ⟨nm,bu,pe,sc,st,L,[h0,h1,h2,h3,h4]⟩ from by unfold partE;rw[HLL.out];simp only[List.nil_append,List.flatMap_cons,List.flatMap_nil,List.append_nil,List.append_assoc]] at h;exact h
theorem wtab_any(A:Option Addr)(n c:Nat)(T:List Nd)(w:World)(hr:RdN w w.heap.size A n T)(hn:n≤1040):Calls Tryz.prog 57 #[.slice A n c] w (MdA (tabE T) w):=by
 have HTT:=hid hr;have HTN:Hid (T.length=n∧n≤1040):=hid ⟨hr.len,hn⟩;have hwb:=bl1 w (.cells #[.int .i64 (n:Int)] 3);have hnil:Own (w.alloc (.cells #[.int .i64 (n:Int)] 3)) w.heap.size none 0 0 []:=World.ownsRow_nil _ _ _ _;have HC3:=hid (puti_row (zs:=[(n:Int)]) hnil hwb.size (ownV_lit w 3 1 w.heap.size #[.int .i64 (n:Int)] 1 rfl (Nat.le_refl _) (by unfold maxLen;omega)) (by decide) (by intro z hz;simp only[List.mem_cons,List.not_mem_nil,or_false] at hz;subst hz;unfold In64;omega) (by omega) (by simp));have HOR:=hid hnil;have HBL:=hid hwb;clear hr hnil hwb;go_enter Tryz.func57,Tryz.ntmps57;go_wp2_with (go_at_call 54;refine HC3.out.mono ?_;rintro e w3⟨A3,n3,c3,rfl,ho3,hg3⟩);have HB3:=hid (HBL.out.trans (HOR.out.bel hg3 HBL.out.size));have HO3:=hid ho3;clear ho3 hg3 HC3 HOR HBL;obtain⟨l,hl⟩:∃ l,l=[]++[(n:Int)].flatMap Num.enc:=⟨_,rfl⟩;have HL:=hid hl;have HLF:Hid (l.length≤9):=hid (by
  have h3:=enc_few (n:Int) (by unfold In64;omega);rw[hl];simpa using h3)
 rw[← hl] at HO3;clear hl;go_loopw [3,5,12] (fun o _ q wr=>∃(k n' c':Nat) (A':Option Addr),k≤n∧q=.int .i64 k∧o=.slice A' n' c'∧Own wr w.heap.size A' n' c' (l++(T.take k).flatMap nodeE)∧Below w.heap.size w wr) (fun _ _ q _=>n - (intOf q).toNat)
 case atStart=>exact⟨0,n3,c3,A3,by omega,rfl,rfl,by simpa using HO3.out,HB3.out⟩
 obtain⟨k,n1,c1,A1,hk,rfl,rfl,ho,hb⟩:=hrel;have HO:=hid ho;have HB:=hid hb;clear ho hb HB3 HO3;by_cases hlt:k < n
 ·have hlti:(k:Int) < (n:Int):=by omega
  obtain⟨ad,⟨zk,zp,zn⟩,rfl,had,hx,d0,d1,d2⟩:=(HTT.out.on HB.out).at_ hlt;have HZI:=hid (HTT.out.bd _ (List.mem_of_getElem? hx));have HTK:Hid (T.take (k+1)=T.take k++[⟨zk,zp,zn⟩]):=hid (by rw[List.take_add_one,hx];rfl);have HN5:Hid (n1≤100000):=hid (by
   have h1:=HO.out.len;have h2:=HLF.out;have h4:=flat_few nodeE 27 (T.take k) fun q hq=>nodeE_few (HTT.out.bd q (List.mem_of_mem_take hq));have h5:(T.take k).length≤1040:=by rw[List.length_take];have:=HTN.out;omega
   simp only[List.length_append] at h1;omega)
  have HN6:Hid (((l++(T.take k).flatMap nodeE)++[zk,zp].flatMap Num.enc).length≤100100):=hid (by
   have h1:=HO.out.len;have h2:=HN5.out;have h3:=enc_few zk HZI.out.1;have h4:=enc_few zp HZI.out.2.1;simp only[List.flatMap_cons,List.flatMap_nil,List.append_nil,List.length_append] at h1 ⊢;omega)
  dsimp only at d0 d1 d2;have hw1:=bl1 wr (.cells #[.int .i64 zk,.int .i64 zp,.int .i64 zn] 70);have ho5:=HO.out.below rfl hw1;have hbx:∀ o v,(#[.int .i64 zk,.int .i64 zp,.int .i64 zn]:Array Value)[o]? = some v→(wr.alloc (.cells #[.int .i64 zk,.int .i64 zp,.int .i64 zn] 70)).cell? ⟨wr.heap.size,o,none⟩=some v:=fun o v hv=>(World.cell?_alloc_mark _ _ _ _ _).trans hv;have hg5:wr.heap.size < (wr.alloc (.cells #[.int .i64 zk,.int .i64 zp,.int .i64 zn] 70)).heap.size:=by simp
  have hA5:obk A1≠some wr.heap.size:=fun e=>by have:=(OwnV.obk_ge HO.out e).2;omega
  have HB5:=hid (HB.out.trans (hw1.mono HB.out.size));clear hw1 hx had;go_upto_region 5 with fail;generalize wr.alloc (.cells #[.int .i64 zk,.int .i64 zp,.int .i64 zn] 70)=w5 at ho5 hbx hg5 HB5 ⊢;generalize wr.heap.size=g5 at hbx hg5 hA5 ⊢;have HO5:=hid ho5;have HCB:Hid (∀ V,KpS (fun q=>obk A1=some q) w5.drew V→∀(o:Nat) (v:Value),(#[.int .i64 zk,.int .i64 zp,.int .i64 zn]:Array Value)[o]? = some v→V.cell? ⟨g5,o,none⟩=some v):=hid fun V kp o v hv=>(kp.cell (p:=⟨g5,o,none⟩) hg5 hA5).trans (hbx o v hv);clear d0 d1 d2 ho5 hbx hg5 hA5 HO HB;refine Rgs.region (by kernel_rfl) (by kernel_rfl) (fun(opn:Nat) (vl:Value) (_:World)=>match opn with
    | 0=>vl=.slice A1 n1 c1
    | 1=>vl=.pointer (some ⟨g5,0,none⟩)
    | 2=>vl=.int .i64 zk
    | 3=>vl=.pointer (some ⟨g5,1,none⟩)
    | 4=>vl=.int .i64 zp
    | 7=>vl=.pointer (some ⟨g5,2,none⟩)
    | 8=>vl=.int .i64 zn
    | _=>True) (ChS w.heap.size 6 10 11 5 9 22 26 3 21 25 3 2 [.int .i64 zk,.int .i64 zp] [.int .i64 zn] (A1) n1 c1 (l++(T.take k).flatMap nodeE) ((l++(T.take k).flatMap nodeE)++[zk,zp].flatMap Num.enc) (((l++(T.take k).flatMap nodeE)++[zk,zp].flatMap Num.enc)++[zn].flatMap Num.enc) (.slice A1 n1 c1) w5.drew) (ChS.start (HO5.out) rfl) (Rgs.steps_of ?_) ?_
  ·refine⟨?_,?_,?_,?_,?_,?_,?_,?_,?_,?_,?_,?_,trivial⟩<;>intro a w1 live S E D C h0 hk hX
   ·have l6:=Reg.not_live C h0 (j:=6) rfl rfl;have l10:=Reg.not_live C l6 (j:=10) rfl rfl;have l11:=Reg.not_live C l10 (j:=11) rfl rfl;have e0:=hX.e3 l11;exact Rgs.va (.slice A1 n1 c1) (hX.id 0 16 _ (by decide) (by decide))
   ·have e0:a.eval (.tmp 5)=.pointer (some ⟨g5,0,none⟩):=E 5 rfl;exact Rgs.va (.pointer (some ⟨g5,0,none⟩)) (hX.id 1 17 _ (by decide) (by decide))
   ·have e0:a.eval (.tmp 17)=.pointer (some ⟨g5,0,none⟩):=D 1 rfl _ _ rfl rfl;have hc:=HCB.out w1 hX.kp 0 _ rfl;exact Rgs.va (.int .i64 zk) (hX.id 2 18 _ (by decide) (by decide))
   ·have e0:a.eval (.tmp 5)=.pointer (some ⟨g5,0,none⟩):=E 5 rfl;exact Rgs.va (.pointer (some ⟨g5,1,none⟩)) (hX.id 3 19 _ (by decide) (by decide))
   ·have e0:a.eval (.tmp 19)=.pointer (some ⟨g5,1,none⟩):=D 3 rfl _ _ rfl rfl;have hc:=HCB.out w1 hX.kp 1 _ rfl;exact Rgs.va (.int .i64 zp) (hX.id 4 20 _ (by decide) (by decide))
   ·have e0:a.eval (.tmp 18)=.int .i64 zk:=D 2 rfl _ _ rfl rfl;have e1:a.eval (.tmp 20)=.int .i64 zp:=D 4 rfl _ _ rfl rfl;exact Rgs.grow rfl (Reg.wanted_free rfl) (.slice (some ⟨w1.heap.size,0,none⟩) 2 2) (w1.alloc (.cells #[.int .i64 zk,.int .i64 zp] 3)) (by have c:=Reg.consts a;generalize a.eval=ρ at *;simp[execOp,go_sem,c.1,c.2,e0,e1]) trivial (hX.lit1 (by decide) (by decide) (by simp) (by rw[S];exact(by decide:21 < 29))) (fun _ _ _ h=>h)
   ·have l10:=Reg.not_live C h0 (j:=10) rfl rfl;obtain⟨gq,dq,hq⟩:=hX.p1 (hk 5 rfl) h0;have dq2:a.eval (.tmp 21)=.slice (some ⟨gq,0,none⟩) 2 2:=dq;have d16:_=_:=D 0 rfl _ _ rfl rfl;refine Rgs.call rfl (Reg.wanted_free rfl) 54 #[.slice A1 n1 c1,.slice (some ⟨gq,0,none⟩) 2 2] (by have c:=Reg.consts a;generalize a.eval=ρ at *;simp[execOp,go_sem,c.1,c.2,dq2,d16]) ?_;refine(puti_row (E:=3) (zs:=[zk,zp]) (hX.s0 h0) (Nat.le_trans HB5.out.size hX.kp.size) hq (by decide) (by intro z hz;simp only[List.mem_cons,List.not_mem_nil,or_false] at hz;rcases hz with rfl | rfl;exact HZI.out.1;exact HZI.out.2.1) (by have:=HN5.out;omega) (by simp)).mono ?_;rintro e w5⟨A5,n5,c5,rfl,ho5,hg5⟩;exact⟨_,rfl,trivial,hX.call1 h0 l10 (by decide) (by decide) (by decide) (by rw[S];exact(by decide:22 < 29)) ho5 hg5,fun _ _ _ h=>h⟩
   ·have e0:a.eval (.tmp 5)=.pointer (some ⟨g5,0,none⟩):=E 5 rfl;exact Rgs.va (.pointer (some ⟨g5,2,none⟩)) (hX.id 7 23 _ (by decide) (by decide))
   ·have e0:a.eval (.tmp 23)=.pointer (some ⟨g5,2,none⟩):=D 7 rfl _ _ rfl rfl;have hc:=HCB.out w1 hX.kp 2 _ rfl;exact Rgs.va (.int .i64 zn) (hX.id 8 24 _ (by decide) (by decide))
   ·have e0:a.eval (.tmp 24)=.int .i64 zn:=D 8 rfl _ _ rfl rfl;exact Rgs.grow rfl (Reg.wanted_free rfl) (.slice (some ⟨w1.heap.size,0,none⟩) 1 1) (w1.alloc (.cells #[.int .i64 zn] 2)) (by have c:=Reg.consts a;generalize a.eval=ρ at *;simp[execOp,go_sem,c.1,c.2,e0]) trivial (hX.lit2 (by decide) (by decide) (by simp) (by rw[S];exact(by decide:25 < 29))) (fun _ _ _ h=>h)
   ·have l11:=Reg.not_live C h0 (j:=11) rfl rfl;obtain⟨A1,n1,c1,f1,ho1,nw1⟩:=hX.s1 (hk 6 rfl) h0;have hl1:=ho1.len;obtain⟨gq,dq,hq⟩:=hX.p2 (hk 9 rfl) h0;have dq2:a.eval (.tmp 25)=.slice (some ⟨gq,0,none⟩) 1 1:=dq;refine Rgs.call rfl (Reg.wanted_free rfl) 82 #[.slice A1 n1 c1,.slice (some ⟨gq,0,none⟩) 1 1] (by have c:=Reg.consts a;generalize a.eval=ρ at *;simp[execOp,go_sem,c.1,c.2,f1,dq2]) ?_;refine(putl_row (E:=2) (zs:=[zn]) (ho1) (Nat.le_trans HB5.out.size hX.kp.size) hq (by decide) (by intro z hz;simp only[List.mem_cons,List.not_mem_nil,or_false] at hz;subst hz;exact HZI.out.2.2) (by rw[← hl1];have:=HN6.out;omega) (by simp)).mono ?_;rintro e w5⟨A5,n5,c5,rfl,ho5,hg5⟩;exact⟨_,rfl,trivial,hX.call2 (hk 6 rfl) l11 (by decide) (by decide) (by rw[S];exact(by decide:26 < 29)) nw1 ho5 hg5,fun _ _ _ h=>h⟩
   obtain⟨A5,n5,c5,e5,hX5⟩:=hX.asg (c1:=6) (c2:=10) (C 10 _ rfl (hk 10 rfl) 6 rfl) (hk 10 rfl) (by decide) (by decide) (by rw[S];exact(by decide:3 < 29));exact Rgs.val rfl (Reg.wanted_free rfl) (.slice A5 n5 c5) (by have c:=Reg.consts a;generalize a.eval=ρ at *;simp[execOp,go_sem,c.1,c.2,e5]) trivial hX5
  intro a w4 live hs hd E D Hl hX;obtain⟨A2,n2,c2,e4,ho4,hg4⟩:=hX.fin (Hl 10 (by decide)) (Hl 11 (by decide));rw[Rgs.act_ws a _ _ hs hd E [16,17,18,19,20,21,22,23,24,25,26,3] (by kernel_rfl)];simp only[List.foldl,List.setIfInBounds_toArray,List.set_cons_succ,List.set_cons_zero,e4];have HO2:=hid ho4;have HG2:=hid hg4.drew;clear E D Hl hX e4 ho4 hg4;generalize a.eval=ρ;clear a hs hd;generalize w4=w2 at HO2 HG2 ⊢;have HB3:=hid (HB5.out.trans (HO5.out.bel HG2.out HB5.out.size));clear HCB HG2 HO5 HB5 HN5;have ht3:=HTN.out.2;go_wp2_with fail;go_roundw
  case rel=>exact⟨k+1,n2,c2,A2,by omega,by go_num,rfl,by rw[HTK.out,List.flatMap_append,← List.append_assoc];simpa [nodeE] using HO2.out,HB3.out⟩
  simp[intOf];omega
 have hlti:¬ (k:Int) < (n:Int):=by omega
 have hke:T.take k=T:=List.take_of_length_le (by have:=HTN.out;omega);rw[hke,HL.out] at HO;clear hke;go_wp2_with fail;go_ret;exact⟨A1,n1,c1,rfl,by
  have h:=HO.out;rw[show []++[(n:Int)].flatMap Num.enc++T.flatMap nodeE=tabE T from by unfold tabE;rw[HTN.out.1];simp only[List.nil_append,List.flatMap_cons,List.flatMap_nil,List.append_nil]] at h;exact h,HB.out⟩
end Go.Proofs.YtdkngfdnfekgfaaGreat
