import Derived.Test.YtdkngfdnfekgfaaGreatLot43
set_option maxHeartbeats 16000000
set_option maxRecDepth 100000
set_option linter.unusedSimpArgs false
set_option linter.unusedVariables false
namespace Go.Proofs.YtdkngfdnfekgfaaGreat
open Go.RowKit Tab
structure ModS(B gc:Nat)(x:Cf)(w:World):Prop where
 cf:OwnV 26 3 w B (some ⟨gc,0,none⟩) 1 1 [.slice x.A1 x.n1 x.c1,.slice x.A2 x.n2 x.c2,.slice x.A3 x.n3 x.c3]
 pp:OwnV 57 11 w B x.A1 x.n1 x.c1 (x.P.flatMap pcq)
 ch:OwnV 63 6 w B x.A2 x.n2 x.c2 (x.C.flatMap cc)
 tb:OwnV 64 1 w B x.A3 x.n3 x.c3 (x.T.flatMap tcn)
 pt:∀ y∈x.P,OwnV 59 2 w B y.1.pa y.1.pn y.1.pc (y.2.flatMap prc)
 tt:∀ y∈x.T,OwnV 70 3 w B y.A y.n y.c (ns y.l)
 ln:x.P.length=x.n1∧x.C.length=x.n2∧x.T.length=x.n3
 sm:x.n1≤6∧x.n2≤8∧x.n3≤3
 fp:∀ y∈x.P,(y.2.length=y.1.pn∧y.1.pn≤3)∧In64 y.1.per∧y.1.name.size≤12
 ft:∀ y∈x.T,y.l.length=y.n∧y.n≤128∧∀ z∈y.l,NdIn z
theorem ModS.rd{B gc:Nat}{x:Cf}{w:World}(h:ModS B gc x w):CfR w x:=by
 obtain⟨s1,s2,s3⟩:=h.sm;refine⟨⟨h.ln.1,h.pp.rd⟩,⟨h.ln.2.1,h.ch.rd⟩,⟨h.ln.2.2,h.tb.rd⟩,fun y hy=>?_,fun y hy=>?_,h.pp.cap,h.ch.cap,h.tb.cap,by omega,by omega,by omega,⟨by omega,by omega,by omega,fun y hy=>?_,fun y hy=>?_⟩⟩
 ·obtain⟨⟨f1,f2⟩,f3,f4⟩:=h.fp y hy;exact⟨⟨f3,by omega,⟨f1,(h.pt y hy).rd⟩⟩,(h.pt y hy).cap,by omega⟩
 ·obtain⟨f1,f2,f3⟩:=h.ft y hy;exact⟨⟨f1,(h.tt y hy).rd,f3⟩,(h.tt y hy).cap,by omega⟩
 ·have:=h.fp y hy;omega
 have:=h.ft y hy;omega
section
variable {B b g gc n1 n2 n3 c1 c2 c3:Nat} {A1 A2 A3:Option Addr} {P:List Pq} {C:List ChV} {T:List NdT} {w w':World} {TR tr:Nat} {lr:List Value}
theorem ModS.kept{x:Cf}{A:Option Addr}{E0 s0 n0 c0:Nat}{l0:List Value}(h:ModS B gc x w)(hr:OwnV TR tr w b (some ⟨g,0,none⟩) 1 1 lr)(h0:OwnV E0 s0 w B A n0 c0 l0)(k:KpS (fun q=>q=g∨q=gc∨obk A=some q) w w'){E s n c:Nat}{D:Option Addr}{l:List Value}(ho:OwnV E s w B D n c l)(e1:E≠TR)(e2:E≠26)(e3:E≠E0):OwnV E s w' B D n c l :=
 k.own ho fun j e=>by
  rintro (e4 | e4 | e4)
  ·exact ho.ne hr e1 j e (by rw[e4];rfl)
  ·exact ho.ne h.cf e2 j e (by rw[e4];rfl)
  ·exact ho.ne h0 e3 j e e4
theorem ModS.addP(h:ModS B gc ⟨A1,A2,A3,n1,n2,n3,c1,c2,c3,P,C,T⟩ w)(hr:OwnV TR tr w b (some ⟨g,0,none⟩) 1 1 lr)(k:KpS (fun q=>q=g∨q=gc∨obk A1=some q) w w')(t:57≠TR∧63≠TR∧64≠TR∧59≠TR∧70≠TR){A':Option Addr}{c':Nat}(y:Pq)(hp:(y.2.length=y.1.pn∧y.1.pn≤3)∧In64 y.1.per∧y.1.name.size≤12)
  (ho2:OwnV 59 2 w' B y.1.pa y.1.pn y.1.pc (y.2.flatMap prc)) (ho1:OwnV 57 11 w' B A' (n1+1) c' (P.flatMap pcq++pcq y)) (hc:OwnV 26 3 w' B (some ⟨gc,0,none⟩) 1 1 [.slice A' (n1+1:Nat) c',.slice A2 n2 c2,.slice A3 n3 c3]) (hn:n1 < 6) :
  ModS B gc ⟨A',A2,A3,n1+1,n2,n3,c',c2,c3,P++[y],C,T⟩ w':=by
 obtain⟨t1,t2,t3,t4,t5⟩:=t
 refine⟨hc,by show OwnV _ _ _ _ _ _ _ ((P++[y]).flatMap pcq);rw[List.flatMap_append];simpa using ho1,h.kept hr h.pp k h.ch t2 (by decide) (by decide),h.kept hr h.pp k h.tb t3 (by decide) (by decide),fun z hz=>?_,fun z hz=>h.kept hr h.pp k (h.tt z hz) t5 (by decide) (by decide),⟨by show (P++[y]).length=n1+1;rw[List.length_append,h.ln.1];rfl,h.ln.2⟩,⟨hn,h.sm.2⟩,fun z hz=>?_,h.ft⟩
 ·rcases List.mem_append.1 hz with hz | hz
  ·exact h.kept hr h.pp k (h.pt z hz) t4 (by decide) (by decide)
  ·rw[List.mem_singleton.1 hz];exact ho2
 ·rcases List.mem_append.1 hz with hz | hz
  ·exact h.fp z hz
  ·rw[List.mem_singleton.1 hz];exact hp
theorem ModS.addC(h:ModS B gc ⟨A1,A2,A3,n1,n2,n3,c1,c2,c3,P,C,T⟩ w)(hr:OwnV TR tr w b (some ⟨g,0,none⟩) 1 1 lr)(k:KpS (fun q=>q=g∨q=gc∨obk A2=some q) w w')(t:57≠TR∧63≠TR∧64≠TR∧59≠TR∧70≠TR){A':Option Addr}{c':Nat}(y:ChV)
  (ho1:OwnV 63 6 w' B A' (n2+1) c' (C.flatMap cc++cc y)) (hc:OwnV 26 3 w' B (some ⟨gc,0,none⟩) 1 1 [.slice A1 n1 c1,.slice A' (n2+1:Nat) c',.slice A3 n3 c3]) (hn:n2 < 8) :
  ModS B gc ⟨A1,A',A3,n1,n2+1,n3,c1,c',c3,P,C++[y],T⟩ w':=by
 obtain⟨t1,t2,t3,t4,t5⟩:=t
 exact⟨hc,h.kept hr h.ch k h.pp t1 (by decide) (by decide),by show OwnV _ _ _ _ _ _ _ ((C++[y]).flatMap cc);rw[List.flatMap_append];simpa using ho1,h.kept hr h.ch k h.tb t3 (by decide) (by decide),fun z hz=>h.kept hr h.ch k (h.pt z hz) t4 (by decide) (by decide),fun z hz=>h.kept hr h.ch k (h.tt z hz) t5 (by decide) (by decide),⟨h.ln.1,by show (C++[y]).length=n2+1;rw[List.length_append,h.ln.2.1];rfl,h.ln.2.2⟩,⟨h.sm.1,hn,h.sm.2.2⟩,h.fp,h.ft⟩
theorem ModS.addT(h:ModS B gc ⟨A1,A2,A3,n1,n2,n3,c1,c2,c3,P,C,T⟩ w)(hr:OwnV TR tr w b (some ⟨g,0,none⟩) 1 1 lr)(k:KpS (fun q=>q=g∨q=gc∨obk A3=some q) w w')(t:57≠TR∧63≠TR∧64≠TR∧59≠TR∧70≠TR){A':Option Addr}{c':Nat}(y:NdT)(hp:y.l.length=y.n∧y.n≤128∧∀ z∈y.l,NdIn z)
  (ho2:OwnV 70 3 w' B y.A y.n y.c (ns y.l)) (ho1:OwnV 64 1 w' B A' (n3+1) c' (T.flatMap tcn++tcn y)) (hc:OwnV 26 3 w' B (some ⟨gc,0,none⟩) 1 1 [.slice A1 n1 c1,.slice A2 n2 c2,.slice A' (n3+1:Nat) c']) (hn:n3 < 3) :
  ModS B gc ⟨A1,A2,A',n1,n2,n3+1,c1,c2,c',P,C,T++[y]⟩ w':=by
 obtain⟨t1,t2,t3,t4,t5⟩:=t
 refine⟨hc,h.kept hr h.tb k h.pp t1 (by decide) (by decide),h.kept hr h.tb k h.ch t2 (by decide) (by decide),by show OwnV _ _ _ _ _ _ _ ((T++[y]).flatMap tcn);rw[List.flatMap_append];simpa using ho1,fun z hz=>h.kept hr h.tb k (h.pt z hz) t4 (by decide) (by decide),fun z hz=>?_,⟨h.ln.1,h.ln.2.1,by show (T++[y]).length=n3+1;rw[List.length_append,h.ln.2.2];rfl⟩,⟨h.sm.1,h.sm.2.1,hn⟩,h.fp,fun z hz=>?_⟩
 ·rcases List.mem_append.1 hz with hz | hz
  ·exact h.kept hr h.tb k (h.tt z hz) t5 (by decide) (by decide)
  ·rw[List.mem_singleton.1 hz];exact ho2
 ·rcases List.mem_append.1 hz with hz | hz
  ·exact h.ft z hz
  ·rw[List.mem_singleton.1 hz];exact hp
end
def KPt(TR tr:Nat)(K:PtK):ApK Pq:=⟨57,11,59,2,26,3,TR,tr,fun y=>pv y.1,pcq,fun y=>y.1.pa,fun y=>y.1.pn,fun y=>y.1.pc,fun y=>y.2.flatMap prc,fun y=>coreK y=K∧(y.2.length=y.1.pn∧y.1.pn≤3)∧In64 y.1.per∧y.1.name.size≤12⟩
def KCh(TR tr:Nat)(K:ChV):ApK ChV:=⟨63,6,5,1,26,3,TR,tr,cv,cc,fun _=>none,fun _=>0,fun _=>0,fun _=>[],fun y=>y=K⟩
def KTb(TR tr:Nat)(K:List Nd):ApK NdT:=⟨64,1,70,3,26,3,TR,tr,fun y=>.slice y.A y.n y.c,tcn,fun y=>y.A,fun y=>y.n,fun y=>y.c,fun y=>ns y.l,fun y=>y.l=K∧y.l.length=y.n⟩
section
variable {b B g:Nat} (s0 s1:List UInt8) (h:b≤B)
include h
theorem kpt_g(K:PtK):ApG (KPt 80 1 K) (fun k=>k == 3 || k == 3) (RDL b g s0 s1 s1 3 3) b g B B 4 5 7:=⟨rdl_ph _ _ _ _ _ _ _,Nat.ne_of_beq_eq_false rfl,Nat.ne_of_beq_eq_false rfl,Nat.ne_of_beq_eq_false rfl,Nat.ne_of_beq_eq_false rfl,Nat.ne_of_beq_eq_false rfl,Nat.ne_of_beq_eq_false rfl,h,h,rfl,rfl,rfl,by decide,by decide,by decide⟩
theorem kch_g(K:ChV):ApG (KCh 80 1 K) (fun k=>k == 3 || k == 3) (RDL b g s0 s1 s1 3 3) b g B B 4 5 7:=⟨rdl_ph _ _ _ _ _ _ _,Nat.ne_of_beq_eq_false rfl,Nat.ne_of_beq_eq_false rfl,Nat.ne_of_beq_eq_false rfl,Nat.ne_of_beq_eq_false rfl,Nat.ne_of_beq_eq_false rfl,Nat.ne_of_beq_eq_false rfl,h,h,rfl,rfl,rfl,by decide,by decide,by decide⟩
theorem ktb_g(K:List Nd):ApG (KTb 80 1 K) (fun k=>k == 3 || k == 3) (RDL b g s0 s1 s1 3 3) b g B B 4 5 7:=⟨rdl_ph _ _ _ _ _ _ _,Nat.ne_of_beq_eq_false rfl,Nat.ne_of_beq_eq_false rfl,Nat.ne_of_beq_eq_false rfl,Nat.ne_of_beq_eq_false rfl,Nat.ne_of_beq_eq_false rfl,Nat.ne_of_beq_eq_false rfl,h,h,rfl,rfl,rfl,by decide,by decide,by decide⟩
end
theorem nodes_in{s:List UInt8}{n:Nat}:∀ z∈(rowG (nodeG RP) n s).1,NdIn z:=by
 induction n with
 | zero=>intro z hz;cases hz
 | succ n ih =>
  intro z hz;unfold rowG at hz;rcases List.mem_append.1 hz with hz | hz
  ·exact ih z hz
  rw[List.mem_singleton.1 hz];exact⟨nv_in _,nv_in _,nv_in _⟩
def ModE(b g:Nat)(G:CfK×List UInt8)(w:World)(e:Ending)(w':World):Prop:=∃ y:Cf,e=.returned (cfv y)∧coreX y=G.1∧(∃ gc,ModS w.heap.size gc y w')∧MaxX y∧RpI b g G.2 w w'
theorem chansG_P(s:List UInt8):chansG RP s=rowG (chanG RP) (cntG 8 (nv s)) (nx s):=rfl
theorem rowG_succ{σ α:Type}(f:σ→α×σ)(n:Nat)(s:σ):rowG f (n+1) s=((rowG f n s).1++[(f (rowG f n s).2).1],(f (rowG f n s).2).2):=rfl
theorem maxs_in{s:List UInt8}{n:Nat}:∀ y∈(rowG (chanG RP) n s).1,0≤y.max∧y.max≤4294967295:=by
 induction n with
 | zero=>intro z hz;cases hz
 | succ n ih =>
  intro z hz;rw[rowG_succ] at hz;rcases List.mem_append.1 hz with hz | hz
  ·exact ih z hz
  rw[List.mem_singleton.1 hz,chanG_P];show 0≤IntKind.u32.wrap _∧IntKind.u32.wrap _≤4294967295;rw[IntKind.wrap_u32'];omega
theorem tab_few(s:List UInt8):(tabG RP s).1.length≤128:=by rw[tabG_P,rowG_len];exact cntG_le _ _
theorem i_cfv(A1 A2 A3:Option Addr){n1 n2 n3 c1 c2 c3:Nat}:∀ u∈[Value.slice A1 n1 c1,.slice A2 n2 c2,.slice A3 n3 c3],u.oneCell'=true:=by
 intro u hu;simp only[List.mem_cons,List.not_mem_nil,or_false] at hu;rcases hu with rfl | rfl | rfl <;> rfl
theorem ModS.on{B gc:Nat}{x:Cf}{w w':World}(h:ModS B gc x w)(q:∀ {E s n c:Nat} {A:Option Addr} {l:List Value},OwnV E s w B A n c l→E≠80→OwnV E s w' B A n c l):ModS B gc x w' :=
 ⟨q h.cf (by decide),q h.pp (by decide),q h.ch (by decide),q h.tb (by decide),fun y hy=>q (h.pt y hy) (by decide),fun y hy=>q (h.tt y hy) (by decide),h.ln,h.sm,h.fp,h.ft⟩
theorem ModS.keep{B gc:Nat}{x:Cf}{S:Nat→Prop}{w w':World}(h:ModS B gc x w)(k:KpS S w w')(hS:∀ j,S j→j < B):ModS B gc x w' :=
 have q:∀ {E s n c:Nat} {A:Option Addr} {l:List Value},OwnV E s w B A n c l→OwnV E s w' B A n c l:=fun ho=>k.own ho fun j e e2=>absurd (ho.obk_ge e).1 (by have:=hS j e2;omega)
 ⟨q h.cf,q h.pp,q h.ch,q h.tb,fun y hy=>q (h.pt y hy),fun y hy=>q (h.tt y hy),h.ln,h.sm,h.fp,h.ft⟩
theorem ModS.on2{B gc g2:Nat}{x:Cf}{w w':World}{l:List Value}(h:ModS B gc x w)(hr:OwnV 26 3 w B (some ⟨g2,0,none⟩) 1 1 l)(hg:w.grownBy w' (some g2))(hne:gc≠g2):ModS B gc x w' :=
 have q:∀ {E s n c:Nat} {A:Option Addr} {l:List Value},OwnV E s w B A n c l→E≠26→OwnV E s w' B A n c l:=fun ho e=>KpS.row hg ho hr e
 ⟨OwnV.keep' h.cf fun k e=>hg.block k (OwnV.older h.cf e) fun e2=>hne ((Option.some.inj e).trans (Option.some.inj e2)),q h.pp (by decide),q h.ch (by decide),q h.tb (by decide),fun y hy=>q (h.pt y hy) (by decide),fun y hy=>q (h.tt y hy) (by decide),h.ln,h.sm,h.fp,h.ft⟩
theorem imodule_any{b g:Nat}{s:List UInt8}{w:World}(h:ImR b g s w):Calls Tryz.prog 35 #[.pointer (some ⟨g,0,none⟩)] w (ModE b g (confG RP s) w):=by
 have hb0:=bl1 w (.cells #[.slice none 0 0,.slice none 0 0,.slice none 0 0] 26);have hb1:=hb0.trans ((bl1 (w.alloc (.cells #[.slice none 0 0,.slice none 0 0,.slice none 0 0] 26)) (.cells #[.slice none 0 0,.slice none 0 0,.slice none 0 0] 26)).mono hb0.size);have HO:=hid (OwnV.below (ownV_lit w 26 3 w.heap.size #[.slice none 0 0,.slice none 0 0,.slice none 0 0] 1 rfl (Nat.le_refl _) (by unfold maxLen;omega)) rfl (bl1 (w.alloc (.cells #[.slice none 0 0,.slice none 0 0,.slice none 0 0] 26)) (.cells #[.slice none 0 0,.slice none 0 0,.slice none 0 0] 26)));have HO2:=hid (ownV_lit (w.alloc (.cells #[.slice none 0 0,.slice none 0 0,.slice none 0 0] 26)) 26 3 w.heap.size #[.slice none 0 0,.slice none 0 0,.slice none 0 0] 1 rfl hb0.size (by unfold maxLen;omega));have hsz:(w.alloc (.cells #[.slice none 0 0,.slice none 0 0,.slice none 0 0] 26)).heap.size=w.heap.size+1:=by simp
 have HS:=hid (show ImR b g s _ from h.bel hb1);have HB:=hid hb1;have HBW:=hid h.ge;have HEC:Hid (confG RP s=(⟨(partsG RP s).1,(chansG RP (partsG RP s).2).1,(tabsG RP (chansG RP (partsG RP s).2).2).1⟩,(tabsG RP (chansG RP (partsG RP s).2).2).2)):=hid rfl;rw[hsz] at HO2;generalize confG RP s=G at HEC ⊢;clear hb0 hb1 h hsz;go_enter Tryz.func35,Tryz.ntmps35;go_upto_region 2 with fail;generalize (w.alloc (.cells #[.slice none 0 0,.slice none 0 0,.slice none 0 0] 26)).alloc (.cells #[.slice none 0 0,.slice none 0 0,.slice none 0 0] 26)=W0 at HS HO HO2 HB ⊢;obtain⟨gc,hgc⟩:∃ g,g=w.heap.size+1:=⟨_,rfl⟩;rw[← hgc] at HO2 ⊢;obtain⟨g2,hg2⟩:∃ g,g=w.heap.size:=⟨_,rfl⟩;have HRS1:Hid (OwnV 26 3 W0 w.heap.size (some ⟨g2,0,none⟩) 1 1 [.slice none 0 0,.slice none 0 0,.slice none 0 0]):=hid (by rw[hg2];exact HO.out);have HLT:Hid (g2 < gc∧w.heap.size≤gc):=hid (by omega);have HG2:=hid hg2;rw[← hg2];clear HO hgc hg2;have q2:RpI b g s W0 W0:=RpI.refl HS.out;obtain⟨M1,hmin⟩:∃ M,min (nv s) 6=M:=⟨_,rfl⟩;have HM1:Hid ((cntG 6 (nv s):Int)=max M1 0):=hid (by unfold cntG;omega);have hM1:M1≤6:=by omega
 have hif2:(if (6:Int) < nv s then 6 else nv s)=M1:=by split <;> omega
 have HMX:=hid (cntG_le 6 (nv s));have HGG1:Hid (partsG RP s=rowG (partG RP) (cntG 6 (nv s)) (nx s)):=hid rfl;generalize cntG 6 (nv s)=m1 at HM1 HMX HGG1;obtain⟨u1,hu1⟩:∃ u,u=nx s:=⟨_,rfl⟩;rw[← hu1] at HGG1;go_wp2_with (go_at_call 60;refine(q2.step nnumber).mono ?_;clear q2;rintro e w4⟨rfl,q2⟩);rw[← hu1] at q2;clear hmin hif2 hu1;have HCF:=hid (q2.own HS.out HO2.out (by decide));have HRS0:=hid (q2.own HS.out HRS1.out (by decide));have HGB0:Hid (w.grownBy w4 (some g)):=hid (gb_lay HB.out q2.gb);go_loopw [7] (fun v wr=>∃(k:Nat) (x:Cf),k≤m1∧v=.int .i64 k∧ModS w.heap.size gc x wr∧x.P.map coreK=(rowG (partG RP) k u1).1∧x.C=[]∧x.T=[]∧x.n1=k∧ImR b g (rowG (partG RP) k u1).2 wr∧OwnV 26 3 wr w.heap.size (some ⟨g2,0,none⟩) 1 1 [.slice none 0 0,.slice none 0 0,.slice none 0 0]∧w.grownBy wr (some g)) (fun v _=>m1 - (intOf v).toNat)
 case atStart=>exact⟨0,⟨none,none,none,0,0,0,0,0,0,[],[],[]⟩,by omega,rfl,⟨HCF.out,OwnV.nil _ _ _ _,OwnV.nil _ _ _ _,OwnV.nil _ _ _ _,fun y hy=>(by cases hy),fun y hy=>(by cases hy),⟨rfl,rfl,rfl⟩,⟨Nat.zero_le _,Nat.zero_le _,Nat.zero_le _⟩,fun y hy=>(by cases hy),fun y hy=>(by cases hy)⟩,rfl,rfl,rfl,rfl,q2.r,HRS0.out,HGB0.out⟩
 obtain⟨k,⟨A1,A2,A3,n1,n2,n3,c1,c2,c3,P,C,T⟩,hk,rfl,hms,hP,hC,hT,hnk,hqr,hrs,hgb⟩:=hrel;have HE:Hid (rowG (partG RP) (k+1) u1=((rowG (partG RP) k u1).1++[(partG RP (rowG (partG RP) k u1).2).1],(partG RP (rowG (partG RP) k u1).2).2)):=hid rfl;obtain⟨⟨l,t⟩,hr⟩:∃ r,r=rowG (partG RP) k u1:=⟨_,rfl⟩;rw[← hr] at hqr HE hP;have HRR:=hid hr.symm;dsimp only at hP hC hT hnk hqr HE;have HP:=hid hP;have HC:=hid hC;have HT:=hid hT;have HNK:=hid hnk;have HQR:=hid hqr;have HMS:=hid hms;have HRS:=hid hrs;have HGB:=hid hgb;have hm:=HM1.out;have hm3:=HMX.out;have HSZ:Hid (w.heap.size≤wr.drew.heap.size):=hid hgb.size;obtain⟨vr,hrr,_⟩:=hqr;have HR:=hid hrr;clear hr hP hC hT hnk hrr hms hrs hgb q2;by_cases hlt:k < m1
 ·have hlti:(k:Int) < M1:=by omega
  have HRK:Hid (¬ (g2=g∨g2=gc∨obk A1=some g2)):=hid (by
   rintro (e | e | e)
   ·exact HRS.out.ne HR.out (by decide) g2 rfl (by rw[e];rfl)
   ·have:=HLT.out;omega
   exact HRS.out.ne HMS.out.pp (by decide) g2 rfl e)
  go_upto_region 4 with fail;refine Rgs.region (by kernel_rfl) (by kernel_rfl) (fun(opn:Nat) (vl:Value) (_:World)=>match opn with
    | 0=>vl=.pointer (some ⟨gc,0,none⟩)
    | 1=>vl=.slice A1 n1 c1
    | 2=>vl=.pointer (some ⟨g,0,none⟩)
    | 6=>vl=.pointer (some ⟨gc,0,none⟩)
    | _=>True) (ApS (KPt 80 1 (partG RP t).1) (RDL b g t (partG RP t).2 (partG RP t).2 3 3) g w.heap.size w.heap.size gc 3 4 5 7 12 13 14 0 [.slice A1 n1 c1,.slice A2 n2 c2,.slice A3 n3 c3] A1 n1 c1 ((P.flatMap pcq)) wr.drew) (ApS.start (rdl_start (HQR.out.bel (Below.refl _ _).drew)) HMS.out.pp HMS.out.cf) (Rgs.steps_of ?_) ?_
  ·refine⟨?_,?_,?_,?_,?_,?_,?_,?_,trivial⟩<;>intro a w1 live S E D C h0 hk hX
   ·have e0:a.eval (.tmp 3)=.pointer (some ⟨gc,0,none⟩):=E 3 rfl;exact Rgs.va (.pointer (some ⟨gc,0,none⟩)) (hX.id (kpt_g t (partG RP t).2 HBW.out (partG RP t).1) 0 9 _ (by decide) (by decide) rfl)
   ·have l5:=Reg.not_live C h0 (j:=5) rfl rfl;have l7:=Reg.not_live C l5 (j:=7) rfl rfl;have e0:a.eval (.tmp 9)=.pointer (some ⟨gc,0,none⟩):=D 0 rfl _ _ rfl rfl;have hc:=(rowf (hX.cel l7) 0 _ rfl).1;exact Rgs.va (.slice A1 n1 c1) (hX.id (kpt_g t (partG RP t).2 HBW.out (partG RP t).1) 1 10 _ (by decide) (by decide) rfl)
   ·have e0:a.eval (.tmp 0)=.pointer (some ⟨g,0,none⟩):=E 0 rfl;exact Rgs.va (.pointer (some ⟨g,0,none⟩)) (hX.id (kpt_g t (partG RP t).2 HBW.out (partG RP t).1) 2 11 _ (by decide) (by decide) rfl)
   ·have d11:_=_:=D 2 rfl _ _ rfl rfl;have l4:=Reg.not_live C h0 (j:=4) rfl rfl;have l5:=Reg.not_live C l4 (j:=5) rfl rfl;have l7:=Reg.not_live C l5 (j:=7) rfl rfl;have hr:=hX.rd;unfold RDL at hr;simp only[h0,if_true,Bool.false_eq_true,if_false] at hr;refine Rgs.call rfl (Reg.wanted_free rfl) 61 #[.pointer (some ⟨g,0,none⟩)] (by have c:=Reg.consts a;generalize a.eval=ρ at *;simp[execOp,go_sem,c.1,c.2,d11]) ?_;refine(ipart_any hr).mono ?_;rintro e w5⟨y,rfl,⟨p1,p2,p3,ho⟩,q5⟩;have hy:=And.intro p1 (And.intro p2 p3)
    replace ho:=ho.weak (Nat.le_trans HSZ.out hX.kp.size);exact⟨_,rfl,trivial,hX.mk' (kpt_g t (partG RP t).2 HBW.out (partG RP t).1) l4 l5 l7 (by decide) q5.gb (by unfold RDL;simp only[Rgs.upd_self,if_true];exact q5.r) y hy ho (by rw[S];exact(by decide:12 < 44)),fun _ _ _ h=>h⟩
   ·have l5:=Reg.not_live C h0 (j:=5) rfl rfl;have l7:=Reg.not_live C l5 (j:=7) rfl rfl;obtain⟨y,hy,hX2⟩:=hX.lit (kpt_g t (partG RP t).2 HBW.out (partG RP t).1) (hk 3 rfl) h0 l5 l7 (by decide) (fun _=>rfl) (by rw[S];exact(by decide:13 < 44));have hy2:a.eval (.tmp 12)=.agg #[.string y.1.name,.int .i64 y.1.bud,.int .i64 y.1.per,.bool y.1.sched,.bool y.1.stop,.slice y.1.pa y.1.pn y.1.pc,.int .i64 y.1.h0,.int .i64 y.1.h1,.int .i64 y.1.h2,.int .i64 y.1.h3,.int .i64 y.1.h4]:=hy;exact Rgs.grow rfl (Reg.wanted_free rfl) (.slice (some ⟨w1.heap.size,0,none⟩) 1 1) (w1.alloc (.cells #[.string y.1.name,.int .i64 y.1.bud,.int .i64 y.1.per,.bool y.1.sched,.bool y.1.stop,.slice y.1.pa y.1.pn y.1.pc,.int .i64 y.1.h0,.int .i64 y.1.h1,.int .i64 y.1.h2,.int .i64 y.1.h3,.int .i64 y.1.h4] 57)) (by have c:=Reg.consts a;generalize a.eval=ρ at *;simp[execOp,go_sem,c.1,c.2,hy2]) trivial hX2 (fun _ _ _ h=>h)
   ·have l7:=Reg.not_live C h0 (j:=7) rfl rfl;have d0:_=_:=D 1 rfl _ _ rfl rfl;obtain⟨gb,qb,A',c',w',hrun,hX2⟩:=hX.app elPt (kpt_g t (partG RP t).2 HBW.out (partG RP t).1) (C 4 _ rfl (hk 4 rfl) 3 rfl) (hk 4 rfl) h0 l7 (by decide) (fun _=>rfl) (fun y u hu=>i_pcq y u hu) (by have:=HNK.out;have:=HMX.out;omega) (by decide) (HSZ.out) (by rw[S];exact(by decide:14 < 44));refine Rgs.grow rfl (Reg.wanted_free rfl) (.slice A' (n1+1:Nat) c') w' ?_ trivial hX2 (fun _ _ _ h=>h);have cc:=Reg.consts a;generalize a.eval=ρ at *;simp only[execOp,resolve,invoke,builtin,Sem.run_bind,Sem.run_pure,Result.andThen_ok,List.map_toArray,List.map_cons,List.map_nil,d0,qb,hrun]
   ·have e0:a.eval (.tmp 3)=.pointer (some ⟨gc,0,none⟩):=E 3 rfl;exact Rgs.va (.pointer (some ⟨gc,0,none⟩)) (hX.id (kpt_g t (partG RP t).2 HBW.out (partG RP t).1) 6 15 _ (by decide) (by decide) rfl)
   have d0:_=_:=D 6 rfl _ _ rfl rfl;have kb:=C 5 _ rfl (hk 5 rfl) 4 rfl;obtain⟨A',c',qa,hX2⟩:=hX.sto (kpt_g t (partG RP t).2 HBW.out (partG RP t).1) (C 4 _ rfl kb 3 rfl) kb (hk 5 rfl) h0 (by decide) (by simp);obtain⟨hc,hf⟩:=rowf (hX.cel h0) 0 _ rfl;exact Rgs.store rfl (Reg.wanted_free rfl) (w1.setCell ⟨gc,0,none⟩ (.slice A' (n1+1:Nat) c')) (by have c:=Reg.consts a;generalize a.eval=ρ at *;simp[execOp,go_sem,c.1,c.2,d0,qa,hc,hf]) trivial hX2 (fun _ _ _ h=>h)
  intro a w4 live hs hd E D Hl hX;have hrd:=hX.rd;unfold RDL at hrd;simp only[Hl 3 (by decide),if_true] at hrd;have HKP:=hid hX.kp;obtain⟨y,A4,c4,hy,ho2,ho1,hcl⟩:=hX.fin (Hl 3 (by decide)) (Hl 5 (by decide)) (Hl 7 (by decide));have HRD:=hid hrd;have HY:=hid hy;have HO2:=hid ho2;have HO1:=hid ho1;have HCL:=hid hcl;rw[Rgs.act_ws a _ _ hs hd E [9,10,11,12,13,14,15] (by kernel_rfl)];simp only[List.foldl,List.setIfInBounds_toArray,List.set_cons_succ,List.set_cons_zero];clear E D Hl hX hrd hy ho2 ho1 hcl;generalize a.eval=ρ;clear a hs hd;go_wp2_with fail;go_roundw
  case rel =>
   refine⟨k+1,⟨A4,A2,A3,n1+1,n2,n3,c4,c2,c3,P++[y],C,T⟩,by omega,by go_num,HMS.out.addP HR.out ((KpS.bel (Below.refl _ _).drew).trans HKP.out) (by decide) y HY.out.2 HO2.out HO1.out HCL.out (by have:=HNK.out;have:=HMX.out;omega),(by show (P++[y]).map coreK=_;rw[HE.out,List.map_append,HP.out];show _++[coreK y]=_;rw[HY.out.1]),HC.out,HT.out,?_,?_,?_,?_⟩
   ·show n1+1=k+1;have:=HNK.out;omega
   ·rw[HE.out];exact HRD.out
   ·exact HKP.out.own HRS.out fun j e=>by injection e with e;subst e;exact HRK.out
   exact kps_gb (gb_drew HGB.out) HKP.out (fun j e=>by
    rcases e with e | e | e
    ·exact .inl e
    ·have:=HLT.out;exact .inr (by omega)
    exact .inr (HMS.out.pp.obk_ge e).1)
  simp[intOf];omega
 have hlti:¬ (k:Int) < M1:=by omega
 obtain rfl:k=m1:=by omega
 have HGP:Hid (P.map coreK=(partsG RP s).1):=hid (by rw[HP.out,HGG1.out,HRR.out]);have HTS:Hid ((partsG RP s).2=t):=hid (by rw[HGG1.out,HRR.out]);obtain⟨GP,hGP⟩:∃ X,X=P.map coreK:=⟨_,rfl⟩;rw[← hGP] at HGP;have HP:=hid hGP.symm;clear hGP;clear HMX;obtain⟨M2,hmin⟩:∃ M,min (nv t) 8=M:=⟨_,rfl⟩;have HM2:Hid ((cntG 8 (nv t):Int)=max M2 0):=hid (by unfold cntG;omega);have hM2:M2≤8:=by omega
 have hif2:(if (8:Int) < nv t then 8 else nv t)=M2:=by split <;> omega
 have HMX:=hid (cntG_le 8 (nv t));have HGG2:Hid (chansG RP t=rowG (chanG RP) (cntG 8 (nv t)) (nx t)):=hid rfl;generalize cntG 8 (nv t)=m2 at HM2 HMX HGG2;obtain⟨u2,hu2⟩:∃ u,u=nx t:=⟨_,rfl⟩;rw[← hu2] at HGG2;have q2:RpI b g t wr wr:=RpI.refl HQR.out;go_wp2_with (go_at_call 60;refine(q2.step nnumber).mono ?_;clear q2;rintro e w4⟨rfl,q2⟩);rw[← hu2] at q2;clear hmin hif2 hu2;have HMS0:Hid (ModS w.heap.size gc ⟨A1,A2,A3,n1,n2,n3,c1,c2,c3,P,C,T⟩ w4):=hid (HMS.out.on fun ho e=>q2.own HQR.out ho e);have HL0:Hid (n2=0):=hid (by have h:=HMS.out.ln;rw[HC.out] at h;exact h.2.1.symm);have HRS0:=hid (q2.own HQR.out HRS.out (by decide));have HGB0:=hid (gb_trans HGB.out q2.gb);clear HMS HRS HGB HE HRR HNK HSZ HR;go_loopw [20] (fun v wr=>∃(k:Nat) (x:Cf),k≤m2∧v=.int .i64 k∧ModS w.heap.size gc x wr∧x.P.map coreK=GP∧x.C=(rowG (chanG RP) k u2).1∧x.T=[]∧x.n2=k∧ImR b g (rowG (chanG RP) k u2).2 wr∧OwnV 26 3 wr w.heap.size (some ⟨g2,0,none⟩) 1 1 [.slice none 0 0,.slice none 0 0,.slice none 0 0]∧w.grownBy wr (some g)) (fun v _=>m2 - (intOf v).toNat)
 case atStart=>exact⟨0,⟨A1,A2,A3,n1,n2,n3,c1,c2,c3,P,C,T⟩,by omega,rfl,HMS0.out,HP.out,HC.out,HT.out,HL0.out,q2.r,HRS0.out,HGB0.out⟩
 obtain⟨k,⟨A1,A2,A3,n1,n2,n3,c1,c2,c3,P,C,T⟩,hk,rfl,hms,hP,hC,hT,hnk,hqr,hrs,hgb⟩:=hrel;have HE:Hid (rowG (chanG RP) (k+1) u2=((rowG (chanG RP) k u2).1++[(chanG RP (rowG (chanG RP) k u2).2).1],(chanG RP (rowG (chanG RP) k u2).2).2)):=hid rfl;obtain⟨⟨l,t⟩,hr⟩:∃ r,r=rowG (chanG RP) k u2:=⟨_,rfl⟩;rw[← hr] at hqr HE hC;have HRR:=hid hr.symm;dsimp only at hP hC hT hnk hqr HE;have HP:=hid hP;have HC:=hid hC;have HT:=hid hT;have HNK:=hid hnk;have HQR:=hid hqr;have HMS:=hid hms;have HRS:=hid hrs;have HGB:=hid hgb;have hm:=HM2.out;have hm3:=HMX.out;have HSZ:Hid (w.heap.size≤wr.drew.heap.size):=hid hgb.size;obtain⟨vr,hrr,_⟩:=hqr;have HR:=hid hrr;clear hr hP hC hT hnk hrr hms hrs hgb q2;by_cases hlt:k < m2
 ·have hlti:(k:Int) < M2:=by omega
  have HRK:Hid (¬ (g2=g∨g2=gc∨obk A2=some g2)):=hid (by
   rintro (e | e | e)
   ·exact HRS.out.ne HR.out (by decide) g2 rfl (by rw[e];rfl)
   ·have:=HLT.out;omega
   exact HRS.out.ne HMS.out.ch (by decide) g2 rfl e)
  go_upto_region 8 with fail;refine Rgs.region (by kernel_rfl) (by kernel_rfl) (fun(opn:Nat) (vl:Value) (_:World)=>match opn with
    | 0=>vl=.pointer (some ⟨gc,1,none⟩)
    | 1=>vl=.slice A2 n2 c2
    | 2=>vl=.pointer (some ⟨g,0,none⟩)
    | 6=>vl=.pointer (some ⟨gc,1,none⟩)
    | _=>True) (ApS (KCh 80 1 (chanG RP t).1) (RDL b g t (chanG RP t).2 (chanG RP t).2 3 3) g w.heap.size w.heap.size gc 3 4 5 7 25 26 27 1 [.slice A1 n1 c1,.slice A2 n2 c2,.slice A3 n3 c3] A2 n2 c2 ((C.flatMap cc)) wr.drew) (ApS.start (rdl_start (HQR.out.bel (Below.refl _ _).drew)) HMS.out.ch HMS.out.cf) (Rgs.steps_of ?_) ?_
  ·refine⟨?_,?_,?_,?_,?_,?_,?_,?_,trivial⟩<;>intro a w1 live S E D C h0 hk hX
   ·have e0:a.eval (.tmp 3)=.pointer (some ⟨gc,0,none⟩):=E 3 rfl;exact Rgs.va (.pointer (some ⟨gc,1,none⟩)) (hX.id (kch_g t (chanG RP t).2 HBW.out (chanG RP t).1) 0 22 _ (by decide) (by decide) rfl)
   ·have l5:=Reg.not_live C h0 (j:=5) rfl rfl;have l7:=Reg.not_live C l5 (j:=7) rfl rfl;have e0:a.eval (.tmp 22)=.pointer (some ⟨gc,1,none⟩):=D 0 rfl _ _ rfl rfl;have hc:=(rowf (hX.cel l7) 1 _ rfl).1;exact Rgs.va (.slice A2 n2 c2) (hX.id (kch_g t (chanG RP t).2 HBW.out (chanG RP t).1) 1 23 _ (by decide) (by decide) rfl)
   ·have e0:a.eval (.tmp 0)=.pointer (some ⟨g,0,none⟩):=E 0 rfl;exact Rgs.va (.pointer (some ⟨g,0,none⟩)) (hX.id (kch_g t (chanG RP t).2 HBW.out (chanG RP t).1) 2 24 _ (by decide) (by decide) rfl)
   ·have d24:_=_:=D 2 rfl _ _ rfl rfl;have l4:=Reg.not_live C h0 (j:=4) rfl rfl;have l5:=Reg.not_live C l4 (j:=5) rfl rfl;have l7:=Reg.not_live C l5 (j:=7) rfl rfl;have hr:=hX.rd;unfold RDL at hr;simp only[h0,if_true,Bool.false_eq_true,if_false] at hr;refine Rgs.call rfl (Reg.wanted_free rfl) 62 #[.pointer (some ⟨g,0,none⟩)] (by have c:=Reg.consts a;generalize a.eval=ρ at *;simp[execOp,go_sem,c.1,c.2,d24]) ?_;refine(ichan_any hr).mono ?_;rintro e w5⟨rfl,q5⟩;obtain⟨y,hy⟩:∃ y,y=(chanG RP t).1:=⟨_,rfl⟩;have hv:Ending.returned (cv (chanG RP t).1)=.returned (cv y):=by rw[hy]
    rw[hv];have ho:OwnV 5 1 w5 w.heap.size none 0 0 []:=OwnV.nil _ _ _ _;exact⟨_,rfl,trivial,hX.mk' (kch_g t (chanG RP t).2 HBW.out (chanG RP t).1) l4 l5 l7 (by decide) q5.gb (by unfold RDL;simp only[Rgs.upd_self,if_true];exact q5.r) y hy ho (by rw[S];exact(by decide:25 < 44)),fun _ _ _ h=>h⟩
   ·have l5:=Reg.not_live C h0 (j:=5) rfl rfl;have l7:=Reg.not_live C l5 (j:=7) rfl rfl;obtain⟨y,hy,hX2⟩:=hX.lit (kch_g t (chanG RP t).2 HBW.out (chanG RP t).1) (hk 3 rfl) h0 l5 l7 (by decide) (fun _=>rfl) (by rw[S];exact(by decide:26 < 44));have hy2:a.eval (.tmp 25)=.agg #[.int .i64 y.from_,.int .i64 y.to_,.bool y.queue,.int .i64 y.cap,.int .u32 y.max,.int .i64 y.late]:=hy;exact Rgs.grow rfl (Reg.wanted_free rfl) (.slice (some ⟨w1.heap.size,0,none⟩) 1 1) (w1.alloc (.cells #[.int .i64 y.from_,.int .i64 y.to_,.bool y.queue,.int .i64 y.cap,.int .u32 y.max,.int .i64 y.late] 63)) (by have c:=Reg.consts a;generalize a.eval=ρ at *;simp[execOp,go_sem,c.1,c.2,hy2]) trivial hX2 (fun _ _ _ h=>h)
   ·have l7:=Reg.not_live C h0 (j:=7) rfl rfl;have d0:_=_:=D 1 rfl _ _ rfl rfl;obtain⟨gb,qb,A',c',w',hrun,hX2⟩:=hX.app elCh (kch_g t (chanG RP t).2 HBW.out (chanG RP t).1) (C 4 _ rfl (hk 4 rfl) 3 rfl) (hk 4 rfl) h0 l7 (by decide) (fun _=>rfl) (fun y u hu=>i_cc y u hu) (by have:=HNK.out;have:=HMX.out;omega) (by decide) (HSZ.out) (by rw[S];exact(by decide:27 < 44));refine Rgs.grow rfl (Reg.wanted_free rfl) (.slice A' (n2+1:Nat) c') w' ?_ trivial hX2 (fun _ _ _ h=>h);have cc:=Reg.consts a;generalize a.eval=ρ at *;simp only[execOp,resolve,invoke,builtin,Sem.run_bind,Sem.run_pure,Result.andThen_ok,List.map_toArray,List.map_cons,List.map_nil,d0,qb,hrun]
   ·have e0:a.eval (.tmp 3)=.pointer (some ⟨gc,0,none⟩):=E 3 rfl;exact Rgs.va (.pointer (some ⟨gc,1,none⟩)) (hX.id (kch_g t (chanG RP t).2 HBW.out (chanG RP t).1) 6 28 _ (by decide) (by decide) rfl)
   have d0:_=_:=D 6 rfl _ _ rfl rfl;have kb:=C 5 _ rfl (hk 5 rfl) 4 rfl;obtain⟨A',c',qa,hX2⟩:=hX.sto (kch_g t (chanG RP t).2 HBW.out (chanG RP t).1) (C 4 _ rfl kb 3 rfl) kb (hk 5 rfl) h0 (by decide) (by simp);obtain⟨hc,hf⟩:=rowf (hX.cel h0) 1 _ rfl;exact Rgs.store rfl (Reg.wanted_free rfl) (w1.setCell ⟨gc,1,none⟩ (.slice A' (n2+1:Nat) c')) (by have c:=Reg.consts a;generalize a.eval=ρ at *;simp[execOp,go_sem,c.1,c.2,d0,qa,hc,hf]) trivial hX2 (fun _ _ _ h=>h)
  intro a w4 live hs hd E D Hl hX;have hrd:=hX.rd;unfold RDL at hrd;simp only[Hl 3 (by decide),if_true] at hrd;have HKP:=hid hX.kp;obtain⟨y,A4,c4,hy,ho2,ho1,hcl⟩:=hX.fin (Hl 3 (by decide)) (Hl 5 (by decide)) (Hl 7 (by decide));have HRD:=hid hrd;have HY:=hid hy;have HO2:=hid ho2;have HO1:=hid ho1;have HCL:=hid hcl;rw[Rgs.act_ws a _ _ hs hd E [22,23,24,25,26,27,28] (by kernel_rfl)];simp only[List.foldl,List.setIfInBounds_toArray,List.set_cons_succ,List.set_cons_zero];clear E D Hl hX hrd hy ho2 ho1 hcl;generalize a.eval=ρ;clear a hs hd;go_wp2_with fail;go_roundw
  case rel =>
   refine⟨k+1,⟨A1,A4,A3,n1,n2+1,n3,c1,c4,c3,P,C++[y],T⟩,by omega,by go_num,HMS.out.addC HR.out ((KpS.bel (Below.refl _ _).drew).trans HKP.out) (by decide) y HO1.out HCL.out (by have:=HNK.out;have:=HMX.out;omega),HP.out,(by show C++[y]=_;rw[HE.out,HC.out,HY.out]),HT.out,?_,?_,?_,?_⟩
   ·show n2+1=k+1;have:=HNK.out;omega
   ·rw[HE.out];exact HRD.out
   ·exact HKP.out.own HRS.out fun j e=>by injection e with e;subst e;exact HRK.out
   exact kps_gb (gb_drew HGB.out) HKP.out (fun j e=>by
    rcases e with e | e | e
    ·exact .inl e
    ·have:=HLT.out;exact .inr (by omega)
    exact .inr (HMS.out.ch.obk_ge e).1)
  simp[intOf];omega
 have hlti:¬ (k:Int) < M2:=by omega
 obtain rfl:k=m2:=by omega
 have HGC:Hid (C=(chansG RP (partsG RP s).2).1):=hid (by rw[HC.out,HTS.out,HGG2.out,HRR.out]);have HTS2:Hid ((chansG RP (partsG RP s).2).2=t):=hid (by rw[HTS.out,HGG2.out,HRR.out]);obtain⟨GC,hGC⟩:∃ X,X=C:=⟨_,rfl⟩;rw[← hGC] at HGC;have HC:=hid hGC.symm;clear hGC;clear HMX;obtain⟨M3,hmin⟩:∃ M,min (nv t) 3=M:=⟨_,rfl⟩;have HM3:Hid ((cntG 3 (nv t):Int)=max M3 0):=hid (by unfold cntG;omega);have hM3:M3≤3:=by omega
 have hif2:(if (3:Int) < nv t then 3 else nv t)=M3:=by split <;> omega
 have HMX:=hid (cntG_le 3 (nv t));have HGG3:Hid (tabsG RP t=rowG (tabG RP) (cntG 3 (nv t)) (nx t)):=hid rfl;generalize cntG 3 (nv t)=m3 at HM3 HMX HGG3;obtain⟨u3,hu3⟩:∃ u,u=nx t:=⟨_,rfl⟩;rw[← hu3] at HGG3;have q2:RpI b g t wr wr:=RpI.refl HQR.out;go_wp2_with (go_at_call 60;refine(q2.step nnumber).mono ?_;clear q2;rintro e w4⟨rfl,q2⟩);rw[← hu3] at q2;clear hmin hif2 hu3;have HMS0:Hid (ModS w.heap.size gc ⟨A1,A2,A3,n1,n2,n3,c1,c2,c3,P,C,T⟩ w4):=hid (HMS.out.on fun ho e=>q2.own HQR.out ho e);have HL0:Hid (n3=0):=hid (by have h:=HMS.out.ln;rw[HT.out] at h;exact h.2.2.symm);have HRS0:=hid (q2.own HQR.out HRS.out (by decide));have HGB0:=hid (gb_trans HGB.out q2.gb);clear HMS HRS HGB HE HRR HNK HSZ HR;go_loopw [33] (fun v wr=>∃(k:Nat) (x:Cf),k≤m3∧v=.int .i64 k∧ModS w.heap.size gc x wr∧x.P.map coreK=GP∧x.C=GC∧x.T.map NdT.l=(rowG (tabG RP) k u3).1∧x.n3=k∧ImR b g (rowG (tabG RP) k u3).2 wr∧OwnV 26 3 wr w.heap.size (some ⟨g2,0,none⟩) 1 1 [.slice none 0 0,.slice none 0 0,.slice none 0 0]∧w.grownBy wr (some g)) (fun v _=>m3 - (intOf v).toNat)
 case atStart=>exact⟨0,⟨A1,A2,A3,n1,n2,n3,c1,c2,c3,P,C,T⟩,by omega,rfl,HMS0.out,HP.out,HC.out,by rw[HT.out];rfl,HL0.out,q2.r,HRS0.out,HGB0.out⟩
 obtain⟨k,⟨A1,A2,A3,n1,n2,n3,c1,c2,c3,P,C,T⟩,hk,rfl,hms,hP,hC,hT,hnk,hqr,hrs,hgb⟩:=hrel;have HE:Hid (rowG (tabG RP) (k+1) u3=((rowG (tabG RP) k u3).1++[(tabG RP (rowG (tabG RP) k u3).2).1],(tabG RP (rowG (tabG RP) k u3).2).2)):=hid rfl;obtain⟨⟨l,t⟩,hr⟩:∃ r,r=rowG (tabG RP) k u3:=⟨_,rfl⟩;rw[← hr] at hqr HE hT;have HRR:=hid hr.symm;dsimp only at hP hC hT hnk hqr HE;have HP:=hid hP;have HC:=hid hC;have HT:=hid hT;have HNK:=hid hnk;have HQR:=hid hqr;have HMS:=hid hms;have HRS:=hid hrs;have HGB:=hid hgb;have hm:=HM3.out;have hm3:=HMX.out;have HSZ:Hid (w.heap.size≤wr.drew.heap.size):=hid hgb.size;obtain⟨vr,hrr,_⟩:=hqr;have HR:=hid hrr;clear hr hP hC hT hnk hrr hms hrs hgb q2;by_cases hlt:k < m3
 ·have hlti:(k:Int) < M3:=by omega
  have HRK:Hid (¬ (g2=g∨g2=gc∨obk A3=some g2)):=hid (by
   rintro (e | e | e)
   ·exact HRS.out.ne HR.out (by decide) g2 rfl (by rw[e];rfl)
   ·have:=HLT.out;omega
   exact HRS.out.ne HMS.out.tb (by decide) g2 rfl e)
  go_upto_region 12 with fail;refine Rgs.region (by kernel_rfl) (by kernel_rfl) (fun(opn:Nat) (vl:Value) (_:World)=>match opn with
    | 0=>vl=.pointer (some ⟨gc,2,none⟩)
    | 1=>vl=.slice A3 n3 c3
    | 2=>vl=.pointer (some ⟨g,0,none⟩)
    | 6=>vl=.pointer (some ⟨gc,2,none⟩)
    | _=>True) (ApS (KTb 80 1 (tabG RP t).1) (RDL b g t (tabG RP t).2 (tabG RP t).2 3 3) g w.heap.size w.heap.size gc 3 4 5 7 38 39 40 2 [.slice A1 n1 c1,.slice A2 n2 c2,.slice A3 n3 c3] A3 n3 c3 ((T.flatMap tcn)) wr.drew) (ApS.start (rdl_start (HQR.out.bel (Below.refl _ _).drew)) HMS.out.tb HMS.out.cf) (Rgs.steps_of ?_) ?_
  ·refine⟨?_,?_,?_,?_,?_,?_,?_,?_,trivial⟩<;>intro a w1 live S E D C h0 hk hX
   ·have e0:a.eval (.tmp 3)=.pointer (some ⟨gc,0,none⟩):=E 3 rfl;exact Rgs.va (.pointer (some ⟨gc,2,none⟩)) (hX.id (ktb_g t (tabG RP t).2 HBW.out (tabG RP t).1) 0 35 _ (by decide) (by decide) rfl)
   ·have l5:=Reg.not_live C h0 (j:=5) rfl rfl;have l7:=Reg.not_live C l5 (j:=7) rfl rfl;have e0:a.eval (.tmp 35)=.pointer (some ⟨gc,2,none⟩):=D 0 rfl _ _ rfl rfl;have hc:=(rowf (hX.cel l7) 2 _ rfl).1;exact Rgs.va (.slice A3 n3 c3) (hX.id (ktb_g t (tabG RP t).2 HBW.out (tabG RP t).1) 1 36 _ (by decide) (by decide) rfl)
   ·have e0:a.eval (.tmp 0)=.pointer (some ⟨g,0,none⟩):=E 0 rfl;exact Rgs.va (.pointer (some ⟨g,0,none⟩)) (hX.id (ktb_g t (tabG RP t).2 HBW.out (tabG RP t).1) 2 37 _ (by decide) (by decide) rfl)
   ·have d37:_=_:=D 2 rfl _ _ rfl rfl;have l4:=Reg.not_live C h0 (j:=4) rfl rfl;have l5:=Reg.not_live C l4 (j:=5) rfl rfl;have l7:=Reg.not_live C l5 (j:=7) rfl rfl;have hr:=hX.rd;unfold RDL at hr;simp only[h0,if_true,Bool.false_eq_true,if_false] at hr;refine Rgs.call rfl (Reg.wanted_free rfl) 63 #[.pointer (some ⟨g,0,none⟩)] (by have c:=Reg.consts a;generalize a.eval=ρ at *;simp[execOp,go_sem,c.1,c.2,d37]) ?_;refine(itab_any hr).mono ?_;rintro e w5⟨Ay,ny,cy,rfl,ho,hyl,q5⟩;obtain⟨y,hye⟩:∃ y:NdT,y=⟨Ay,ny,cy,(tabG RP t).1⟩:=⟨_,rfl⟩;have hy:y.l=(tabG RP t).1∧y.l.length=y.n:=by rw[hye];exact⟨rfl,hyl⟩
    replace ho:OwnV 70 3 w5 w.heap.size y.A y.n y.c (ns y.l):=by rw[hye];exact ho.weak (Nat.le_trans HSZ.out hX.kp.size)
    have hv:(Value.slice Ay ny cy)=.slice y.A y.n y.c:=by rw[hye]
    rw[hv];exact⟨_,rfl,trivial,hX.mk' (ktb_g t (tabG RP t).2 HBW.out (tabG RP t).1) l4 l5 l7 (by decide) q5.gb (by unfold RDL;simp only[Rgs.upd_self,if_true];exact q5.r) y hy ho (by rw[S];exact(by decide:38 < 44)),fun _ _ _ h=>h⟩
   ·have l5:=Reg.not_live C h0 (j:=5) rfl rfl;have l7:=Reg.not_live C l5 (j:=7) rfl rfl;obtain⟨y,hy,hX2⟩:=hX.lit (ktb_g t (tabG RP t).2 HBW.out (tabG RP t).1) (hk 3 rfl) h0 l5 l7 (by decide) (fun _=>rfl) (by rw[S];exact(by decide:39 < 44));have hy2:a.eval (.tmp 38)=.slice y.A y.n y.c:=hy;exact Rgs.grow rfl (Reg.wanted_free rfl) (.slice (some ⟨w1.heap.size,0,none⟩) 1 1) (w1.alloc (.cells #[.slice y.A y.n y.c] 64)) (by have c:=Reg.consts a;generalize a.eval=ρ at *;simp[execOp,go_sem,c.1,c.2,hy2]) trivial hX2 (fun _ _ _ h=>h)
   ·have l7:=Reg.not_live C h0 (j:=7) rfl rfl;have d0:_=_:=D 1 rfl _ _ rfl rfl;obtain⟨gb,qb,A',c',w',hrun,hX2⟩:=hX.app elNN (ktb_g t (tabG RP t).2 HBW.out (tabG RP t).1) (C 4 _ rfl (hk 4 rfl) 3 rfl) (hk 4 rfl) h0 l7 (by decide) (fun _=>rfl) (fun y u hu=>i_tcn y u hu) (by have:=HNK.out;have:=HMX.out;omega) (by decide) (HSZ.out) (by rw[S];exact(by decide:40 < 44));refine Rgs.grow rfl (Reg.wanted_free rfl) (.slice A' (n3+1:Nat) c') w' ?_ trivial hX2 (fun _ _ _ h=>h);have cc:=Reg.consts a;generalize a.eval=ρ at *;simp only[execOp,resolve,invoke,builtin,Sem.run_bind,Sem.run_pure,Result.andThen_ok,List.map_toArray,List.map_cons,List.map_nil,d0,qb,hrun]
   ·have e0:a.eval (.tmp 3)=.pointer (some ⟨gc,0,none⟩):=E 3 rfl;exact Rgs.va (.pointer (some ⟨gc,2,none⟩)) (hX.id (ktb_g t (tabG RP t).2 HBW.out (tabG RP t).1) 6 41 _ (by decide) (by decide) rfl)
   have d0:_=_:=D 6 rfl _ _ rfl rfl;have kb:=C 5 _ rfl (hk 5 rfl) 4 rfl;obtain⟨A',c',qa,hX2⟩:=hX.sto (ktb_g t (tabG RP t).2 HBW.out (tabG RP t).1) (C 4 _ rfl kb 3 rfl) kb (hk 5 rfl) h0 (by decide) (by simp);obtain⟨hc,hf⟩:=rowf (hX.cel h0) 2 _ rfl;exact Rgs.store rfl (Reg.wanted_free rfl) (w1.setCell ⟨gc,2,none⟩ (.slice A' (n3+1:Nat) c')) (by have c:=Reg.consts a;generalize a.eval=ρ at *;simp[execOp,go_sem,c.1,c.2,d0,qa,hc,hf]) trivial hX2 (fun _ _ _ h=>h)
  intro a w4 live hs hd E D Hl hX;have hrd:=hX.rd;unfold RDL at hrd;simp only[Hl 3 (by decide),if_true] at hrd;have HKP:=hid hX.kp;obtain⟨y,A4,c4,hy,ho2,ho1,hcl⟩:=hX.fin (Hl 3 (by decide)) (Hl 5 (by decide)) (Hl 7 (by decide));have HRD:=hid hrd;have HY:=hid hy;have HO2:=hid ho2;have HO1:=hid ho1;have HCL:=hid hcl;rw[Rgs.act_ws a _ _ hs hd E [35,36,37,38,39,40,41] (by kernel_rfl)];simp only[List.foldl,List.setIfInBounds_toArray,List.set_cons_succ,List.set_cons_zero];clear E D Hl hX hrd hy ho2 ho1 hcl;generalize a.eval=ρ;clear a hs hd;go_wp2_with fail;go_roundw
  case rel =>
   refine⟨k+1,⟨A1,A2,A4,n1,n2,n3+1,c1,c2,c4,P,C,T++[y]⟩,by omega,by go_num,HMS.out.addT HR.out ((KpS.bel (Below.refl _ _).drew).trans HKP.out) (by decide) y ⟨HY.out.2,by rw[← HY.out.2,HY.out.1];exact tab_few t,by rw[HY.out.1];exact nodes_in⟩ HO2.out HO1.out HCL.out (by have:=HNK.out;have:=HMX.out;omega),HP.out,HC.out,(by show (T++[y]).map NdT.l=_;rw[HE.out,List.map_append,HT.out];show _++[y.l]=_;rw[HY.out.1]),?_,?_,?_,?_⟩
   ·show n3+1=k+1;have:=HNK.out;omega
   ·rw[HE.out];exact HRD.out
   ·exact HKP.out.own HRS.out fun j e=>by injection e with e;subst e;exact HRK.out
   exact kps_gb (gb_drew HGB.out) HKP.out (fun j e=>by
    rcases e with e | e | e
    ·exact .inl e
    ·have:=HLT.out;exact .inr (by omega)
    exact .inr (HMS.out.tb.obk_ge e).1)
  simp[intOf];omega
 have hlti:¬ (k:Int) < M3:=by omega
 obtain rfl:k=m3:=by omega
 go_upto_region 14 with fail;have HGT:Hid (T.map NdT.l=(tabsG RP (chansG RP (partsG RP s).2).2).1):=hid (by rw[HT.out,HTS2.out,HGG3.out,HRR.out]);have HTE:Hid ((tabsG RP (chansG RP (partsG RP s).2).2).2=t):=hid (by rw[HTS2.out,HGG3.out,HRR.out]);refine wp_region_lit (wpList_loadX rfl (.tmp 3) rfl rfl (agCf _) (szCf _) HMS.out.cf (wpList_storeX (l:=[.slice A1 n1 c1,.slice A2 n2 c2,.slice A3 n3 c3]) rfl (.tmp 2) (.tmp 43) rfl rfl rfl (szCf _) HRS.out rfl (i_cfv _ _ _) fun w9 ho9 hg9=>?_));go_wp2_with fail;refine bodyPost_ret (results_oneX rfl (agCf _) (szCf _) rfl ho9) rfl ?_;have kp:KpS (fun j=>j=g2) wr w9:=KpS.gb hg9 rfl;refine⟨⟨A1,A2,A3,n1,n2,n3,c1,c2,c3,P,C,T⟩,rfl,?_,⟨gc,HMS.out.on2 HRS.out hg9 (by have:=HLT.out;omega)⟩,?_,?_,?_⟩
 ·rw[HEC.out];show CfK.mk (P.map coreK) C (T.map NdT.l)=_;rw[HP.out,HGP.out,HC.out,HGC.out,HGT.out]
 ·intro y hy;have hy:y∈C:=hy;rw[HC.out,HGC.out,chansG_P] at hy;exact maxs_in y hy
 ·rw[HEC.out];show ImR b g (tabsG RP (chansG RP (partsG RP s).2).2).2 w9;rw[HTE.out];exact HQR.out.on kp (fun e=>HRS.out.ne HR.out (by decide) g2 rfl (by rw[← e];rfl)) (fun j e=>by have:=HBW.out;have:=HG2.out;omega)
 exact kps_gb (S:=fun j=>j=g2) HGB.out kp (fun j e=>by have:=HG2.out;omega)
def RdE(l:List UInt8)(w:World)(e:Ending)(w':World):Prop:=∃(y:Cf) (z:Int),e=.returned (.tuple #[cfv y,.int .i64 z])∧RdOk l y z∧CfR w' y∧Below w.heap.size w w'
theorem ogb_new{o:Obj}{w w':World}(h:(w.alloc o).grownBy w' (some w.heap.size)):Below w.heap.size (w.alloc o) w':=⟨h.os,h.tape,h.output,h.size,fun i hi=>h.block i (by simp;omega) (by intro e;injection e with e;omega)⟩
theorem builtCf(w:World):(Instr.build 26 #[]).run Tryz.prog w=.ok (.agg #[.slice none 0 0,.slice none 0 0,.slice none 0 0]) w:=by go_simp
theorem nilCf{w w0:World}{B g:Nat}(h:OwnV 26 3 w B (some ⟨g,0,none⟩) 1 1 [.slice none 0 0,.slice none 0 0,.slice none 0 0])(hb:Below B w0 w)(hg:B≤g):
  (w.cell? ⟨g,0,none⟩=some (.slice none 0 0)∧w.frozen? ⟨g,0,none⟩=false)∧(w.cell? ⟨g,1,none⟩=some (.slice none 0 0)∧w.frozen? ⟨g,1,none⟩=false)∧(w.cell? ⟨g,2,none⟩=some (.slice none 0 0)∧w.frozen? ⟨g,2,none⟩=false) ∧
  OwnV 26 3 (((w.setCell ⟨g,0,none⟩ (.slice none 0 0)).setCell ⟨g,1,none⟩ (.slice none 0 0)).setCell ⟨g,2,none⟩ (.slice none 0 0)) B (some ⟨g,0,none⟩) 1 1 [.slice none 0 0,.slice none 0 0,.slice none 0 0]∧Below B w0 (((w.setCell ⟨g,0,none⟩ (.slice none 0 0)).setCell ⟨g,1,none⟩ (.slice none 0 0)).setCell ⟨g,2,none⟩ (.slice none 0 0)) :=
 ⟨rowf h 0 _ rfl,rowf h 1 _ rfl,rowf h 2 _ rfl,((OwnV.set h 0 _ (by show 0 < 3;omega)).set 1 _ (by show 1 < 3;omega)).set 2 _ (by show 2 < 3;omega),((hb.setCell (p:=⟨g,0,none⟩) hg _).setCell (p:=⟨g,1,none⟩) hg _).setCell (p:=⟨g,2,none⟩) hg _⟩
theorem iread_any(A:Option Addr)(n c:Nat)(l:List UInt8)(w:World)(h:Rd w w.heap.size A n l)(hn:n≤140737488351240)(hc:n≤c):Calls Tryz.prog 18 #[.slice A n c] w (RdE l w):=by
 have hb0:=bl1 w (.cells #[.slice none 0 0,.slice none 0 0,.slice none 0 0] 26);have HRS0:=hid (ownV_lit w 26 3 w.heap.size #[.slice none 0 0,.slice none 0 0,.slice none 0 0] 1 rfl (Nat.le_refl _) (by unfold maxLen;omega));have HOP:=hid (open_any A n c l _ ((h.below hb0).more hb0.size) (by omega) hc);have HRD:=hid h;have HB0:=hid hb0;clear hb0 h;go_enter Tryz.func18,Tryz.ntmps18;go_wp2_with fail;generalize w.alloc (.cells #[.slice none 0 0,.slice none 0 0,.slice none 0 0] 26)=W0 at HRS0 HOP HB0 ⊢;obtain⟨g2,hg2⟩:∃ g,g=w.heap.size:=⟨_,rfl⟩;have HG2:=hid hg2;rw[← hg2];have HRS:Hid (OwnV 26 3 W0 w.heap.size (some ⟨g2,0,none⟩) 1 1 [.slice none 0 0,.slice none 0 0,.slice none 0 0]):=hid (by rw[hg2];exact HRS0.out);clear hg2 HRS0;refine HOP.out.mono ?_;rintro e w1⟨A1,c1,rfl,ho1,hb1⟩;have HO1:=hid ho1;have HB1:=hid (HB0.out.trans (hb1.mono HB0.out.size));have HRS1:=hid (OwnV.below HRS.out rfl hb1);clear ho1 hb1 HOP HRS HB0;cases hok:Crc.ook l with
 | false =>
  have HK:=hid hok;obtain⟨⟨c0a,c0b⟩,⟨c1a,c1b⟩,⟨c2a,c2b⟩,ho,hb⟩:=nilCf HRS1.out HB1.out (Nat.le_of_eq HG2.out.symm);have hbc:=builtCf w1;have HO2:=hid ho;have HB2:=hid hb;clear ho hb hok;go_wp2_with fail;refine bodyPost_ret (results_twoX rfl (agCf _) (szCf _) rfl HO2.out) rfl ?_;exact⟨cfN,13,rfl,RdOk.sum HK.out,cfN_rd _,HB2.out⟩
 | true =>
  have HK:=hid hok;have hcp:=HO1.out.cap;have hln:(Crc.oval l).length≤140737488351236:=oval_few (by rw[HRD.out.1];omega);have hA1:A1=none→c1=0:=fun e=>by
   subst e;rcases HO1.out.2 with ⟨hv,_⟩ | ⟨g,cap,cur,hv,_⟩
   ·injection hv
   cases hv
  have hbm:=bl1 w1 (.cells #[.int .u8 72,.int .u8 79,.int .u8 82,.int .u8 65] 5 (4,5));have hrd:=(rd_mark w1 #[.int .u8 72,.int .u8 79,.int .u8 82,.int .u8 65] (4,5) horaB 4 _ rfl rfl rfl).more (B':=(w1.alloc (.cells #[.int .u8 72,.int .u8 79,.int .u8 82,.int .u8 65] 5 (4,5))).heap.size) (by simp);have p1:(convert 35 35 (.slice (some ⟨w1.heap.size,0,none⟩) 4 4)).run Tryz.prog (w1.alloc (.cells #[.int .u8 72,.int .u8 79,.int .u8 82,.int .u8 65] 5))=.ok (.slice (some ⟨w1.heap.size,0,none⟩) 4 4) (w1.alloc (.cells #[.int .u8 72,.int .u8 79,.int .u8 82,.int .u8 65] 5 (4,5))):=Lib.run_convert_bytes_const (P:=Tryz.prog) w1 35 5 #[.int .u8 72,.int .u8 79,.int .u8 82,.int .u8 65] 4 4 Tryz.underlying35 Tryz.underlying5;have HCT:=hid (bcut_any A1 (some ⟨w1.heap.size,0,none⟩) (Crc.oval l).length c1 4 4 _ _ (Crc.oval l) horaB (w1.alloc (.cells #[.int .u8 72,.int .u8 79,.int .u8 82,.int .u8 65] 5 (4,5))) ((HO1.out.rd.below hbm).more hbm.size) hrd hcp (by omega) hA1 (by omega));have HB2:=hid (HB1.out.trans (hbm.mono HB1.out.size));have HRS2:=hid (OwnV.below HRS1.out rfl hbm);clear hok hcp hln hA1 hbm hrd HO1 HRS1 HB1;go_wp2_with fail;generalize w1.alloc (.cells #[.int .u8 72,.int .u8 79,.int .u8 82,.int .u8 65] 5 (4,5))=w2 at HCT HB2 HRS2 ⊢;refine HCT.out.mono ?_;rintro e w3⟨v,q,rfl,hq,hv,rfl⟩;clear HCT p1;cases q with
  | false =>
   have HF:=hid hq;obtain⟨⟨c0a,c0b⟩,⟨c1a,c1b⟩,⟨c2a,c2b⟩,ho,hb⟩:=nilCf HRS2.out HB2.out (Nat.le_of_eq HG2.out.symm);have hbc:=builtCf w3;have HO3:=hid ho;have HB3:=hid hb;clear ho hb hq hv;go_wp2_with fail;refine bodyPost_ret (results_twoX rfl (agCf _) (szCf _) rfl HO3.out) rfl ?_;exact⟨cfN,12,rfl,RdOk.form HK.out fun x hx=>of_decide_eq_false HF.out.symm hx.front,cfN_rd _,HB3.out⟩
  | true =>
   have hf:=of_decide_eq_true hq.symm;obtain⟨s,hs⟩:∃ s,s=(Crc.oval l).drop horaB.length:=⟨_,rfl⟩;have HSS:Hid (Crc.oval l=horaB++s):=hid (by rw[hs];conv=>lhs;rw[← List.take_append_drop horaB.length (Crc.oval l),hf]);have hv:=hv rfl;rw[← hs] at hv;obtain⟨A3,n3,c3,rfl,hr3,hc3⟩:=hv.is;have hbx:=bl1 w3 (.cells #[.slice A3 n3 c3] 80);have hrr:=ownV_lit w3 80 1 w3.heap.size #[.slice A3 n3 c3] 1 rfl (Nat.le_refl _) (by unfold maxLen;omega);have HIM:Hid (ImR w3.heap.size w3.heap.size s (w3.alloc (.cells #[.slice A3 n3 c3] 80))):=hid ⟨_,hrr,⟨A3,n3,c3,rfl,hr3.below hbx,hc3⟩⟩;have HMO:=hid (imodule_any HIM.out);have HRS3:=hid (OwnV.below HRS2.out rfl hbx);have HB3:=hid (HB2.out.trans (hbx.mono HB2.out.size));have HWG:=hid HB2.out.size;have HG3:=hid (HRS2.out.obk_ge (b:=g2) rfl).2;clear hq hf hs hv hr3 hc3 hbx hrr HRS2;go_wp2_with (go_at_call 35;refine HMO.out.mono ?_;rintro e w4⟨y,rfl,hy1,⟨gc,hy2⟩,hy3,hq4⟩);have hb4:=ogb_new hq4.gb;have HMS:=hid hy2;have HMX:=hid hy3;have HEND:=hid (img_end HK.out HSS.out RP_good hy1.symm (LenX.of hy2.rd) hy3 (NbX.of hy2.rd));have hbx:=bl1 w4 (.cells #[.slice y.A1 y.n1 y.c1,.slice y.A2 y.n2 y.c2,.slice y.A3 y.n3 y.c3] 26);have HYR:=hid (ownV_lit w4 26 3 w4.heap.size #[.slice y.A1 y.n1 y.c1,.slice y.A2 y.n2 y.c2,.slice y.A3 y.n3 y.c3] 1 rfl (Nat.le_refl _) (by unfold maxLen;omega));have HBY:=hid (ibytes_any y _ (hy2.rd.on hbx));have HB4:=hid ((HB3.out.trans (hb4.mono HWG.out)).trans (hbx.mono (Nat.le_trans HB3.out.size hb4.size)));have HRS4:=hid (OwnV.below (OwnV.keep' HRS3.out fun k e=>hb4.block k (Option.some.inj e▸HG3.out)) rfl hbx);have HMS4:=hid (HMS.out.keep (S:=fun _=>False) (KpS.bel hbx) (fun _ e=>e.elim));have HLB:Hid (g2 < (w3.alloc (.cells #[.slice A3 n3 c3] 80)).heap.size):=hid (Nat.lt_of_lt_of_le (HRS3.out.obk_ge (b:=g2) rfl).2 (Nat.le_refl _));have HIB:Hid ((whF y).1=0→imB y=bytesB y):=hid fun hz=>by unfold imB;rw[if_pos hz]
   generalize (w3.alloc (.cells #[.slice A3 n3 c3] 80)).heap.size=BB at HMS HMS4 HLB;clear hy1 hy2 hy3 hq4 hb4 hbx HMO HIM HRS3 HB3 HMS;refine HBY.out.mono ?_;rintro e w5⟨A5,n5,c5,rfl,ho5,hb5⟩;have HB5:=hid (HB4.out.trans (hb5.mono HB4.out.size));have HRS5:=hid (OwnV.below HRS4.out rfl hb5);have HYR5:=hid (OwnV.below HYR.out rfl hb5);have HMS5:=hid (HMS4.out.keep (S:=fun _=>False) (KpS.bel hb5) (fun _ e=>e.elim));have HEQ:=hid (bequal_any A5 A n5 c5 n c _ _ (imB y) l w5 ho5.rd (HRD.out.below HB5.out));clear hb5 ho5 HBY HB4 HRS4 HYR HMS4;obtain⟨⟨c0a,c0b⟩,⟨c1a,c1b⟩,⟨c2a,c2b⟩,ho,hb⟩:=nilCf HRS5.out HB5.out (Nat.le_of_eq HG2.out.symm);have hbc:=builtCf w5;have HO6:=hid ho;have HB6:=hid hb;clear ho hb;by_cases hz:(whF y).1=0
   ·have HZ:=hid hz;have hzi:((whF y).1 != 0)=false:=by rw[hz];rfl
    by_cases he:imB y=l
    ·rw[decide_eq_true he] at HEQ;have HOK:=hid (HEND.out.1 hz ((HIB.out hz).symm.trans he));generalize (whF y).1=z at hzi HZ;clear hz he c0a c0b c1a c1b c2a c2b hbc HEND;go_upto_region 12 with (go_at_call 36;refine HEQ.out.mono ?_;rintro e w6⟨rfl,rfl⟩);refine wp_region_lit (wpList_loadX rfl (.tmp 8) rfl rfl (agCf _) (szCf _) HYR5.out (wpList_storeX (l:=[.slice y.A1 y.n1 y.c1,.slice y.A2 y.n2 y.c2,.slice y.A3 y.n3 y.c3]) rfl (.tmp 2) (.tmp 48) rfl rfl rfl (szCf _) HRS5.out rfl (i_cfv _ _ _) fun w9 ho9 hg9=>?_));go_wp2_with fail;refine bodyPost_ret (results_twoX rfl (agCf _) (szCf _) rfl ho9) rfl ?_;exact⟨y,0,rfl,HOK.out,(HMS5.out.keep (S:=fun j=>j=g2) (KpS.gb hg9 rfl) (fun j e=>by rw[e];exact HLB.out)).rd,HB5.out.trans ⟨hg9.os,hg9.tape,hg9.output,hg9.size,fun i hi=>hg9.block i (Nat.lt_of_lt_of_le hi HB5.out.size) (by intro e;injection e with e;have:=HG2.out;omega)⟩⟩
    rw[decide_eq_false he] at HEQ;have HOK:=hid (HEND.out.2 (.inr (.inl fun e=>he ((HIB.out hz).trans e))));generalize (whF y).1=z at hzi HZ;clear hz he HEND;go_wp2_with (go_at_call 36;refine HEQ.out.mono ?_;rintro e w6⟨rfl,rfl⟩);refine bodyPost_ret (results_twoX rfl (agCf _) (szCf _) rfl HO6.out) rfl ?_;exact⟨cfN,12,rfl,HOK.out,cfN_rd _,HB6.out⟩
   have HOK:=hid (HEND.out.2 (.inl hz));have hzi:((whF y).1 != 0)=true:=bne_iff_ne.2 hz;generalize (whF y).1=z at hzi;clear hz HEND HEQ;go_wp2_with fail;refine bodyPost_ret (results_twoX rfl (agCf _) (szCf _) rfl HO6.out) rfl ?_;exact⟨cfN,12,rfl,HOK.out,cfN_rd _,HB6.out⟩
theorem RdE.out{l:List UInt8}{w:World}{e:Ending}{w':World}(h:RdE l w e w'):∃ A1 A2 A3 n1 n2 n3 c1 c2 c3 P C T z,e=.returned (.tuple #[.agg #[.slice A1 n1 c1,.slice A2 n2 c2,.slice A3 n3 c3],.int .i64 z])∧RdOk l ⟨A1,A2,A3,n1,n2,n3,c1,c2,c3,P,C,T⟩ z∧CfR w' ⟨A1,A2,A3,n1,n2,n3,c1,c2,c3,P,C,T⟩∧Below w.heap.size w w':=by
 obtain⟨⟨A1,A2,A3,n1,n2,n3,c1,c2,c3,P,C,T⟩,z,h⟩:=h;exact⟨A1,A2,A3,n1,n2,n3,c1,c2,c3,P,C,T,z,h⟩
theorem img_A(A1 A3 pa ta:Option Addr){w:World}(h:CfR w (cfA A1 A3 pa ta)):Img (imB (cfA A1 A3 pa ta)) (cfA A1 A3 pa ta) :=
 ⟨RiX.of (by rw[whF_A]),LenX.of h,fun y hy=>(by cases hy),NbX.of h,by unfold imB;rw[if_pos (by rw[whF_A])]⟩
theorem img_few{b:List UInt8}{x:Cf}(h:Img b x):b.length≤100004:=by
 rw[← h.is,bytesB_E h.len,Crc.seal4_length];have:=bytesB_few h.ri h.len h.nb;omega
theorem confE_ne(K:CfK):confE K≠[]:=by
 unfold confE;intro e;have h:=congrArg List.length e;rw[List.length_append,Num.enc_length] at h;simp at h
theorem no_hora(x:Cf):¬ Img (Crc.seal4 horaB) x:=fun h=>by
 have e:=h.oval
 rw[Crc.oval_seal] at e
 exact confE_ne _ (List.append_cancel_left (by rw[← e,List.append_nil]))
theorem hora_bad{y:Cf}{z:Int}(h:RdOk (Crc.seal4 horaB) y z):z=12:=(h.bad (Crc.ook_seal _) no_hora).1
theorem nil_bad{y:Cf}{z:Int}(h:RdOk [] y z):z=13:=(h.no (Crc.ook_short _ (by show 0 < 4;omega))).1
theorem known14_any(w:World):Calls Tryz.prog 14 #[] w (Ans (.bool true) w):=by
 have s0:w.heap.size=w.heap.size:=rfl;have b0:Below w.heap.size w w:=Below.refl _ _;obtain⟨V1,hV1⟩:∃ V,V=w.alloc (.cells #[.int .i64 0,.int .i64 0] 59):=⟨_,rfl⟩;have u1:Below w.heap.size w V1:=by rw[hV1];exact bl1 _ _
 have s1:V1.heap.size=w.heap.size+1:=by rw[hV1];simp[s0]
 have b1:Below w.heap.size w V1:=b0.trans (u1.mono b0.size);have r0:RdV V1 V1.heap.size (some ⟨w.heap.size,0,none⟩) [.int .i64 0,.int .i64 0]:=by
  have h:=rdV_new w #[.int .i64 0,.int .i64 0] 59 [.int .i64 0,.int .i64 0] rfl;rw[← hV1,s0] at h;exact h
 obtain⟨V2,hV2⟩:∃ V,V=V1.alloc (.cells #[.string ⟨#[97]⟩,.int .i64 0,.int .i64 0,.bool false,.bool false,.slice (some ⟨w.heap.size,0,none⟩) 1 1,.int .i64 0,.int .i64 0,.int .i64 0,.int .i64 0,.int .i64 0] 57):=⟨_,rfl⟩;have u2:Below V1.heap.size V1 V2:=by rw[hV2];exact bl1 _ _
 have s2:V2.heap.size=w.heap.size+1+1:=by rw[hV2];simp[s1]
 have b2:Below w.heap.size w V2:=b1.trans (u2.mono b1.size)
 replace r0:=(r0.below u2).more u2.size;have r1:RdV V2 V2.heap.size (some ⟨w.heap.size+1,0,none⟩) (pcq (ptA (some ⟨w.heap.size,0,none⟩))):=by
  have h:=rdV_new V1 #[.string ⟨#[97]⟩,.int .i64 0,.int .i64 0,.bool false,.bool false,.slice (some ⟨w.heap.size,0,none⟩) 1 1,.int .i64 0,.int .i64 0,.int .i64 0,.int .i64 0,.int .i64 0] 57 (pcq (ptA (some ⟨w.heap.size,0,none⟩))) rfl;rw[← hV2,s1] at h;exact h
 obtain⟨V3,hV3⟩:∃ V,V=V2.alloc (.cells #[.int .i64 1,.int .i64 0,.int .i64 1] 70):=⟨_,rfl⟩;have u3:Below V2.heap.size V2 V3:=by rw[hV3];exact bl1 _ _
 have s3:V3.heap.size=w.heap.size+1+1+1:=by rw[hV3];simp[s2]
 have b3:Below w.heap.size w V3:=b2.trans (u3.mono b2.size)
 replace r0:=(r0.below u3).more u3.size
 replace r1:=(r1.below u3).more u3.size;have r2:RdV V3 V3.heap.size (some ⟨w.heap.size+1+1,0,none⟩) [.int .i64 1,.int .i64 0,.int .i64 1]:=by
  have h:=rdV_new V2 #[.int .i64 1,.int .i64 0,.int .i64 1] 70 [.int .i64 1,.int .i64 0,.int .i64 1] rfl;rw[← hV3,s2] at h;exact h
 obtain⟨V4,hV4⟩:∃ V,V=V3.alloc (.cells #[.slice (some ⟨w.heap.size+1+1,0,none⟩) 1 1] 64):=⟨_,rfl⟩;have u4:Below V3.heap.size V3 V4:=by rw[hV4];exact bl1 _ _
 have s4:V4.heap.size=w.heap.size+1+1+1+1:=by rw[hV4];simp[s3]
 have b4:Below w.heap.size w V4:=b3.trans (u4.mono b3.size)
 replace r0:=(r0.below u4).more u4.size
 replace r1:=(r1.below u4).more u4.size
 replace r2:=(r2.below u4).more u4.size;have r3:RdV V4 V4.heap.size (some ⟨w.heap.size+1+1+1,0,none⟩) [.slice (some ⟨w.heap.size+1+1,0,none⟩) 1 1]:=by
  have h:=rdV_new V3 #[.slice (some ⟨w.heap.size+1+1,0,none⟩) 1 1] 64 [.slice (some ⟨w.heap.size+1+1,0,none⟩) 1 1] rfl;rw[← hV4,s3] at h;exact h
 obtain⟨V5,hV5⟩:∃ V,V=V4.alloc (.cells #[.slice (some ⟨w.heap.size+1,0,none⟩) 1 1,.slice none 0 0,.slice (some ⟨w.heap.size+1+1+1,0,none⟩) 1 1] 26):=⟨_,rfl⟩;have u5:Below V4.heap.size V4 V5:=by rw[hV5];exact bl1 _ _
 have s5:V5.heap.size=w.heap.size+1+1+1+1+1:=by rw[hV5];simp[s4]
 have b5:Below w.heap.size w V5:=b4.trans (u5.mono b4.size)
 replace r0:=(r0.below u5).more u5.size
 replace r1:=(r1.below u5).more u5.size
 replace r2:=(r2.below u5).more u5.size
 replace r3:=(r3.below u5).more u5.size;have x4:=box_vec V4 (.slice (some ⟨w.heap.size+1,0,none⟩) 1 1) (.slice none 0 0) (.slice (some ⟨w.heap.size+1+1+1,0,none⟩) 1 1) 26;rw[← hV5,s4] at x4;have HV1:=hid hV1;have HV2:=hid hV2;have HV3:=hid hV3;have HV4:=hid hV4;have HV5:=hid hV5;have HB5:=hid b5;have HA:Hid (CfR V5 (cfA (some ⟨w.heap.size+1,0,none⟩) (some ⟨w.heap.size+1+1+1,0,none⟩) (some ⟨w.heap.size,0,none⟩) (some ⟨w.heap.size+1+1,0,none⟩))):=hid (cfA_rd r0 r1 r2 r3);have HX4:=hid fun V (hv:Below V5.heap.size V5 V)=>(x4.on hv).three;clear hV1 hV2 hV3 hV4 hV5 u1 u2 u3 u4 u5 s0 s1 s2 s3 s4 s5 b0 b1 b2 b3 b4 b5 r0 r1 r2 r3 x4;go_enter Tryz.func14,Tryz.ntmps14;go_upto_region 2 with fail;rw[← HV1.out,← HV2.out,← HV3.out,← HV4.out,← HV5.out];clear HV1 HV2 HV3 HV4 HV5;generalize w.heap.size+1+1+1+1=g4 at HA HX4 ⊢;generalize w.heap.size+1+1+1=g3 at HA HX4 ⊢;generalize w.heap.size+1+1=g2 at HA HX4 ⊢;generalize w.heap.size+1=g1 at HA HX4 ⊢;obtain⟨g0,hg0⟩:∃ g0,g0=w.heap.size:=⟨_,rfl⟩;rw[← hg0] at HA ⊢;clear hg0;have HIM:=hid (img_A _ _ _ _ HA.out);have HFW:=hid (img_few HIM.out);have HBY:=hid fun V (hv:Below V5.heap.size V5 V)=>ibytes_any _ V (HA.out.on hv);have HSZ:=hid fun V (hv:Below V5.heap.size V5 V)=>isize_any _ V (HA.out.on hv);have HBZ:=hid fun V=>ibytes_any cfZ V (cfZ_rd V);have HSN:=hid fun V=>isize_any cfZ V (cfZ_rd V);have iz:imB cfZ=[]:=by unfold imB;rw[if_neg (by rw[whF_Z];decide)]
 rw[whF_A] at HBY;rw[whF_Z,iz] at HBZ;rw[iz] at HSN;clear iz;generalize imB (cfA (some ⟨g1,0,none⟩) (some ⟨g3,0,none⟩) (some ⟨g0,0,none⟩) (some ⟨g2,0,none⟩))=bb at HIM HFW HBY HSZ;obtain⟨f0,f1,f2⟩:=HX4.out V5 (Below.refl _ _);go_upto_region 3 with (go_at_call 17;refine(HBY.out V5 (Below.refl _ _)).mono ?_;rintro e w1⟨A,n,c,rfl,ho,hb⟩);have HO1:=hid ho;have HB1:=hid hb;have hln:=ho.len;have hcp:=ho.cap;have hfw:=HFW.out;have HRD:=hid fun V (hv:Below w1.heap.size w1 V)=>iread_any A n c bb V ((ho.rd.below hv).more hv.size) (by omega) hcp;rw[hln] at HSZ;clear ho hb hfw f0 f1 f2 hln hcp HBY HFW;go_upto_region 4 with (go_at_call 18;refine((HRD.out w1 (Below.refl _ _)).mono fun _ _ h=>h.out).mono ?_;rintro e w2⟨D1,D2,D3,m1,m2,m3,d1,d2,d3,P,C,T,z,rfl,hok,hcf,hb⟩;obtain⟨rfl,hsm⟩:=hok.yes _ HIM.out);have hb3:=bl1 w2 (.cells #[.slice D1 m1 d1,.slice D2 m2 d2,.slice D3 m3 d3] 26);have HXD:=hid (box_vec w2 (.slice D1 m1 d1) (.slice D2 m2 d2) (.slice D3 m3 d3) 26);have HBD:=hid (HB1.out.trans ((hb.trans (hb3.mono hb.size)).mono HB1.out.size));have HCD:=hid (hcf.on hb3);have HSS:=hid hsm;generalize w2.alloc (.cells #[.slice D1 m1 d1,.slice D2 m2 d2,.slice D3 m3 d3] 26)=W2 at HXD HBD HCD ⊢;generalize w2.heap.size=gd at HXD ⊢;clear hb3 hb hok hcf hsm HRD HIM w2 HB1;go_upto_region 5 with (go_at_call 18;refine((iread_any none 0 0 [] W2 (rd_nil _ _) (by omega) (Nat.le_refl _)).mono fun _ _ h=>h.out).mono ?_;rintro e w3⟨E1,E2,E3,x1,x2,x3,y1,y2,y3,P',C',T',z,rfl,hok,hcf,hb⟩;obtain rfl:=nil_bad hok);have hb3:=bl1 w3 (.cells #[.slice E1 x1 y1,.slice E2 x2 y2,.slice E3 x3 y3] 26);have HB3:=hid (hb.trans (hb3.mono hb.size));generalize w3.alloc (.cells #[.slice E1 x1 y1,.slice E2 x2 y2,.slice E3 x3 y3] 26)=W3 at HB3 ⊢;generalize w3.heap.size=ge;clear hb3 hb hok hcf w3;go_upto_region 6 with (go_at_call 17;refine(HBZ.out W3).mono ?_;rintro e w4⟨AZ,nz,cz,rfl,ho,hb⟩);have HB4:=hid (HB3.out.trans (hb.mono HB3.out.size));clear ho hb HB3 HBZ;have hbm:=bl1 w4 (.cells #[.int .u8 72,.int .u8 79,.int .u8 82,.int .u8 65] 5 (4,5));have hrd:=(rd_mark w4 #[.int .u8 72,.int .u8 79,.int .u8 82,.int .u8 65] (4,5) horaB 4 _ rfl rfl rfl).more (B':=(w4.alloc (.cells #[.int .u8 72,.int .u8 79,.int .u8 82,.int .u8 65] 5 (4,5))).heap.size) (by simp);have p1:(convert 35 35 (.slice (some ⟨w4.heap.size,0,none⟩) 4 4)).run Tryz.prog (w4.alloc (.cells #[.int .u8 72,.int .u8 79,.int .u8 82,.int .u8 65] 5))=.ok (.slice (some ⟨w4.heap.size,0,none⟩) 4 4) (w4.alloc (.cells #[.int .u8 72,.int .u8 79,.int .u8 82,.int .u8 65] 5 (4,5))):=Lib.run_convert_bytes_const (P:=Tryz.prog) w4 35 5 #[.int .u8 72,.int .u8 79,.int .u8 82,.int .u8 65] 4 4 Tryz.underlying35 Tryz.underlying5;have HSL:=hid (rseal_any (some ⟨w4.heap.size,0,none⟩) 4 4 horaB (w4.alloc (.cells #[.int .u8 72,.int .u8 79,.int .u8 82,.int .u8 65] 5 (4,5))) hrd (by omega));have HB5':=hid (HB4.out.trans (hbm.mono HB4.out.size));generalize w4.alloc (.cells #[.int .u8 72,.int .u8 79,.int .u8 82,.int .u8 65] 5 (4,5))=W4 at p1 HSL HB5' ⊢;clear hbm hrd HB4;go_upto_region 7 with (first | (go_at_call 13;refine HSL.out.mono ?_;rintro e w5⟨A5,c5,rfl,ho5,hb5⟩) | (go_at_call 18;refine((iread_any A5 _ c5 _ w5 ho5.rd (by omega) ho5.cap).mono fun _ _ h=>h.out).mono ?_;rintro e w6⟨E1,E2,E3,x1,x2,x3,y1,y2,y3,P',C',T',z,rfl,hok,hcf,hb6⟩;obtain rfl:=hora_bad hok));have hb3:=bl1 w6 (.cells #[.slice E1 x1 y1,.slice E2 x2 y2,.slice E3 x3 y3] 26);have hb7:=hb5.trans ((hb6.trans (hb3.mono hb6.size)).mono hb5.size);have HBW:=hid (HB5'.out.trans (hb7.mono HB5'.out.size));generalize w6.alloc (.cells #[.slice E1 x1 y1,.slice E2 x2 y2,.slice E3 x3 y3] 26)=W6 at HBW ⊢;generalize w6.heap.size=gz;clear hb3 hb5 hb6 hb7 hok hcf ho5 HSL HB5' p1;have HBQ:=hid (HBD.out.trans (HBW.out.mono HBD.out.size));have HB6:=hid (HB5.out.trans (HBQ.out.mono HB5.out.size));obtain⟨f0,f1,f2⟩:=HX4.out W6 HBQ.out;obtain⟨h0,h1,h2⟩:=(HXD.out.on HBW.out).three;have HSM:Hid (Calls Tryz.prog 19 #[.agg #[.slice (some ⟨g1,0,none⟩) 1 1,.slice none 0 0,.slice (some ⟨g3,0,none⟩) 1 1],.agg #[.slice D1 m1 d1,.slice D2 m2 d2,.slice D3 m3 d3]] W6 (Ans (.bool true) W6)):=hid (by
  have h:=(HA.out.on HBQ.out).rsame (HCD.out.on HBW.out);rw[sameF_yes HSS.out.symm] at h;exact h)
 have HSZ:Hid (∀ V,Below W6.heap.size W6 V→Calls Tryz.prog 20 #[.agg #[.slice (some ⟨g1,0,none⟩) 1 1,.slice none 0 0,.slice (some ⟨g3,0,none⟩) 1 1]] V (Ans (.int .i64 (n:Int)) V)):=hid fun V hv=>HSZ.out V (HBQ.out.trans (hv.mono HBQ.out.size));have HSN:Hid (∀ V,Calls Tryz.prog 20 #[.agg #[.slice none 0 0,.slice none 0 0,.slice none 0 0]] V (Ans (.int .i64 0) V)):=hid fun V=>HSN.out V;have HX4:Hid (∀ V,Below W6.heap.size W6 V→V.cell? ⟨g4,0,none⟩=some (.slice (some ⟨g1,0,none⟩) 1 1)∧V.cell? ⟨g4,1,none⟩=some (.slice none 0 0)∧V.cell? ⟨g4,2,none⟩=some (.slice (some ⟨g3,0,none⟩) 1 1)):=hid fun V hv=>HX4.out V (HBQ.out.trans (hv.mono HBQ.out.size));clear HXD HCD HSS HBD HBW HO1 HBQ HB5 HA;go_wp2_with (first | (go_at_call 20;refine(HSN.out w8).mono ?_;rintro e w9⟨rfl,hb9⟩) | (go_at_call 20;refine(HSZ.out w7 hb7).mono ?_;rintro e w8⟨rfl,hb8⟩) | (go_at_call 19;refine HSM.out.mono ?_;rintro e w7⟨rfl,hb7⟩;obtain⟨k0,k1,k2⟩:=HX4.out w7 hb7));go_ret;have hb:=hb7.trans ((hb8.trans (hb9.mono hb8.size)).mono hb7.size);exact Ans.mk rfl (HB6.out.trans (hb.mono HB6.out.size))
end Go.Proofs.YtdkngfdnfekgfaaGreat
