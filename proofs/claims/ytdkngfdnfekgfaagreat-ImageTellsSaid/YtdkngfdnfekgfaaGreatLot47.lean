import Derived.Test.YtdkngfdnfekgfaaGreatLot46
set_option maxHeartbeats 32000000
set_option maxRecDepth 100000
set_option linter.unusedSimpArgs false
set_option linter.unusedVariables false
namespace Go.Proofs.YtdkngfdnfekgfaaGreat
open Go.RowKit
theorem seal_is(l:List UInt8)(k:Nat)(h:l.length=k+4):Crc.ook l=true↔Crc.seal4 (l.take k)=l:=by
 unfold Crc.ook;rw[decide_eq_true_iff,h,Nat.add_sub_cancel];exact⟨fun h1=>h1.2,fun h1=>⟨by omega,h1⟩⟩
theorem ropen_short(A:Option Addr)(n cap:Nat)(l:List UInt8)(w:World)(h:Rd w w.heap.size A n l)(hn:n < 4):
  Calls Tryz.prog 45 #[.slice A n cap] w (Opened w l):=by
 have hno:=hid (Crc.ook_short l (by rw[h.1];omega));go_enter Tryz.func45,Tryz.ntmps45;go_wp2;have hdec:decide ((n:Int) < 4)=true:=decide_eq_true (by omega);go_quiet (fail);go_wp2;go_ret2;exact opened_no _ _ _ hno.out (below_drewN (Below.refl _ _) _)
def RoV(ad:Addr)(k cap:Nat)(l:List UInt8)(j:Nat)(v:Value)(w:World):Prop :=
 match j with
 | 0=>v=.slice (some ad) (k+4) cap
 | 1=>v=.int .i64 ((k:Int)+4)
 | 2=>v=.bool false
 | 3=>v=.bool false
 | 4=>v=.slice (some ad) (k+4) cap
 | 5=>v=.slice (some ad) (k+4) cap
 | 6=>v=.int .i64 ((k:Int)+4)
 | 7=>v=.int .i64 (k:Int)
 | 8=>v=.slice (some ad) k cap
 | 9=>∃ A c,v=.slice A (k+4) c∧Rd w w.heap.size A (k+4) (Crc.seal4 (l.take k))
 | 10=>v=.string (str (Crc.seal4 (l.take k)))
 | 11=>v=.slice (some ad) (k+4) cap
 | 12=>v=.string (str l)
 | 13=>v=.bool (!(Crc.ook l))
 | 14=>v=.bool (!(Crc.ook l))
 | _=>True
theorem RoV.keep{ad:Addr}{k cap:Nat}{l:List UInt8}{w w':World}(hb:Below w.heap.size w w')(j:Nat)(v:Value)(h:RoV ad k cap l j v w):RoV ad k cap l j v w':=by
 unfold RoV at h ⊢;split at h <;> first | exact h | skip
 obtain⟨A,c,e,hr⟩:=h;exact⟨A,c,e,(hr.below hb).more hb.size⟩
theorem ook_str(l:List UInt8)(k:Nat)(h:l.length=k+4):((str (Crc.seal4 (l.take k))).toList == (str l).toList)=Crc.ook l:=by
 rw[str_toList,str_toList,Bool.eq_iff_iff,seal_is l k h];exact beq_iff_eq
theorem ropen_long(ad:Addr)(k cap:Nat)(l:List UInt8)(w:World)(h:Rd w w.heap.size (some ad) (k+4) l)(hn:k+4≤140737488355000)(hcap:k+4≤cap):
  Calls Tryz.prog 45 #[.slice (some ad) (k+4) cap] w (Opened w l):=by
 have H0:=hid h.1;have hf:=h.front k (by omega);have hk1:k≤cap:=by omega
 have hk2:¬ cap=k:=by omega
 go_enter Tryz.func45,Tryz.ntmps45;go_wp2;have hwr:IntKind.i64.wrap (k:Int)=(k:Int):=IntWalk.i64_in _ (by omega);have hdec:decide ((k:Int)+4 < 4)=false:=decide_eq_false (by omega);refine Reg.region (by kernel_rfl) (by kernel_rfl) (RoV ad k cap l) (fun w'=>Below w.heap.size w w') ((Below.refl _ _).drew) (Reg.steps_of ?_) ?_
 ·refine⟨?_,?_,?_,?_,?_,?_,?_,?_,?_,?_,?_,?_,?_,?_,?_,trivial⟩<;>intro a w1 E D hW
  ·have e0:a.eval (.tmp 0)=.slice (some ad) (k+4) cap:=E 0 rfl;exact Reg.val rfl (Reg.wanted_free rfl) hW (.slice (some ad) (k+4) cap) (by have c:=Reg.consts a;generalize a.eval=ρ at *;simp[go_sem,c.1,c.2,e0]) rfl
  ·have d0:a.eval (.tmp 4)=.slice (some ad) (k+4) cap:=D 0 rfl;exact Reg.val rfl (Reg.wanted_free rfl) hW (.int .i64 ((k:Int)+4)) (by have c:=Reg.consts a;generalize a.eval=ρ at *;simp[go_sem,c.1,c.2,d0]) rfl
  ·have d1:a.eval (.tmp 5)=.int .i64 ((k:Int)+4):=D 1 rfl;exact Reg.val rfl (Reg.wanted_free rfl) hW (.bool false) (by have c:=Reg.consts a;generalize a.eval=ρ at *;simp[go_sem,c.1,c.2,d1,hdec]) rfl
  ·have d2:a.eval (.tmp 6)=.bool false:=D 2 rfl;exact Reg.val rfl (Reg.wanted_free rfl) hW (.bool false) (by have c:=Reg.consts a;generalize a.eval=ρ at *;simp[go_sem,c.1,c.2,d2]) rfl
  ·have e0:a.eval (.tmp 0)=.slice (some ad) (k+4) cap:=E 0 rfl;have g:a.eval (.tmp 7)=.bool false:=D 3 rfl;exact Reg.val rfl (Reg.wanted_if rfl rfl g rfl) hW (.slice (some ad) (k+4) cap) (by have c:=Reg.consts a;generalize a.eval=ρ at *;simp[go_sem,c.1,c.2,e0]) rfl
  ·have e0:a.eval (.tmp 0)=.slice (some ad) (k+4) cap:=E 0 rfl;have g:a.eval (.tmp 7)=.bool false:=D 3 rfl;exact Reg.val rfl (Reg.wanted_if rfl rfl g rfl) hW (.slice (some ad) (k+4) cap) (by have c:=Reg.consts a;generalize a.eval=ρ at *;simp[go_sem,c.1,c.2,e0]) rfl
  ·have d5:a.eval (.tmp 9)=.slice (some ad) (k+4) cap:=D 5 rfl;have g:a.eval (.tmp 7)=.bool false:=D 3 rfl;exact Reg.val rfl (Reg.wanted_if rfl rfl g rfl) hW (.int .i64 ((k:Int)+4)) (by have c:=Reg.consts a;generalize a.eval=ρ at *;simp[go_sem,c.1,c.2,d5]) rfl
  ·have d6:a.eval (.tmp 10)=.int .i64 ((k:Int)+4):=D 6 rfl;have g:a.eval (.tmp 7)=.bool false:=D 3 rfl;exact Reg.val rfl (Reg.wanted_if rfl rfl g rfl) hW (.int .i64 (k:Int)) (by have c:=Reg.consts a;generalize a.eval=ρ at *;simp[go_sem,c.1,c.2,d6,hwr]) rfl
  ·have d4:a.eval (.tmp 8)=.slice (some ad) (k+4) cap:=D 4 rfl;have d7:a.eval (.tmp 11)=.int .i64 (k:Int):=D 7 rfl;have g:a.eval (.tmp 7)=.bool false:=D 3 rfl;exact Reg.val rfl (Reg.wanted_if rfl rfl g rfl) hW (.slice (some ad) k cap) (by have c:=Reg.consts a;generalize a.eval=ρ at *;simp[go_sem,c.1,c.2,d4,d7,hk1]) rfl
  ·have d8:a.eval (.tmp 12)=.slice (some ad) k cap:=D 8 rfl;have g:a.eval (.tmp 7)=.bool false:=D 3 rfl;refine Reg.call rfl (Reg.wanted_if rfl rfl g rfl) 13 #[.slice (some ad) k cap] (by have c:=Reg.consts a;generalize a.eval=ρ at *;simp[go_sem,c.1,c.2,d8]) ?_;refine(rseal_any (some ad) k cap (l.take k) w1 ((hf.below hW).more hW.size) (by omega)).mono ?_;rintro e w2⟨A1,c1,rfl,hw2,hb2⟩;exact⟨_,rfl,⟨A1,c1,rfl,hw2.rd⟩,hW.trans (hb2.mono hW.size),RoV.keep hb2⟩
  ·obtain⟨A1,c1,d9,hr⟩:∃ A c,a.eval (.tmp 13)=.slice A (k+4) c∧Rd w1 w1.heap.size A (k+4) (Crc.seal4 (l.take k)):=D 9 rfl;have g:a.eval (.tmp 7)=.bool false:=D 3 rfl;have q:=run_conv w1 _ _ _ c1 _ hr;exact Reg.val rfl (Reg.wanted_if rfl rfl g rfl) hW (.string (str (Crc.seal4 (l.take k)))) (by have c:=Reg.consts a;generalize a.eval=ρ at *;simp[go_sem,c.1,c.2,d9,q]) rfl
  ·have e0:a.eval (.tmp 0)=.slice (some ad) (k+4) cap:=E 0 rfl;have g:a.eval (.tmp 7)=.bool false:=D 3 rfl;exact Reg.val rfl (Reg.wanted_if rfl rfl g rfl) hW (.slice (some ad) (k+4) cap) (by have c:=Reg.consts a;generalize a.eval=ρ at *;simp[go_sem,c.1,c.2,e0]) rfl
  ·have d11:a.eval (.tmp 15)=.slice (some ad) (k+4) cap:=D 11 rfl;have g:a.eval (.tmp 7)=.bool false:=D 3 rfl;have q:=run_conv w1 _ _ _ cap _ (h.below hW);exact Reg.val rfl (Reg.wanted_if rfl rfl g rfl) hW (.string (str l)) (by have c:=Reg.consts a;generalize a.eval=ρ at *;simp[go_sem,c.1,c.2,d11,q]) rfl
  ·have d10:a.eval (.tmp 14)=.string (str (Crc.seal4 (l.take k))):=D 10 rfl;have d12:a.eval (.tmp 16)=.string (str l):=D 12 rfl;have g:a.eval (.tmp 7)=.bool false:=D 3 rfl;have q:=ook_str l k H0.out;exact Reg.val rfl (Reg.wanted_if rfl rfl g rfl) hW (.bool (!(Crc.ook l))) (by have c:=Reg.consts a;generalize a.eval=ρ at *;simp[go_sem,c.1,c.2,d10,d12,q]) rfl
  have d3:a.eval (.tmp 7)=.bool false:=D 3 rfl;have d13:a.eval (.tmp 17)=.bool (!(Crc.ook l)):=D 13 rfl;exact Reg.val rfl (Reg.wanted_free rfl) hW (.bool (!(Crc.ook l))) (by have c:=Reg.consts a;generalize a.eval=ρ at *;simp[go_sem,c.1,c.2,d3,d13]) rfl
 intro a w1 hs hd E D D2;have e0:a.eval (.tmp 0)=.slice (some ad) (k+4) cap:=E 0 rfl;have e2:a.eval (.tmp 2)=.slice none 0 0:=E 2 rfl;have e3:a.eval (.tmp 3)=.bool false:=E 3 rfl;have d14:a.eval (.tmp 18)=.bool (!(Crc.ook l)):=D 14 (by decide);have hb2:Below w.heap.size w w1:=D2;rw[Reg.act_lit a 26 hs,hd];simp only[List.range,List.range.loop,List.map,e0,e2,e3,d14];clear E e0 e2 e3 d14;generalize a.eval=ρ;clear a hs hd D;cases hok:Crc.ook l
 ·have hno:=hid hok;clear hok;go_wp2;go_ret2;exact opened_no _ _ _ hno.out hb2
 have hyes:=hid hok;clear hok;go_wp2_with (first
  | (at_builtin;refine wpList_app rfl (.tmp 19) (.tmp 24) rfl rfl w.heap.size (some ⟨w1.heap.size,0,none⟩) 0 0 [] rfl (own_lit w1 w.heap.size [] #[] rfl hb2.size (by decide)) (some ad) k cap (l.take k) w.heap.size rfl ((hf.below hb2).alloc hb2.size _) k (Nat.zero_add _) (l.take k) (List.nil_append _) (by omega) (by have:=hb2.size;simp;omega) ?_;intro A3 c3 w3 hw3 hb3))
 go_ret2;exact opened_yes _ _ _ k _ _ H0.out hyes.out hw3 (hb2.trans (((Below.refl _ _).alloc hb2.size _).trans hb3))
theorem ropen_any(A:Option Addr)(n cap:Nat)(l:List UInt8)(w:World)(h:Rd w w.heap.size A n l)(hn:n≤140737488355000)(hcap:n≤cap):
  Calls Tryz.prog 45 #[.slice A n cap] w (Opened w l):=by
 by_cases h4:n < 4
 ·exact ropen_short A n cap l w h h4
 obtain⟨k,rfl⟩:∃ k,n=k+4:=⟨n - 4,by omega⟩;obtain⟨ad,rfl,_⟩:=h.2 (by omega);exact ropen_long ad k cap l w h hn hcap
end Go.Proofs.YtdkngfdnfekgfaaGreat
namespace Go.Proofs.YtdkngfdnfekgfaaGreat
open Go.RowKit Tab
section
variable {b B g:Nat} (s0 s1:List UInt8×Bool) (h:b≤B)
include h
theorem kpt_gR(K:PtK):ApG (KPt 96 2 K) (fun k=>k == 3 || k == 3) (RDR b g s0 s1 s1 3 3) b g B B 4 5 7:=⟨rdr_ph _ _ _ _ _ _ _,Nat.ne_of_beq_eq_false rfl,Nat.ne_of_beq_eq_false rfl,Nat.ne_of_beq_eq_false rfl,Nat.ne_of_beq_eq_false rfl,Nat.ne_of_beq_eq_false rfl,Nat.ne_of_beq_eq_false rfl,h,h,rfl,rfl,rfl,by decide,by decide,by decide⟩
theorem kch_gR(K:ChV):ApG (KCh 96 2 K) (fun k=>k == 3 || k == 3) (RDR b g s0 s1 s1 3 3) b g B B 4 5 7:=⟨rdr_ph _ _ _ _ _ _ _,Nat.ne_of_beq_eq_false rfl,Nat.ne_of_beq_eq_false rfl,Nat.ne_of_beq_eq_false rfl,Nat.ne_of_beq_eq_false rfl,Nat.ne_of_beq_eq_false rfl,Nat.ne_of_beq_eq_false rfl,h,h,rfl,rfl,rfl,by decide,by decide,by decide⟩
end
theorem ModS.kpo{B b g gc TR tr:Nat}{x:Cf}{w w':World}{lr:List Value}(h:ModS B gc x w)(hr:OwnV TR tr w b (some ⟨g,0,none⟩) 1 1 lr)(k:KpS (fun j=>j=g∨w.heap.size≤j) w w')(t:26≠TR∧57≠TR∧63≠TR∧64≠TR∧59≠TR∧70≠TR):ModS B gc x w' :=
 have q:∀ {E s n c:Nat} {A:Option Addr} {l:List Value},OwnV E s w B A n c l→E≠TR→OwnV E s w' B A n c l:=fun ho e=>k.own ho fun j e1 e2=>by
  rcases e2 with e2 | e2
  ·exact ho.ne hr e j e1 (by rw[e2];rfl)
  ·have:=(ho.obk_ge e1).2;omega
 ⟨q h.cf t.1,q h.pp t.2.1,q h.ch t.2.2.1,q h.tb t.2.2.2.1,fun y hy=>q (h.pt y hy) t.2.2.2.2.1,fun y hy=>q (h.tt y hy) t.2.2.2.2.2,h.ln,h.sm,h.fp,h.ft⟩
theorem nodes_inR{s:List UInt8×Bool}{n:Nat}:∀ z∈(rowG (nodeG RR) n s).1,NdIn z:=by
 induction n with
 | zero=>intro z hz;cases hz
 | succ n ih =>
  intro z hz;rw[rowG_succ] at hz;rcases List.mem_append.1 hz with hz | hz
  ·exact ih z hz
  rw[List.mem_singleton.1 hz];have h1:=intR_bd (lo:=0) (hi:=4) (by omega) (by omega) (rowG (nodeG RR) n s).2;have h2:=intR_bd (lo:=0) (hi:=6) (by omega) (by omega) (intR 0 4 (rowG (nodeG RR) n s).2).2;exact⟨(show In64 (intR 0 4 (rowG (nodeG RR) n s).2).1 by unfold In64;omega),(show In64 (intR 0 6 (intR 0 4 (rowG (nodeG RR) n s).2).2).1 by unfold In64;omega),numR_in _⟩
theorem maxs_inR{s:List UInt8×Bool}{n:Nat}:∀ y∈(rowG (chanG RR) n s).1,0≤y.max∧y.max≤4294967295:=by
 induction n with
 | zero=>intro z hz;cases hz
 | succ n ih =>
  intro z hz;rw[rowG_succ] at hz;rcases List.mem_append.1 hz with hz | hz
  ·exact ih z hz
  rw[List.mem_singleton.1 hz];show 0≤IntKind.u32.wrap _∧IntKind.u32.wrap _≤4294967295;rw[IntKind.wrap_u32'];omega
theorem kps_bel{B:Nat}{S:Nat→Prop}{w0 w w':World}(h:Below B w0 w)(hB:B≤w0.heap.size)(k:KpS S w w')(hS:∀ j,S j→B≤j):Below B w0 w':=h.trans (k.below hS (Nat.le_trans hB h.size))
theorem gbr_bel{B b g:Nat}{t:List UInt8×Bool}{w0 w w':World}(h:Below B w0 w)(hB:B≤w0.heap.size)(q:RpR b g t w w')(hg:B≤g):Below B w0 w':=kps_bel h hB (KpS.gb (S:=fun j=>j=g) q.gb rfl) (fun j e=>by omega)
theorem rread_any(A:Option Addr)(n c:Nat)(lb:List UInt8)(w:World)(h:Rd w w.heap.size A n lb)(hn:n≤140737488351240)(hc:n≤c):Calls Tryz.prog 28 #[.slice A n c] w (RdE lb w):=by
 have hb0:=bl1 w (.cells #[.slice none 0 0,.slice none 0 0,.slice none 0 0] 26);have HRS0:=hid (ownV_lit w 26 3 w.heap.size #[.slice none 0 0,.slice none 0 0,.slice none 0 0] 1 rfl (Nat.le_refl _) (by unfold maxLen;omega));have HOP:=hid (ropen_any A n c lb _ ((h.below hb0).more hb0.size) (by omega) hc);have HRD:=hid h;have HB0:=hid hb0;clear hb0 h;go_enter Tryz.func28,Tryz.ntmps28;go_wp2_with fail;generalize w.alloc (.cells #[.slice none 0 0,.slice none 0 0,.slice none 0 0] 26)=W0 at HRS0 HOP HB0 ⊢;obtain⟨g2,hg2⟩:∃ g,g=w.heap.size:=⟨_,rfl⟩;have HG2:=hid hg2;rw[← hg2];have HRS:Hid (OwnV 26 3 W0 w.heap.size (some ⟨g2,0,none⟩) 1 1 [.slice none 0 0,.slice none 0 0,.slice none 0 0]):=hid (by rw[hg2];exact HRS0.out);clear hg2 HRS0;refine HOP.out.mono ?_;rintro e w1⟨Ab,cb,rfl,ho1,hb1⟩;have HO1:=hid ho1;have HB1:=hid (HB0.out.trans (hb1.mono HB0.out.size));have HRS1:=hid (OwnV.below HRS.out rfl hb1);clear ho1 hb1 HOP HRS HB0;have HNC:=hid (nilCf HRS1.out HB1.out (Nat.le_of_eq HG2.out.symm));cases hok:Crc.ook lb with
 | false =>
  have HK:=hid hok;obtain⟨⟨c0a,c0b⟩,⟨c1a,c1b⟩,⟨c2a,c2b⟩,ho,hb⟩:=HNC.out;have hbc:=builtCf w1;have HO2:=hid ho;have HB2:=hid hb;clear ho hb hok;go_wp2_with fail;refine bodyPost_ret (results_twoX rfl (agCf _) (szCf _) rfl HO2.out) rfl ?_;exact⟨cfN,13,rfl,RdOk.sum HK.out,cfN_rd _,HB2.out⟩
 | true =>
  have HK:=hid hok;have hcp:=HO1.out.cap;have hln:(Crc.oval lb).length≤140737488351236:=oval_few (by rw[HRD.out.1];omega);have HA1:Hid (Ab=none→cb=0):=hid fun e=>by
   subst e;rcases HO1.out.2 with ⟨hv,_⟩ | ⟨g,cap,cur,hv,_⟩
   ·injection hv
   cases hv
  have HFR:Hid ((Crc.oval lb).take 4≠horaB→RdOk lb cfN 12):=hid fun h=>RdOk.form HK.out fun x hx=>h hx.front;have HOD:=hid HO1.out.rd;clear hok HO1;by_cases h4:(Crc.oval lb).length < 4
  ·have hi4:((Crc.oval lb).length:Int) < 4:=by omega
   have HOK:=hid (HFR.out fun e=>by have:=congrArg List.length e;rw[List.length_take] at this;have e2:horaB.length=4:=rfl;omega);obtain⟨⟨c0a,c0b⟩,⟨c1a,c1b⟩,⟨c2a,c2b⟩,ho,hb⟩:=HNC.out;have hbc:=builtCf w1;have HO2:=hid ho;have HB2:=hid hb;clear ho hb HNC;go_wp2_with fail;refine bodyPost_ret (results_twoX rfl (agCf _) (szCf _) rfl HO2.out) rfl ?_;exact⟨cfN,12,rfl,HOK.out,cfN_rd _,HB2.out⟩
  have hi4:¬ ((Crc.oval lb).length:Int) < 4:=by omega
  have hcb4:4≤cb:=by omega
  have p1:=run_conv w1 _ Ab 4 cb ((Crc.oval lb).take 4) (HOD.out.front 4 (by omega));obtain⟨q,hq⟩:∃ q,((str ((Crc.oval lb).take 4)).toList == [72,79,82,65])=q:=⟨_,rfl⟩;have HQ:Hid (q=decide ((Crc.oval lb).take 4=horaB)):=hid (by
   rw[← hq,str_toList];by_cases h:(Crc.oval lb).take 4=horaB
   ·rw[decide_eq_true h,h];rfl
   rw[decide_eq_false h];exact beq_eq_false_iff_ne.2 h)
  generalize str ((Crc.oval lb).take 4)=sh at p1 hq;cases q with
  | false =>
   have HOK:=hid (HFR.out (of_decide_eq_false HQ.out.symm));obtain⟨⟨c0a,c0b⟩,⟨c1a,c1b⟩,⟨c2a,c2b⟩,ho,hb⟩:=HNC.out;have hbc:=builtCf w1;have HO2:=hid ho;have HB2:=hid hb;clear ho hb HNC;go_wp2_with fail;refine bodyPost_ret (results_twoX rfl (agCf _) (szCf _) rfl HO2.out) rfl ?_;exact⟨cfN,12,rfl,HOK.out,cfN_rd _,HB2.out⟩
  | true =>
   have hf:=of_decide_eq_true HQ.out.symm;obtain⟨s,hs⟩:∃ s,s=(Crc.oval lb).drop 4:=⟨_,rfl⟩;have HSS:Hid (Crc.oval lb=horaB++s):=hid (by rw[hs,← hf,List.take_append_drop]);have HBS:Hid (∀ A',(∀ ad,Ab=some ad→4 < (Crc.oval lb).length→A'=some (ad.add 4))→(A'=none→cb - 4=0)→BySl w1.heap.size (.slice A' ((Crc.oval lb).length - 4) (cb - 4)) s w1):=hid fun A' h1 h2=>by
    rw[hs];exact BySl.drop2 HOD.out hcp (by omega) (by omega) h1 h2
   have HCF1:=hid (ownV_lit w1 26 3 w1.heap.size #[.slice none 0 0,.slice none 0 0,.slice none 0 0] 1 rfl (Nat.le_refl _) (by unfold maxLen;omega));have HLT0:Hid (w.heap.size≤w1.heap.size∧g2 < w1.heap.size):=hid ⟨HB1.out.size,(HRS1.out.obk_ge (b:=g2) rfl).2⟩;clear hf hs HNC HFR HQ;have HALL:Hid (∀ A',BySl w1.heap.size (.slice A' ((Crc.oval lb).length - 4) (cb - 4)) s w1→∃ W,W=(w1.alloc (.cells #[.slice none 0 0,.slice none 0 0,.slice none 0 0] 26)).alloc (.cells #[.slice A' ((Crc.oval lb).length - 4) (cb - 4),.bool false] 96)∧RfR w1.heap.size (w1.heap.size+1) (s,false) W∧OwnV 26 3 W w1.heap.size (some ⟨w1.heap.size,0,none⟩) 1 1 [.slice none 0 0,.slice none 0 0,.slice none 0 0]∧OwnV 26 3 W w.heap.size (some ⟨g2,0,none⟩) 1 1 [.slice none 0 0,.slice none 0 0,.slice none 0 0]∧Below w.heap.size w W):=hid fun A' hv=>by
    have b1:=bl1 w1 (.cells #[.slice none 0 0,.slice none 0 0,.slice none 0 0] 26);have b2:=bl1 (w1.alloc (.cells #[.slice none 0 0,.slice none 0 0,.slice none 0 0] 26)) (.cells #[.slice A' ((Crc.oval lb).length - 4) (cb - 4),.bool false] 96);have hr:=ownV_lit (w1.alloc (.cells #[.slice none 0 0,.slice none 0 0,.slice none 0 0] 26)) 96 2 w1.heap.size #[.slice A' ((Crc.oval lb).length - 4) (cb - 4),.bool false] 1 rfl b1.size (by unfold maxLen;omega);have hsz:(w1.alloc (.cells #[.slice none 0 0,.slice none 0 0,.slice none 0 0] 26)).heap.size=w1.heap.size+1:=by simp
    rw[hsz] at hr;exact⟨_,rfl,⟨_,hr,hv.keep fun p hp=>(b2.cell (by omega)).trans (b1.cell hp)⟩,OwnV.below HCF1.out rfl b2,OwnV.below (OwnV.below HRS1.out rfl b1) rfl b2,HB1.out.trans ((b1.trans (b2.mono b1.size)).mono HB1.out.size)⟩
   cases Ab with
   | none=>exact absurd (HA1.out rfl) (by omega)
   | some ad =>
    obtain⟨A',hif⟩:∃ A',(if cb=4 then some ad else some ⟨ad.block,ad.off+4,none⟩)=A':=⟨_,rfl⟩;obtain⟨WX,hW,hq0,hcf,hrs,hbl⟩:=HALL.out A' (HBS.out A' (fun ad' e h=>by injection e with e;subst e;rw[← hif,if_neg (by omega)];rfl) (fun e=>by rw[← hif] at e;split at e <;> cases e));have HQR:=hid hq0;have HCF0:=hid hcf;have HRS2:=hid hrs;have HB2:=hid hbl;have HWX:=hid hW;clear hW hq0 hcf hrs hbl HALL HBS HOD HRS1 HB1 HCF1;go_upto_region 8 with fail;rw[← HWX.out];clear HWX hif p1 hq hcp hln h4 hi4 hcb4;obtain⟨bb,hbb⟩:∃ x,x=w1.heap.size:=⟨_,rfl⟩;rw[← hbb] at HQR HCF0 HLT0 ⊢;obtain⟨gc,hgc⟩:∃ x,x=bb:=⟨_,rfl⟩;obtain⟨g,hg⟩:∃ x,x=bb+1:=⟨_,rfl⟩;have HQR:Hid (RfR bb g (s,false) WX):=hid (by rw[hg];exact HQR.out);have HCF0:Hid (OwnV 26 3 WX bb (some ⟨gc,0,none⟩) 1 1 [.slice none 0 0,.slice none 0 0,.slice none 0 0]):=hid (by rw[hgc];exact HCF0.out);have HLT:Hid (w.heap.size≤bb∧g2 < bb∧gc=bb∧g=bb+1):=hid ⟨HLT0.out.1,HLT0.out.2,hgc,hg⟩;rw[← hg,← hgc];clear hbb hgc hg HLT0;obtain⟨⟨zc1,u1⟩,e1⟩:∃ q,q=intR 0 6 (s,false):=⟨_,rfl⟩;have HCN:=hid fun V (h:RfR bb g (s,false) V)=>rint_any h 0 6;rw[← e1] at HCN;have hzc:0≤zc1∧zc1≤6:=by have:=intR_bd (lo:=0) (hi:=6) (by omega) (by omega) (s,false);rw[← e1] at this;exact this
    have HMX:=hid (cntG_le 6 zc1);have HGG1:Hid (partsG RR (s,false)=rowG (partG RR) (cntG 6 zc1) u1):=hid (by
     unfold partsG;simp only[show RR.int=intR from rfl,← e1])
    have hzm:zc1=(cntG 6 zc1:Int):=by unfold cntG;omega
    generalize cntG 6 zc1=m1 at HGG1 HMX hzm;subst hzm;clear hzc e1;go_wp2_with (go_at_call 46;refine(HCN.out _ HQR.out).mono ?_;rintro e w4⟨rfl,q4⟩);have HCF:=hid (q4.own HQR.out HCF0.out (by decide));have HRS0:=hid (q4.own HQR.out HRS2.out (by decide));have HB0:=hid (gbr_bel HB2.out (Nat.le_refl _) q4 (by have:=HLT.out;omega));have HQ0:=hid q4.r;clear q4 HCN HQR HCF0 HRS2 HB2;go_loopw [8] (fun v wr=>∃(k j:Nat) (x:Cf),k+j=m1∧v=.int .i64 j∧ModS bb gc x wr∧x.P.map coreK=(rowG (partG RR) k u1).1∧x.C=[]∧x.T=[]∧x.n1=k∧RfR bb g (rowG (partG RR) k u1).2 wr∧OwnV 26 3 wr w.heap.size (some ⟨g2,0,none⟩) 1 1 [.slice none 0 0,.slice none 0 0,.slice none 0 0]∧Below w.heap.size w wr) (fun v _=>(intOf v).toNat)
    case atStart=>exact⟨0,m1,⟨none,none,none,0,0,0,0,0,0,[],[],[]⟩,by omega,rfl,⟨HCF.out,OwnV.nil _ _ _ _,OwnV.nil _ _ _ _,OwnV.nil _ _ _ _,fun y hy=>(by cases hy),fun y hy=>(by cases hy),⟨rfl,rfl,rfl⟩,⟨Nat.zero_le _,Nat.zero_le _,Nat.zero_le _⟩,fun y hy=>(by cases hy),fun y hy=>(by cases hy)⟩,rfl,rfl,rfl,rfl,HQ0.out,HRS0.out,HB0.out⟩
    obtain⟨k,j,⟨A1,A2,A3,n1,n2,n3,c1,c2,c3,P,C,T⟩,hk,rfl,hms,hP,hC,hT,hnk,hqr,hrs,hbb⟩:=hrel;have HE:Hid (rowG (partG RR) (k+1) u1=((rowG (partG RR) k u1).1++[(partG RR (rowG (partG RR) k u1).2).1],(partG RR (rowG (partG RR) k u1).2).2)):=hid rfl;obtain⟨⟨l,t⟩,hr⟩:∃ r,r=rowG (partG RR) k u1:=⟨_,rfl⟩;rw[← hr] at hqr HE hP;have HRR:=hid hr.symm;dsimp only at hP hC hT hnk hqr HE;have HP:=hid hP;have HC:=hid hC;have HT:=hid hT;have HNK:=hid hnk;have HQR:=hid hqr;have HMS:=hid hms;have HRS:=hid hrs;have HB:=hid hbb;have hm3:=HMX.out;have HSZ:Hid (bb≤wr.drew.heap.size):=hid hqr.ge;obtain⟨vr,hrr,_⟩:=hqr;have HRR2:=hid hrr;clear hr hP hC hT hnk hrr hms hrs hbb;by_cases hlt:0 < j
    ·obtain⟨j,rfl⟩:∃ i,j=i+1:=⟨j - 1,by omega⟩;have hlti:(0:Int) < ((j+1:Nat):Int):=by omega
     have HRK:Hid (¬ (g2=g∨g2=gc∨obk A1=some g2)):=hid (by
      have:=HLT.out;rintro (e | e | e)
      ·omega
      ·omega
      have:=(HMS.out.pp.obk_ge e).1;omega)
     go_upto_region 11 with fail;refine Rgs.region (by kernel_rfl) (by kernel_rfl) (fun(opn:Nat) (vl:Value) (_:World)=>match opn with
       | 0=>vl=.pointer (some ⟨gc,0,none⟩)
       | 1=>vl=.slice A1 n1 c1
       | 2=>vl=.pointer (some ⟨g,0,none⟩)
       | 6=>vl=.pointer (some ⟨gc,0,none⟩)
       | _=>True) (ApS (KPt 96 2 (partG RR t).1) (RDR bb g t (partG RR t).2 (partG RR t).2 3 3) g bb bb gc 3 4 5 7 45 46 47 0 [.slice A1 n1 c1,.slice A2 n2 c2,.slice A3 n3 c3] A1 n1 c1 ((P.flatMap pcq)) wr.drew) (ApS.start (rdr_start (HQR.out.bel (Below.refl _ _).drew)) HMS.out.pp HMS.out.cf) (Rgs.steps_of ?_) ?_
     ·refine⟨?_,?_,?_,?_,?_,?_,?_,?_,trivial⟩<;>intro a w1 live S E D C h0 hk hX
      ·have e0:a.eval (.tmp 6)=.pointer (some ⟨gc,0,none⟩):=E 6 rfl;exact Rgs.va (.pointer (some ⟨gc,0,none⟩)) (hX.id (kpt_gR t (partG RR t).2 (Nat.le_refl bb) (partG RR t).1) 0 42 _ (by decide) (by decide) rfl)
      ·have l5:=Reg.not_live C h0 (j:=5) rfl rfl;have l7:=Reg.not_live C l5 (j:=7) rfl rfl;have e0:a.eval (.tmp 42)=.pointer (some ⟨gc,0,none⟩):=D 0 rfl _ _ rfl rfl;have hc:=(rowf (hX.cel l7) 0 _ rfl).1;exact Rgs.va (.slice A1 n1 c1) (hX.id (kpt_gR t (partG RR t).2 (Nat.le_refl bb) (partG RR t).1) 1 43 _ (by decide) (by decide) rfl)
      ·have e0:a.eval (.tmp 7)=.pointer (some ⟨g,0,none⟩):=E 7 rfl;exact Rgs.va (.pointer (some ⟨g,0,none⟩)) (hX.id (kpt_gR t (partG RR t).2 (Nat.le_refl bb) (partG RR t).1) 2 44 _ (by decide) (by decide) rfl)
      ·have d44:_=_:=D 2 rfl _ _ rfl rfl;have l4:=Reg.not_live C h0 (j:=4) rfl rfl;have l5:=Reg.not_live C l4 (j:=5) rfl rfl;have l7:=Reg.not_live C l5 (j:=7) rfl rfl;have hr:=hX.rd;unfold RDR at hr;simp only[h0,if_true,Bool.false_eq_true,if_false] at hr;refine Rgs.call rfl (Reg.wanted_free rfl) 47 #[.pointer (some ⟨g,0,none⟩)] (by have c:=Reg.consts a;generalize a.eval=ρ at *;simp[execOp,go_sem,c.1,c.2,d44]) ?_;refine(rpart_any hr).mono ?_;rintro e w5⟨y,rfl,⟨p1,p2,p3,ho⟩,q5⟩;have hy:=And.intro p1 (And.intro p2 p3)
       replace ho:=ho.weak (Nat.le_trans HSZ.out hX.kp.size);exact⟨_,rfl,trivial,hX.mk' (kpt_gR t (partG RR t).2 (Nat.le_refl bb) (partG RR t).1) l4 l5 l7 (by decide) q5.gb (by unfold RDR;simp only[Rgs.upd_self,if_true];exact q5.r) y hy ho (by rw[S];exact(by decide:45 < 111)),fun _ _ _ h=>h⟩
      ·have l5:=Reg.not_live C h0 (j:=5) rfl rfl;have l7:=Reg.not_live C l5 (j:=7) rfl rfl;obtain⟨y,hy,hX2⟩:=hX.lit (kpt_gR t (partG RR t).2 (Nat.le_refl bb) (partG RR t).1) (hk 3 rfl) h0 l5 l7 (by decide) (fun _=>rfl) (by rw[S];exact(by decide:46 < 111));have hy2:a.eval (.tmp 45)=.agg #[.string y.1.name,.int .i64 y.1.bud,.int .i64 y.1.per,.bool y.1.sched,.bool y.1.stop,.slice y.1.pa y.1.pn y.1.pc,.int .i64 y.1.h0,.int .i64 y.1.h1,.int .i64 y.1.h2,.int .i64 y.1.h3,.int .i64 y.1.h4]:=hy;exact Rgs.grow rfl (Reg.wanted_free rfl) (.slice (some ⟨w1.heap.size,0,none⟩) 1 1) (w1.alloc (.cells #[.string y.1.name,.int .i64 y.1.bud,.int .i64 y.1.per,.bool y.1.sched,.bool y.1.stop,.slice y.1.pa y.1.pn y.1.pc,.int .i64 y.1.h0,.int .i64 y.1.h1,.int .i64 y.1.h2,.int .i64 y.1.h3,.int .i64 y.1.h4] 57)) (by have c:=Reg.consts a;generalize a.eval=ρ at *;simp[execOp,go_sem,c.1,c.2,hy2]) trivial hX2 (fun _ _ _ h=>h)
      ·have l7:=Reg.not_live C h0 (j:=7) rfl rfl;have d0:_=_:=D 1 rfl _ _ rfl rfl;obtain⟨gb,qb,A',c',w',hrun,hX2⟩:=hX.app elPt (kpt_gR t (partG RR t).2 (Nat.le_refl bb) (partG RR t).1) (C 4 _ rfl (hk 4 rfl) 3 rfl) (hk 4 rfl) h0 l7 (by decide) (fun _=>rfl) (fun y u hu=>i_pcq y u hu) (by have:=HNK.out;have:=HMX.out;omega) (by decide) (HSZ.out) (by rw[S];exact(by decide:47 < 111));refine Rgs.grow rfl (Reg.wanted_free rfl) (.slice A' (n1+1:Nat) c') w' ?_ trivial hX2 (fun _ _ _ h=>h);have cc:=Reg.consts a;generalize a.eval=ρ at *;simp only[execOp,resolve,invoke,builtin,Sem.run_bind,Sem.run_pure,Result.andThen_ok,List.map_toArray,List.map_cons,List.map_nil,d0,qb,hrun]
      ·have e0:a.eval (.tmp 6)=.pointer (some ⟨gc,0,none⟩):=E 6 rfl;exact Rgs.va (.pointer (some ⟨gc,0,none⟩)) (hX.id (kpt_gR t (partG RR t).2 (Nat.le_refl bb) (partG RR t).1) 6 48 _ (by decide) (by decide) rfl)
      have d0:_=_:=D 6 rfl _ _ rfl rfl;have kb:=C 5 _ rfl (hk 5 rfl) 4 rfl;obtain⟨A',c',qa,hX2⟩:=hX.sto (kpt_gR t (partG RR t).2 (Nat.le_refl bb) (partG RR t).1) (C 4 _ rfl kb 3 rfl) kb (hk 5 rfl) h0 (by decide) (by simp);obtain⟨hc,hf⟩:=rowf (hX.cel h0) 0 _ rfl;exact Rgs.store rfl (Reg.wanted_free rfl) (w1.setCell ⟨gc,0,none⟩ (.slice A' (n1+1:Nat) c')) (by have c:=Reg.consts a;generalize a.eval=ρ at *;simp[execOp,go_sem,c.1,c.2,d0,qa,hc,hf]) trivial hX2 (fun _ _ _ h=>h)
     intro a w4 live hs hd E D Hl hX;have hrd:=hX.rd;unfold RDR at hrd;simp only[Hl 3 (by decide),if_true] at hrd;have HKP:=hid hX.kp;obtain⟨y,A4,c4,hy,ho2,ho1,hcl⟩:=hX.fin (Hl 3 (by decide)) (Hl 5 (by decide)) (Hl 7 (by decide));have HRD:=hid hrd;have HY:=hid hy;have HO2:=hid ho2;have HO1:=hid ho1;have HCL:=hid hcl;rw[Rgs.act_ws a _ _ hs hd E [42,43,44,45,46,47,48] (by kernel_rfl)];simp only[List.foldl,List.setIfInBounds_toArray,List.set_cons_succ,List.set_cons_zero];clear E D Hl hX hrd hy ho2 ho1 hcl;generalize a.eval=ρ;clear a hs hd;go_wp2_with fail;go_roundw
     case rel =>
      refine⟨k+1,j,⟨A4,A2,A3,n1+1,n2,n3,c4,c2,c3,P++[y],C,T⟩,by omega,rfl,HMS.out.addP HRR2.out ((KpS.bel (Below.refl _ _).drew).trans HKP.out) (by decide) y HY.out.2 HO2.out HO1.out HCL.out (by have:=HNK.out;have:=HMX.out;omega),(by show (P++[y]).map coreK=_;rw[HE.out,List.map_append,HP.out];show _++[coreK y]=_;rw[HY.out.1]),HC.out,HT.out,?_,?_,?_,?_⟩
      ·show n1+1=k+1;have:=HNK.out;omega
      ·rw[HE.out];exact HRD.out
      ·exact HKP.out.own HRS.out fun j e=>by injection e with e;subst e;exact HRK.out
      exact kps_bel HB.out.drew (Nat.le_refl _) HKP.out (fun j e=>by
       have:=HLT.out;rcases e with e | e | e
       ·omega
       ·omega
       have:=(HMS.out.pp.obk_ge e).1;omega)
     simp[intOf]
    have hlti:¬ (0:Int) < (j:Int):=by omega
    have hkm:k=m1:=by omega
    subst hkm;have HGP:Hid (P.map coreK=(partsG RR (s,false)).1):=hid (by rw[HP.out,HGG1.out,HRR.out]);have HTS:Hid ((partsG RR (s,false)).2=t):=hid (by rw[HGG1.out,HRR.out]);obtain⟨GP,hGP⟩:∃ X,X=P.map coreK:=⟨_,rfl⟩;rw[← hGP] at HGP;have HP:=hid hGP.symm;clear hGP;clear HMX;obtain⟨⟨zc2,u2⟩,e2⟩:∃ q,q=intR 0 8 t:=⟨_,rfl⟩;have HCN:=hid fun V (h:RfR bb g t V)=>rint_any h 0 8;rw[← e2] at HCN;have hzc:0≤zc2∧zc2≤8:=by have:=intR_bd (lo:=0) (hi:=8) (by omega) (by omega) t;rw[← e2] at this;exact this
    have HMX:=hid (cntG_le 8 zc2);have HGG2:Hid (chansG RR t=rowG (chanG RR) (cntG 8 zc2) u2):=hid (by
     unfold chansG;simp only[show RR.int=intR from rfl,← e2])
    have hzm:zc2=(cntG 8 zc2:Int):=by unfold cntG;omega
    generalize cntG 8 zc2=m2 at HGG2 HMX hzm;subst hzm;clear hzc e2;go_wp2_with (go_at_call 46;refine(HCN.out _ HQR.out).mono ?_;rintro e w4⟨rfl,q4⟩);have HMS0:=hid (HMS.out.kpo HRR2.out (KpS.gb q4.gb (.inl rfl)) (by decide));have HL0:Hid (n2=0):=hid (by have h:=HMS.out.ln;rw[HC.out] at h;exact h.2.1.symm);have HRS0:=hid (q4.own HQR.out HRS.out (by decide));have HB0:=hid (gbr_bel HB.out (Nat.le_refl _) q4 (by have:=HLT.out;omega));have HQ0:=hid q4.r;clear HMS HRS HB HE HRR HNK HSZ HRR2 HQR q4 HCN;go_loopw [9] (fun v wr=>∃(k j:Nat) (x:Cf),k+j=m2∧v=.int .i64 j∧ModS bb gc x wr∧x.P.map coreK=GP∧x.C=(rowG (chanG RR) k u2).1∧x.T=[]∧x.n2=k∧RfR bb g (rowG (chanG RR) k u2).2 wr∧OwnV 26 3 wr w.heap.size (some ⟨g2,0,none⟩) 1 1 [.slice none 0 0,.slice none 0 0,.slice none 0 0]∧Below w.heap.size w wr) (fun v _=>(intOf v).toNat)
    case atStart=>exact⟨0,m2,⟨A1,A2,A3,n1,n2,n3,c1,c2,c3,P,C,T⟩,by omega,rfl,HMS0.out,HP.out,HC.out,HT.out,HL0.out,HQ0.out,HRS0.out,HB0.out⟩
    obtain⟨k,j,⟨A1,A2,A3,n1,n2,n3,c1,c2,c3,P,C,T⟩,hk,rfl,hms,hP,hC,hT,hnk,hqr,hrs,hbb⟩:=hrel;have HE:Hid (rowG (chanG RR) (k+1) u2=((rowG (chanG RR) k u2).1++[(chanG RR (rowG (chanG RR) k u2).2).1],(chanG RR (rowG (chanG RR) k u2).2).2)):=hid rfl;obtain⟨⟨l,t⟩,hr⟩:∃ r,r=rowG (chanG RR) k u2:=⟨_,rfl⟩;rw[← hr] at hqr HE hC;have HRR:=hid hr.symm;dsimp only at hP hC hT hnk hqr HE;have HP:=hid hP;have HC:=hid hC;have HT:=hid hT;have HNK:=hid hnk;have HQR:=hid hqr;have HMS:=hid hms;have HRS:=hid hrs;have HB:=hid hbb;have hm3:=HMX.out;have HSZ:Hid (bb≤wr.drew.heap.size):=hid hqr.ge;obtain⟨vr,hrr,_⟩:=hqr;have HRR2:=hid hrr;clear hr hP hC hT hnk hrr hms hrs hbb;by_cases hlt:0 < j
    ·obtain⟨j,rfl⟩:∃ i,j=i+1:=⟨j - 1,by omega⟩;have hlti:(0:Int) < ((j+1:Nat):Int):=by omega
     have HRK:Hid (¬ (g2=g∨g2=gc∨obk A2=some g2)):=hid (by
      have:=HLT.out;rintro (e | e | e)
      ·omega
      ·omega
      have:=(HMS.out.ch.obk_ge e).1;omega)
     go_upto_region 15 with fail;refine Rgs.region (by kernel_rfl) (by kernel_rfl) (fun(opn:Nat) (vl:Value) (_:World)=>match opn with
       | 0=>vl=.pointer (some ⟨gc,1,none⟩)
       | 1=>vl=.slice A2 n2 c2
       | 2=>vl=.pointer (some ⟨g,0,none⟩)
       | 6=>vl=.pointer (some ⟨gc,1,none⟩)
       | _=>True) (ApS (KCh 96 2 (chanG RR t).1) (RDR bb g t (chanG RR t).2 (chanG RR t).2 3 3) g bb bb gc 3 4 5 7 58 59 60 1 [.slice A1 n1 c1,.slice A2 n2 c2,.slice A3 n3 c3] A2 n2 c2 ((C.flatMap cc)) wr.drew) (ApS.start (rdr_start (HQR.out.bel (Below.refl _ _).drew)) HMS.out.ch HMS.out.cf) (Rgs.steps_of ?_) ?_
     ·refine⟨?_,?_,?_,?_,?_,?_,?_,?_,trivial⟩<;>intro a w1 live S E D C h0 hk hX
      ·have e0:a.eval (.tmp 6)=.pointer (some ⟨gc,0,none⟩):=E 6 rfl;exact Rgs.va (.pointer (some ⟨gc,1,none⟩)) (hX.id (kch_gR t (chanG RR t).2 (Nat.le_refl bb) (chanG RR t).1) 0 55 _ (by decide) (by decide) rfl)
      ·have l5:=Reg.not_live C h0 (j:=5) rfl rfl;have l7:=Reg.not_live C l5 (j:=7) rfl rfl;have e0:a.eval (.tmp 55)=.pointer (some ⟨gc,1,none⟩):=D 0 rfl _ _ rfl rfl;have hc:=(rowf (hX.cel l7) 1 _ rfl).1;exact Rgs.va (.slice A2 n2 c2) (hX.id (kch_gR t (chanG RR t).2 (Nat.le_refl bb) (chanG RR t).1) 1 56 _ (by decide) (by decide) rfl)
      ·have e0:a.eval (.tmp 7)=.pointer (some ⟨g,0,none⟩):=E 7 rfl;exact Rgs.va (.pointer (some ⟨g,0,none⟩)) (hX.id (kch_gR t (chanG RR t).2 (Nat.le_refl bb) (chanG RR t).1) 2 57 _ (by decide) (by decide) rfl)
      ·have d57:_=_:=D 2 rfl _ _ rfl rfl;have l4:=Reg.not_live C h0 (j:=4) rfl rfl;have l5:=Reg.not_live C l4 (j:=5) rfl rfl;have l7:=Reg.not_live C l5 (j:=7) rfl rfl;have hr:=hX.rd;unfold RDR at hr;simp only[h0,if_true,Bool.false_eq_true,if_false] at hr;refine Rgs.call rfl (Reg.wanted_free rfl) 48 #[.pointer (some ⟨g,0,none⟩)] (by have c:=Reg.consts a;generalize a.eval=ρ at *;simp[execOp,go_sem,c.1,c.2,d57]) ?_;refine(rchan_any hr).mono ?_;rintro e w5⟨rfl,q5⟩;obtain⟨y,hy⟩:∃ y,y=(chanG RR t).1:=⟨_,rfl⟩;have hv:Ending.returned (cv (chanG RR t).1)=.returned (cv y):=by rw[hy]
       rw[hv];have ho:OwnV 5 1 w5 bb none 0 0 []:=OwnV.nil _ _ _ _;exact⟨_,rfl,trivial,hX.mk' (kch_gR t (chanG RR t).2 (Nat.le_refl bb) (chanG RR t).1) l4 l5 l7 (by decide) q5.gb (by unfold RDR;simp only[Rgs.upd_self,if_true];exact q5.r) y hy ho (by rw[S];exact(by decide:58 < 111)),fun _ _ _ h=>h⟩
      ·have l5:=Reg.not_live C h0 (j:=5) rfl rfl;have l7:=Reg.not_live C l5 (j:=7) rfl rfl;obtain⟨y,hy,hX2⟩:=hX.lit (kch_gR t (chanG RR t).2 (Nat.le_refl bb) (chanG RR t).1) (hk 3 rfl) h0 l5 l7 (by decide) (fun _=>rfl) (by rw[S];exact(by decide:59 < 111));have hy2:a.eval (.tmp 58)=.agg #[.int .i64 y.from_,.int .i64 y.to_,.bool y.queue,.int .i64 y.cap,.int .u32 y.max,.int .i64 y.late]:=hy;exact Rgs.grow rfl (Reg.wanted_free rfl) (.slice (some ⟨w1.heap.size,0,none⟩) 1 1) (w1.alloc (.cells #[.int .i64 y.from_,.int .i64 y.to_,.bool y.queue,.int .i64 y.cap,.int .u32 y.max,.int .i64 y.late] 63)) (by have c:=Reg.consts a;generalize a.eval=ρ at *;simp[execOp,go_sem,c.1,c.2,hy2]) trivial hX2 (fun _ _ _ h=>h)
      ·have l7:=Reg.not_live C h0 (j:=7) rfl rfl;have d0:_=_:=D 1 rfl _ _ rfl rfl;obtain⟨gb,qb,A',c',w',hrun,hX2⟩:=hX.app elCh (kch_gR t (chanG RR t).2 (Nat.le_refl bb) (chanG RR t).1) (C 4 _ rfl (hk 4 rfl) 3 rfl) (hk 4 rfl) h0 l7 (by decide) (fun _=>rfl) (fun y u hu=>i_cc y u hu) (by have:=HNK.out;have:=HMX.out;omega) (by decide) (HSZ.out) (by rw[S];exact(by decide:60 < 111));refine Rgs.grow rfl (Reg.wanted_free rfl) (.slice A' (n2+1:Nat) c') w' ?_ trivial hX2 (fun _ _ _ h=>h);have cc:=Reg.consts a;generalize a.eval=ρ at *;simp only[execOp,resolve,invoke,builtin,Sem.run_bind,Sem.run_pure,Result.andThen_ok,List.map_toArray,List.map_cons,List.map_nil,d0,qb,hrun]
      ·have e0:a.eval (.tmp 6)=.pointer (some ⟨gc,0,none⟩):=E 6 rfl;exact Rgs.va (.pointer (some ⟨gc,1,none⟩)) (hX.id (kch_gR t (chanG RR t).2 (Nat.le_refl bb) (chanG RR t).1) 6 61 _ (by decide) (by decide) rfl)
      have d0:_=_:=D 6 rfl _ _ rfl rfl;have kb:=C 5 _ rfl (hk 5 rfl) 4 rfl;obtain⟨A',c',qa,hX2⟩:=hX.sto (kch_gR t (chanG RR t).2 (Nat.le_refl bb) (chanG RR t).1) (C 4 _ rfl kb 3 rfl) kb (hk 5 rfl) h0 (by decide) (by simp);obtain⟨hc,hf⟩:=rowf (hX.cel h0) 1 _ rfl;exact Rgs.store rfl (Reg.wanted_free rfl) (w1.setCell ⟨gc,1,none⟩ (.slice A' (n2+1:Nat) c')) (by have c:=Reg.consts a;generalize a.eval=ρ at *;simp[execOp,go_sem,c.1,c.2,d0,qa,hc,hf]) trivial hX2 (fun _ _ _ h=>h)
     intro a w4 live hs hd E D Hl hX;have hrd:=hX.rd;unfold RDR at hrd;simp only[Hl 3 (by decide),if_true] at hrd;have HKP:=hid hX.kp;obtain⟨y,A4,c4,hy,ho2,ho1,hcl⟩:=hX.fin (Hl 3 (by decide)) (Hl 5 (by decide)) (Hl 7 (by decide));have HRD:=hid hrd;have HY:=hid hy;have HO2:=hid ho2;have HO1:=hid ho1;have HCL:=hid hcl;rw[Rgs.act_ws a _ _ hs hd E [55,56,57,58,59,60,61] (by kernel_rfl)];simp only[List.foldl,List.setIfInBounds_toArray,List.set_cons_succ,List.set_cons_zero];clear E D Hl hX hrd hy ho2 ho1 hcl;generalize a.eval=ρ;clear a hs hd;go_wp2_with fail;go_roundw
     case rel =>
      refine⟨k+1,j,⟨A1,A4,A3,n1,n2+1,n3,c1,c4,c3,P,C++[y],T⟩,by omega,rfl,HMS.out.addC HRR2.out ((KpS.bel (Below.refl _ _).drew).trans HKP.out) (by decide) y HO1.out HCL.out (by have:=HNK.out;have:=HMX.out;omega),HP.out,(by show C++[y]=_;rw[HE.out,HC.out,HY.out]),HT.out,?_,?_,?_,?_⟩
      ·show n2+1=k+1;have:=HNK.out;omega
      ·rw[HE.out];exact HRD.out
      ·exact HKP.out.own HRS.out fun j e=>by injection e with e;subst e;exact HRK.out
      exact kps_bel HB.out.drew (Nat.le_refl _) HKP.out (fun j e=>by
       have:=HLT.out;rcases e with e | e | e
       ·omega
       ·omega
       have:=(HMS.out.ch.obk_ge e).1;omega)
     simp[intOf]
    have hlti:¬ (0:Int) < (j:Int):=by omega
    have hkm:k=m2:=by omega
    subst hkm;have HGC:Hid (C=(chansG RR (partsG RR (s,false)).2).1):=hid (by rw[HC.out,HTS.out,HGG2.out,HRR.out]);have HTS2:Hid ((chansG RR (partsG RR (s,false)).2).2=t):=hid (by rw[HTS.out,HGG2.out,HRR.out]);obtain⟨GC,hGC⟩:∃ X,X=C:=⟨_,rfl⟩;rw[← hGC] at HGC;have HC:=hid hGC.symm;clear hGC;clear HMX;obtain⟨⟨zc3,u3⟩,e3⟩:∃ q,q=intR 0 3 t:=⟨_,rfl⟩;have HCN:=hid fun V (h:RfR bb g t V)=>rint_any h 0 3;rw[← e3] at HCN;have hzc:0≤zc3∧zc3≤3:=by have:=intR_bd (lo:=0) (hi:=3) (by omega) (by omega) t;rw[← e3] at this;exact this
    have HMX:=hid (cntG_le 3 zc3);have HGG3:Hid (tabsG RR t=rowG (tabG RR) (cntG 3 zc3) u3):=hid (by
     unfold tabsG;simp only[show RR.int=intR from rfl,← e3])
    have hzm:zc3=(cntG 3 zc3:Int):=by unfold cntG;omega
    generalize cntG 3 zc3=m3 at HGG3 HMX hzm;subst hzm;clear hzc e3;go_wp2_with (go_at_call 46;refine(HCN.out _ HQR.out).mono ?_;rintro e w4⟨rfl,q4⟩);have HMS0:=hid (HMS.out.kpo HRR2.out (KpS.gb q4.gb (.inl rfl)) (by decide));have HL0:Hid (n3=0):=hid (by have h:=HMS.out.ln;rw[HT.out] at h;exact h.2.2.symm);have HRS0:=hid (q4.own HQR.out HRS.out (by decide));have HB0:=hid (gbr_bel HB.out (Nat.le_refl _) q4 (by have:=HLT.out;omega));have HQ0:=hid q4.r;clear HMS HRS HB HE HRR HNK HSZ HRR2 HQR q4 HCN;go_loopw [10,11,12,13] (fun v _ _ _ wr=>∃(k j:Nat) (x:Cf),k+j=m3∧v=.int .i64 j∧ModS bb gc x wr∧x.P.map coreK=GP∧x.C=GC∧x.T.map NdT.l=(rowG (tabG RR) k u3).1∧x.n3=k∧RfR bb g (rowG (tabG RR) k u3).2 wr∧OwnV 26 3 wr w.heap.size (some ⟨g2,0,none⟩) 1 1 [.slice none 0 0,.slice none 0 0,.slice none 0 0]∧Below w.heap.size w wr) (fun v _ _ _ _=>(intOf v).toNat)
    case atStart=>exact⟨0,m3,⟨A1,A2,A3,n1,n2,n3,c1,c2,c3,P,C,T⟩,by omega,rfl,HMS0.out,HP.out,HC.out,by rw[HT.out];rfl,HL0.out,HQ0.out,HRS0.out,HB0.out⟩
    obtain⟨k,j,⟨A1,A2,A3,n1,n2,n3,c1,c2,c3,P,C,T⟩,hk,rfl,hms,hP,hC,hT,hnk,hqr,hrs,hbb⟩:=hrel;have HE:Hid (rowG (tabG RR) (k+1) u3=((rowG (tabG RR) k u3).1++[(tabG RR (rowG (tabG RR) k u3).2).1],(tabG RR (rowG (tabG RR) k u3).2).2)):=hid rfl;obtain⟨⟨l,t⟩,hr⟩:∃ r,r=rowG (tabG RR) k u3:=⟨_,rfl⟩;rw[← hr] at hqr HE hT;have HRR:=hid hr.symm;dsimp only at hP hC hT hnk hqr HE;have HP:=hid hP;have HC:=hid hC;have HT:=hid hT;have HNK:=hid hnk;have HQR:=hid hqr;have HMS:=hid hms;have HRS:=hid hrs;have HB:=hid hbb;have hm3:=HMX.out;have HSZ:Hid (bb≤wr.drew.heap.size):=hid hqr.ge;obtain⟨vr,hrr,_⟩:=hqr;have HRR2:=hid hrr;clear hr hP hC hT hnk hrr hms hrs hbb;by_cases hlt:0 < j
    ·obtain⟨j,rfl⟩:∃ i,j=i+1:=⟨j - 1,by omega⟩;have hlti:(0:Int) < ((j+1:Nat):Int):=by omega
     obtain⟨⟨zm,v0⟩,em⟩:∃ q,q=intR 0 128 t:=⟨_,rfl⟩;have HCM:=hid fun V (h:RfR bb g t V)=>rint_any h 0 128;rw[← em] at HCM;have hzc:0≤zm∧zm≤128:=by have:=intR_bd (lo:=0) (hi:=128) (by omega) (by omega) t;rw[← em] at this;exact this
     have HMT:=hid (cntG_le 128 zm);have HTB:Hid (tabG RR t=rowG (nodeG RR) (cntG 128 zm) v0):=hid (by
      unfold tabG;simp only[show RR.int=intR from rfl,← em])
     have hzm:zm=(cntG 128 zm:Int):=by unfold cntG;omega
     generalize cntG 128 zm=mt at HMT HTB hzm;subst hzm;clear hzc em;have HW3:=hid (Nat.le_refl wr.heap.size);obtain⟨W3,hW3⟩:∃ W,W=wr:=⟨_,rfl⟩;have HQ3:Hid (RfR bb g t W3):=hid (by rw[hW3];exact HQR.out);have HMS3:Hid (ModS bb gc ⟨A1,A2,A3,n1,n2,n3,c1,c2,c3,P,C,T⟩ W3):=hid (by rw[hW3];exact HMS.out);have HR3:Hid (OwnV 96 2 W3 bb (some ⟨g,0,none⟩) 1 1 [vr,.bool t.2]):=hid (by rw[hW3];exact HRR2.out);have HRS3:Hid (OwnV 26 3 W3 w.heap.size (some ⟨g2,0,none⟩) 1 1 [.slice none 0 0,.slice none 0 0,.slice none 0 0]):=hid (by rw[hW3];exact HRS.out);have HB3:Hid (Below w.heap.size w W3):=hid (by rw[hW3];exact HB.out);go_wp2_with (go_at_call 46;refine(HCM.out _ HQR.out).mono ?_;rintro e w4⟨rfl,q4⟩);have HK4:Hid (KpS (fun j=>j=g∨W3.heap.size≤j) W3 w4):=hid (by rw[hW3];exact KpS.gb q4.gb (.inl rfl));have HQ4:=hid q4.r;clear q4 hW3 HCM HQR HMS HRR2 HRS HB HW3;go_loopw [11,12,13] (fun o v _ wx=>∃(k2 j2 ca:Nat) (Aa:Option Addr),k2+j2=mt∧v=.int .i64 j2∧o=.slice Aa k2 ca∧OwnV 70 3 wx W3.heap.size Aa k2 ca (ns (rowG (nodeG RR) k2 v0).1)∧RfR bb g (rowG (nodeG RR) k2 v0).2 wx∧KpS (fun j=>j=g∨W3.heap.size≤j) W3 wx) (fun _ v _ _=>(intOf v).toNat)
     case atStart=>exact⟨0,mt,0,none,by omega,rfl,rfl,OwnV.nil _ _ _ _,HQ4.out,HK4.out⟩
     obtain⟨k2,j2,ca,Aa,hk2,rfl,rfl,hoa,hq,hkp⟩:=hrel;obtain⟨⟨la,ta⟩,hr⟩:∃ r,r=rowG (nodeG RR) k2 v0:=⟨_,rfl⟩;obtain⟨⟨z1,t1⟩,e1⟩:∃ q,q=intR 0 4 ta:=⟨_,rfl⟩;obtain⟨⟨z2,t2⟩,e2⟩:∃ q,q=intR 0 6 t1:=⟨_,rfl⟩;obtain⟨⟨z3,t3⟩,e3⟩:∃ q,q=numR t2:=⟨_,rfl⟩;have HEA:Hid (rowG (nodeG RR) (k2+1) v0=(la++[⟨z1,z2,z3⟩],t3)):=hid (by
      rw[rowG_succ,← hr];unfold nodeG;simp only[show RR.int=intR from rfl,show RR.num=numR from rfl,← e1,← e2,← e3])
     have HC1:=hid fun V (h:RfR bb g ta V)=>rint_any h 0 4;have HC2:=hid fun V (h:RfR bb g t1 V)=>rint_any h 0 6;have HC3:=hid fun V (h:RfR bb g t2 V)=>rnum_any h;rw[← e1] at HC1;rw[← e2] at HC2;rw[← e3] at HC3;have hla:la.length=k2:=by have h:(rowG (nodeG RR) k2 v0).1.length=k2:=rowG_len _ _ _;rw[← hr] at h;exact h
     rw[← hr] at hoa hq;have HRA:=hid hr.symm;dsimp only at hoa hq;have HQA:=hid hq;have HOA:=hid hoa;have HKA:=hid hkp;have HLA:=hid hla;have hmt:=HMT.out;clear hr hoa hq hkp e1 e2 e3 hla HQ4 HK4;by_cases hlt2:0 < j2
     ·obtain⟨j2,rfl⟩:∃ i,j2=i+1:=⟨j2 - 1,by omega⟩;have hlti2:(0:Int) < ((j2+1:Nat):Int):=by omega
      go_upto_region 24 with (go_at_call 46;refine(HC1.out _ HQA.out).mono ?_;rintro e w1⟨rfl,q1⟩);have hb5:=bl1 w1 (.cells #[.int .i64 z1,.int .i64 0,.int .i64 0] 70);have hr5:=ownV_lit w1 70 3 w1.heap.size #[.int .i64 z1,.int .i64 0,.int .i64 0] 1 rfl (Nat.le_refl _) (by unfold maxLen;omega);have HQ:=hid (q1.r.bel hb5);have HOA2:=hid (OwnV.below (q1.own HQA.out HOA.out (by decide)) rfl hb5);have hsz:W3.heap.size≤w1.heap.size:=Nat.le_trans HKA.out.size q1.gb.size;have HG:=hid ((HKA.out.trans (KpS.gb q1.gb (.inl rfl))).trans (KpS.bel hb5));have HAN:Hid (∀ q,obk Aa=some q→q≠w1.heap.size):=hid fun q e=>by have:=((q1.own HQA.out HOA.out (by decide)).obk_ge e).2;omega
      generalize w1.alloc (.cells #[.int .i64 z1,.int .i64 0,.int .i64 0] 70)=wx at hr5 HQ HOA2 HG ⊢;obtain⟨g5,hg5⟩:∃ g,g=w1.heap.size:=⟨_,rfl⟩;rw[← hg5] at hr5 hsz HAN ⊢;have HLT5:Hid (W3.heap.size≤g5):=hid hsz;have HR:=hid (hr5.weak (B':=bb) (Nat.le_trans HQ3.out.ge hsz));clear hb5 hr5 q1 hsz hg5 HOA HKA HQA HC1;go_upto_region 25 with (go_at_call 46;refine(HC2.out _ HQ.out).mono ?_;rintro e w1⟨rfl,q1⟩;have r1:=q1.own HQ.out HR.out (by decide);have HQP:=HQ;obtain⟨c1,f1⟩:=rowf r1 1 _ rfl);have HG:=hid ((HG.out.trans (KpS.gb q1.gb (.inl rfl))).trans (KpS.set (.inr HLT5.out) 1 (.int .i64 z2)));have HQ:=hid (q1.r.set r1 (by decide) (Nat.le_refl bb) 1 (.int .i64 z2));have HOA2:=hid ((q1.own HQP.out HOA2.out (by decide)).other ⟨g5,1,none⟩ (.int .i64 z2) (fun j e=>HAN.out j (by rw[e];rfl)));have HR:=hid (r1.set 1 (.int .i64 z2) (by simp));simp only[List.set_cons_succ,List.set_cons_zero] at HR;clear q1 r1 c1 f1 HQP;generalize w1.setCell ⟨g5,1,none⟩ (.int .i64 z2)=wx at HQ HR HG HOA2 ⊢;go_upto_region 26 with (go_at_call 49;refine(HC3.out _ HQ.out).mono ?_;rintro e w1⟨rfl,q1⟩;have r1:=q1.own HQ.out HR.out (by decide);have HQP:=HQ;obtain⟨c1,f1⟩:=rowf r1 2 _ rfl);have HG:=hid ((HG.out.trans (KpS.gb q1.gb (.inl rfl))).trans (KpS.set (.inr HLT5.out) 2 (.int .i64 z3)));have HQ:=hid (q1.r.set r1 (by decide) (Nat.le_refl bb) 2 (.int .i64 z3));have HOA2:=hid ((q1.own HQP.out HOA2.out (by decide)).other ⟨g5,2,none⟩ (.int .i64 z3) (fun j e=>HAN.out j (by rw[e];rfl)));have HR:=hid (r1.set 2 (.int .i64 z3) (by simp));simp only[List.set_cons_succ,List.set_cons_zero] at HR;clear q1 r1 c1 f1 HQP;generalize w1.setCell ⟨g5,2,none⟩ (.int .i64 z3)=wx at HQ HR HG HOA2 ⊢;have hb6:=bl1 wx (.cells #[.int .i64 z1,.int .i64 z2,.int .i64 z3] 70);have ho6:=OwnV.below HOA2.out rfl hb6;have hl6:=ownV_lit wx 70 3 wx.heap.size #[.int .i64 z1,.int .i64 z2,.int .i64 z3] 1 rfl (Nat.le_refl _) (by unfold maxLen;omega);have hs6:W3.heap.size≤(wx.alloc (.cells #[.int .i64 z1,.int .i64 z2,.int .i64 z3] 70)).heap.size:=Nat.le_trans HG.out.size hb6.size;obtain⟨hc0,_⟩:=rowf HR.out 0 _ rfl;obtain⟨hc1,_⟩:=rowf HR.out 1 _ rfl;obtain⟨hc2,_⟩:=rowf HR.out 2 _ rfl;go_wp2_with (at_builtin;refine wpList_appX elN rfl (.tmp 83) (.tmp 85) rfl rfl W3.heap.size Aa k2 ca _ rfl ho6 ⟨wx.heap.size,0,none⟩ 1 1 _ _ rfl hl6.rd rfl Nat.one_pos (ns_one [⟨z1,z2,z3⟩]) (by omega) (by unfold maxLen;omega) hs6 (k2+1) rfl _ rfl ?_;intro A7 c7 w7 ho7 hb7 hg7);go_roundw
      case rel =>
       refine⟨k2+1,j2,c7,A7,by omega,rfl,rfl,by rw[HEA.out,ns_append];exact ho7,?_,?_⟩
       ·rw[HEA.out];have hq:=HQ.out.bel hb6;exact hq.on (S:=fun j=>obk Aa=some j) (KpS.grew hg7 fun j hj=>hj) (fun e=>by
         obtain⟨vv,hv,_⟩:=hq;exact ho6.ne hv (by decide) g e rfl) (fun j e=>Nat.le_trans HQ3.out.ge (ho6.obk_ge e).1)
       exact(HG.out.trans (KpS.bel hb6)).trans (KpS.grew hg7 fun j hj=>.inr (ho6.obk_ge hj).1)
      simp[intOf]
     have hlti2:¬ (0:Int) < (j2:Int):=by omega
     have hkm2:k2=mt:=by omega
     subst hkm2;have HTA:Hid (tabG RR t=(la,ta)):=hid (by rw[HTB.out,HRA.out]);have HNI:Hid (∀ z∈la,NdIn z):=hid (by
      have h:(rowG (nodeG RR) k2 v0).1=la:=by rw[HRA.out]
      rw[← h];exact nodes_inR)
     have HMSA:=hid (HMS3.out.kpo HR3.out HKA.out (by decide));have HBA:=hid (kps_bel HB3.out (Nat.le_refl _) HKA.out (fun j e=>by have:=HLT.out;have:=HB3.out.size;rcases e with e | e <;> omega));have HRSA:=hid (HKA.out.own HRS3.out fun j e=>by have e:g2=j:=Option.some.inj e;subst e;have:=HLT.out;have:=(HRS3.out.obk_ge (b:=g2) rfl).2;rintro (e2 | e2) <;> omega);have hb6:=bl1 wr (.cells #[.slice Aa k2 ca] 64);have ho6:=OwnV.below HMSA.out.tb rfl hb6;have hl6:=ownV_lit wr 64 1 wr.heap.size #[.slice Aa k2 ca] 1 rfl (Nat.le_refl _) (by unfold maxLen;omega);have hs6:bb≤(wr.alloc (.cells #[.slice Aa k2 ca] 64)).heap.size:=Nat.le_trans HQA.out.ge hb6.size;have m2:=(rowf HMSA.out.cf 2 _ rfl).1;have HNX:Hid (∀(A7:Option Addr) (w7:World),Grew A3 A7 (wr.alloc (.cells #[.slice Aa k2 ca] 64)) w7→OwnV 26 3 w7 bb (some ⟨gc,0,none⟩) 1 1 [.slice A1 n1 c1,.slice A2 n2 c2,.slice A3 n3 c3]):=hid fun A7 w7 hg=>OwnV.grew (OwnV.below HMSA.out.cf rfl hb6) ho6 (by decide) hg;have hn3k:n3≤3:=by have:=HNK.out;have:=HMX.out;omega
     go_wp2_with (at_builtin;go_loud (refine wpList_appX elNN rfl (.tmp 88) (.tmp 90) rfl rfl bb A3 n3 c3 _ rfl ho6 ⟨wr.heap.size,0,none⟩ 1 1 _ _ rfl hl6.rd rfl Nat.one_pos (i_tcn ⟨Aa,k2,ca,la⟩) (by omega) (by unfold maxLen;omega) hs6 (n3+1) rfl _ rfl ?_);intro A7 c7 w7 ho7 hb7 hg7;obtain⟨s2,s3⟩:=rowf (HNX.out A7 w7 hg7) 2 _ rfl);have hn3:=HNK.out;have hcf:=HNX.out A7 w7 hg7;have KK:KpS (fun q=>q=g∨q=gc∨obk A3=some q) wr (w7.setCell ⟨gc,2,none⟩ (.slice A7 (n3+1:Nat) c7)):=((KpS.bel hb6).trans (KpS.grew hg7 fun j hj=>.inr (.inr hj))).trans (KpS.set (.inr (.inl rfl)) _ _);have KK':KpS (fun q=>q=gc∨obk A3=some q) wr (w7.setCell ⟨gc,2,none⟩ (.slice A7 (n3+1:Nat) c7)):=((KpS.bel hb6).trans (KpS.grew hg7 fun j hj=>.inr hj)).trans (KpS.set (.inl rfl) _ _);go_roundw
     case rel =>
      obtain⟨vq,hvq,_⟩:=HQA.out;have oth:∀ {E s n c:Nat} {D:Option Addr} {l:List Value},OwnV E s w7 bb D n c l→E≠26→OwnV E s (w7.setCell ⟨gc,2,none⟩ (.slice A7 (n3+1:Nat) c7)) bb D n c l:=fun q e=>OwnV.other q _ _ (q.ne' hcf e);refine⟨k+1,j,⟨A1,A2,A7,n1,n2,n3+1,c1,c2,c7,P,C,T++[⟨Aa,k2,ca,la⟩]⟩,by omega,rfl,HMSA.out.addT hvq KK (by decide) ⟨Aa,k2,ca,la⟩ ⟨HLA.out,by have:=HMT.out;omega,HNI.out⟩ (oth (OwnV.grew (OwnV.below (HOA.out.weak HQ3.out.ge) rfl hb6) ho6 (by decide) hg7) (by decide)) (oth ho7 (by decide)) (hcf.set 2 _ (by simp)) (by have:=HMX.out;omega),HP.out,HC.out,?_,?_,?_,?_,?_⟩
      ·show (T++[(⟨Aa,k2,ca,la⟩:NdT)]).map NdT.l=_;rw[HE.out,List.map_append,HT.out,HTA.out];rfl
      ·show n3+1=k+1;omega
      ·rw[HE.out,HTA.out];exact HQA.out.on KK' (fun e=>by
        rcases e with e | e
        ·exact HMSA.out.cf.ne hvq (by decide) gc rfl (by rw[← e];rfl)
        ·exact HMSA.out.tb.ne hvq (by decide) g e rfl) (fun j e=>by
        rcases e with e | e
        ·rw[e];exact(HMSA.out.cf.obk_ge (b:=gc) rfl).1
        exact(HMSA.out.tb.obk_ge e).1)
      ·exact KK.own HRSA.out fun j e=>by
        have e:g2=j:=Option.some.inj e;subst e;have:=HLT.out;rintro (e2 | e2 | e2)
        ·omega
        ·omega
        have:=(HMSA.out.tb.obk_ge e2).1;omega
      exact kps_bel HBA.out (Nat.le_refl _) KK (fun j e=>by
       have:=HLT.out;rcases e with e | e | e
       ·omega
       ·omega
       have:=(HMSA.out.tb.obk_ge e).1;omega)
     simp[intOf]
    have hlti:¬ (0:Int) < (j:Int):=by omega
    have hkm:k=m3:=by omega
    subst hkm;have HEC:Hid (confG RR (s,false)=(⟨P.map coreK,C,T.map NdT.l⟩,t)):=hid (by
     have h1:tabsG RR (chansG RR (partsG RR (s,false)).2).2=(T.map NdT.l,t):=by rw[HTS2.out,HGG3.out,HT.out,HRR.out]
     unfold confG;simp only[h1,HP.out,HGP.out,HC.out,HGC.out])
    have HYR:=hid HMS.out.rd;have HMAX:Hid (MaxX ⟨A1,A2,A3,n1,n2,n3,c1,c2,c3,P,C,T⟩):=hid fun y hy=>by
     have hy:y∈C:=hy;rw[HC.out,HGC.out,HTS.out,HGG2.out] at hy;exact maxs_inR y hy
    have HEND:=hid (img_end (y:=⟨A1,A2,A3,n1,n2,n3,c1,c2,c3,P,C,T⟩) HK.out HSS.out RR_good (by rw[HEC.out];rfl) (LenX.of HYR.out) HMAX.out (NbX.of HYR.out));rw[HEC.out] at HEND;dsimp only at HEND;have HRT:Hid (∀ V,Below wr.heap.size wr V→Calls Tryz.prog 24 #[.agg #[.slice A1 n1 c1,.slice A2 n2 c2,.slice A3 n3 c3]] V (Ans (.int .i64 (whF ⟨A1,A2,A3,n1,n2,n3,c1,c2,c3,P,C,T⟩).1) V)):=hid fun V hV=>by
     have h:=HYR.out.on hV;exact xright_any A1 A2 A3 n1 n2 n3 c1 c2 c3 P C T V h.pp h.ch h.tb (fun y hy=>(h.pt y hy).1) h.tt
    have HBY:Hid ((whF ⟨A1,A2,A3,n1,n2,n3,c1,c2,c3,P,C,T⟩).1=0→∀ V,Below wr.heap.size wr V→Calls Tryz.prog 11 #[.agg #[.slice A1 n1 c1,.slice A2 n2 c2,.slice A3 n3 c3]] V (MdA (bytesB ⟨A1,A2,A3,n1,n2,n3,c1,c2,c3,P,C,T⟩) V)):=hid fun hz V hV=>rbytes_any _ V (HYR.out.on hV) (RiX.of hz) ((RiX.of hz).sm (LenX.of HYR.out));generalize (whF ⟨A1,A2,A3,n1,n2,n3,c1,c2,c3,P,C,T⟩).1=zw at HRT HBY HEND;generalize bytesB ⟨A1,A2,A3,n1,n2,n3,c1,c2,c3,P,C,T⟩=bb2 at HBY HEND;have HNC:=hid (nilCf HRS.out HB.out (Nat.le_of_eq HG2.out.symm));clear HEC HMAX HE HMX HGG3 HTS2 HTS HGG1 HGG2 HRR HP HC HT HGP HGC HNK hm3;go_upto_region 28 with fail;cases hdn:decide (t=(([]:List UInt8),false)) with
    | false =>
     have HDN:=hid hdn;have HOK:=hid (HEND.out.2 (.inr (.inr (of_decide_eq_false hdn))));clear hdn HEND HBY HRT;refine Rgs.region (by kernel_rfl) (by kernel_rfl) (fun(opn:Nat) (vl:Value) (wv:World)=>match opn with
       | 0=>vl=.pointer (some ⟨g,0,none⟩)
       | 1=>vl=.bool false
       | 2=>vl=.bool true
       | 3=>vl=.bool true
       | 4=>vl=undef
       | 5=>vl=undef
       | 6=>vl=undef
       | 7=>vl=.bool true
       | 8=>vl=.bool true
       | 9=>vl=undef
       | 10=>vl=undef
       | 11=>vl=undef
       | 12=>vl=undef
       | 13=>vl=undef
       | 14=>vl=undef
       | 15=>vl=.bool true
       | _=>True) (fun _ _ wv=>Below wr.heap.size wr wv) (Below.refl _ _).drew (Rgs.steps_of ?_) ?_
     ·refine⟨?_,?_,?_,?_,?_,?_,?_,?_,?_,?_,?_,?_,?_,?_,?_,?_,trivial⟩<;>intro a w1 live S E D C2 h0 hk hW
      ·have e7:a.eval (.tmp 7)=.pointer (some ⟨g,0,none⟩):=E 7 rfl;exact Rgs.va (.pointer (some ⟨g,0,none⟩)) hW
      ·have d0:_=_:=D 0 rfl _ _ rfl rfl;refine Rgs.call rfl (Reg.wanted_free rfl) 50 #[.pointer (some ⟨g,0,none⟩)] (by have c:=Reg.consts a;generalize a.eval=ρ at *;simp[execOp,go_sem,c.1,c.2,d0]) ?_;refine(rdone_any (HQR.out.bel hW)).mono ?_;rintro e w5⟨rfl,rfl⟩;have hb5:=Below.refl w1.heap.size w1;exact⟨_,rfl,congrArg Value.bool HDN.out,hW,fun _ _ _ h=>h⟩
      ·have d1:_=_:=D 1 rfl _ _ rfl rfl;exact Rgs.va (.bool true) hW
      ·have d2:_=_:=D 2 rfl _ _ rfl rfl;exact Rgs.va (.bool true) hW
      ·have dg:a.eval (.tmp 96)=.bool true:=D 3 rfl _ _ rfl rfl;exact Rgs.skip rfl (Rgs.wanted_not rfl rfl dg rfl) rfl hW
      ·have dg:a.eval (.tmp 96)=.bool true:=D 3 rfl _ _ rfl rfl;exact Rgs.skip rfl (Rgs.wanted_not rfl rfl dg rfl) rfl hW
      ·have dg:a.eval (.tmp 96)=.bool true:=D 3 rfl _ _ rfl rfl;exact Rgs.skip rfl (Rgs.wanted_not rfl rfl dg rfl) rfl hW
      ·have d3:_=_:=D 3 rfl _ _ rfl rfl;have d6:_=_:=D 6 rfl _ _ rfl rfl;exact Rgs.va (.bool true) hW
      ·have d7:_=_:=D 7 rfl _ _ rfl rfl;exact Rgs.va (.bool true) hW
      ·have dg:a.eval (.tmp 101)=.bool true:=D 8 rfl _ _ rfl rfl;exact Rgs.skip rfl (Rgs.wanted_not rfl rfl dg rfl) rfl hW
      ·have dg:a.eval (.tmp 101)=.bool true:=D 8 rfl _ _ rfl rfl;exact Rgs.skip rfl (Rgs.wanted_not rfl rfl dg rfl) rfl hW
      ·have dg:a.eval (.tmp 101)=.bool true:=D 8 rfl _ _ rfl rfl;exact Rgs.skip rfl (Rgs.wanted_not rfl rfl dg rfl) rfl hW
      ·have dg:a.eval (.tmp 101)=.bool true:=D 8 rfl _ _ rfl rfl;exact Rgs.skip rfl (Rgs.wanted_not rfl rfl dg rfl) rfl hW
      ·have dg:a.eval (.tmp 101)=.bool true:=D 8 rfl _ _ rfl rfl;exact Rgs.skip rfl (Rgs.wanted_not rfl rfl dg rfl) rfl hW
      ·have dg:a.eval (.tmp 101)=.bool true:=D 8 rfl _ _ rfl rfl;exact Rgs.skip rfl (Rgs.wanted_not rfl rfl dg rfl) rfl hW
      have d8:_=_:=D 8 rfl _ _ rfl rfl;have d14:_=_:=D 14 rfl _ _ rfl rfl;exact Rgs.va (.bool true) hW
     intro a w9 live hs hd E D Hl hW;have e9:a.eval (.tmp 108)=.bool true:=by
      obtain⟨v,hv,he⟩:=D 15 _ rfl;exact(he 108 rfl).trans hv
     rw[Rgs.act_ws a _ _ hs hd E [93,94,95,96,97,98,99,100,101,102,103,104,105,106,107,108] (by kernel_rfl)];simp only[List.foldl,List.setIfInBounds_toArray,List.set_cons_succ,List.set_cons_zero,e9];have HW9:=hid hW;clear E D Hl hW e9;generalize a.eval=ρ;clear a hs hd;have hrs9:=OwnV.below HRS.out rfl HW9.out;obtain⟨⟨c0a,c0b⟩,⟨c1a,c1b⟩,⟨c2a,c2b⟩,ho,hb⟩:=nilCf hrs9 (HB.out.trans (HW9.out.mono HB.out.size)) (Nat.le_of_eq HG2.out.symm);have hbc:=builtCf w9;have HO6:=hid ho;have HB6:=hid hb;clear ho hb hrs9 HW9;go_wp2_with fail;refine bodyPost_ret (results_twoX rfl (agCf _) (szCf _) rfl HO6.out) rfl ?_;exact⟨cfN,12,rfl,HOK.out,cfN_rd _,HB6.out⟩
    | true =>
     have HDN:=hid hdn;clear hdn;by_cases hz:zw=0
     ·have HZZ:Hid ((zw != 0)=false):=hid (by rw[hz];rfl)
      replace HBY:=hid (HBY.out hz)
      replace HEND:=hid (And.intro (HEND.out.1 hz) HEND.out.2);obtain⟨sb,hsb⟩:∃ x,x=str bb2:=⟨_,rfl⟩;obtain⟨sl,hsl⟩:∃ x,x=str lb:=⟨_,rfl⟩;obtain⟨nq,hnq⟩:∃ q,(sb.toList == sl.toList)=q:=⟨_,rfl⟩;have HSB:=hid hsb;have HSL:=hid hsl;have HQQ:Hid (nq=decide (bb2=lb)):=hid (by
       rw[← hnq,hsb,hsl,str_toList,str_toList];by_cases h:bb2=lb
       ·rw[decide_eq_true h,h,beq_self_eq_true]
       rw[decide_eq_false h];exact beq_eq_false_iff_ne.2 h)
      clear hsb hsl hz;cases nq with
      | false =>
       have HNQ:=hid hnq;have HOK:=hid (HEND.out.2 (.inr (.inl (of_decide_eq_false HQQ.out.symm))));clear hnq HEND;refine Rgs.region (by kernel_rfl) (by kernel_rfl) (fun(opn:Nat) (vl:Value) (wv:World)=>match opn with
         | 0=>vl=.pointer (some ⟨g,0,none⟩)
         | 1=>vl=.bool true
         | 2=>vl=.bool false
         | 3=>vl=.bool false
         | 4=>vl=.agg #[.slice A1 n1 c1,.slice A2 n2 c2,.slice A3 n3 c3]
         | 5=>vl=.int .i64 zw
         | 6=>vl=.bool false
         | 7=>vl=.bool false
         | 8=>vl=.bool false
         | 9=>vl=.agg #[.slice A1 n1 c1,.slice A2 n2 c2,.slice A3 n3 c3]
         | 10=>∃ A' n' c',vl=.slice A' n' c'∧Rd wv wv.heap.size A' n' bb2
         | 11=>vl=.string sb
         | 12=>vl=.slice A n c
         | 13=>vl=.string sl
         | 14=>vl=.bool true
         | 15=>vl=.bool true
         | _=>True) (fun _ _ wv=>Below wr.heap.size wr wv) (Below.refl _ _).drew (Rgs.steps_of ?_) ?_
       ·refine⟨?_,?_,?_,?_,?_,?_,?_,?_,?_,?_,?_,?_,?_,?_,?_,?_,trivial⟩<;>intro a w1 live S E D C2 h0 hk hW
        ·have e7:a.eval (.tmp 7)=.pointer (some ⟨g,0,none⟩):=E 7 rfl;exact Rgs.va (.pointer (some ⟨g,0,none⟩)) hW
        ·have d0:_=_:=D 0 rfl _ _ rfl rfl;refine Rgs.call rfl (Reg.wanted_free rfl) 50 #[.pointer (some ⟨g,0,none⟩)] (by have c:=Reg.consts a;generalize a.eval=ρ at *;simp[execOp,go_sem,c.1,c.2,d0]) ?_;refine(rdone_any (HQR.out.bel hW)).mono ?_;rintro e w5⟨rfl,rfl⟩;have hb5:=Below.refl w1.heap.size w1;exact⟨_,rfl,congrArg Value.bool HDN.out,hW,(fun jq vq _ hq=>by
          revert hq
          match jq with
          | 10=>exact fun⟨A',n',c',e1,e2⟩=>⟨A',n',c',e1,(e2.below hb5).more hb5.size⟩
          | 0 | 1 | 2 | 3 | 4 | 5 | 6 | 7 | 8 | 9 | 11 | 12 | 13 | 14 | 15 | _+16=>exact fun hq=>hq)⟩
        ·have d1:_=_:=D 1 rfl _ _ rfl rfl;exact Rgs.va (.bool false) hW
        ·have d2:_=_:=D 2 rfl _ _ rfl rfl;exact Rgs.va (.bool false) hW
        ·have dg:a.eval (.tmp 96)=.bool false:=D 3 rfl _ _ rfl rfl;have e6:a.eval (.tmp 6)=.pointer (some ⟨gc,0,none⟩):=E 6 rfl;have hc0:=(rowf (OwnV.below HMS.out.cf rfl hW) 0 _ rfl).1;have hc1:=(rowf (OwnV.below HMS.out.cf rfl hW) 1 _ rfl).1;have hc2:=(rowf (OwnV.below HMS.out.cf rfl hW) 2 _ rfl).1;exact Rgs.val rfl (Reg.wanted_if rfl rfl dg rfl) (.agg #[.slice A1 n1 c1,.slice A2 n2 c2,.slice A3 n3 c3]) (by have c:=Reg.consts a;generalize a.eval=ρ at *;simp[execOp,go_sem,c.1,c.2,e6,hc0,hc1,hc2]) rfl hW
        ·have dg:a.eval (.tmp 96)=.bool false:=D 3 rfl _ _ rfl rfl;have d4:_=_:=D 4 rfl _ _ rfl rfl;refine Rgs.call rfl (Reg.wanted_if rfl rfl dg rfl) 24 #[.agg #[.slice A1 n1 c1,.slice A2 n2 c2,.slice A3 n3 c3]] (by have c:=Reg.consts a;generalize a.eval=ρ at *;simp[execOp,go_sem,c.1,c.2,d4]) ?_;refine(HRT.out w1 hW).mono ?_;rintro e w5⟨rfl,hb5⟩;exact⟨_,rfl,rfl,hW.trans (hb5.mono hW.size),(fun jq vq _ hq=>by
          revert hq
          match jq with
          | 10=>exact fun⟨A',n',c',e1,e2⟩=>⟨A',n',c',e1,(e2.below hb5).more hb5.size⟩
          | 0 | 1 | 2 | 3 | 4 | 5 | 6 | 7 | 8 | 9 | 11 | 12 | 13 | 14 | 15 | _+16=>exact fun hq=>hq)⟩
        ·have dg:a.eval (.tmp 96)=.bool false:=D 3 rfl _ _ rfl rfl;have d5:_=_:=D 5 rfl _ _ rfl rfl;have hzz:=HZZ.out;exact Rgs.val rfl (Reg.wanted_if rfl rfl dg rfl) (.bool false) (by have c:=Reg.consts a;generalize a.eval=ρ at *;simp[execOp,go_sem,c.1,c.2,d5,hzz]) rfl hW
        ·have d3:_=_:=D 3 rfl _ _ rfl rfl;have d6:_=_:=D 6 rfl _ _ rfl rfl;exact Rgs.va (.bool false) hW
        ·have d7:_=_:=D 7 rfl _ _ rfl rfl;exact Rgs.va (.bool false) hW
        ·have dg:a.eval (.tmp 101)=.bool false:=D 8 rfl _ _ rfl rfl;have e6:a.eval (.tmp 6)=.pointer (some ⟨gc,0,none⟩):=E 6 rfl;have hc0:=(rowf (OwnV.below HMS.out.cf rfl hW) 0 _ rfl).1;have hc1:=(rowf (OwnV.below HMS.out.cf rfl hW) 1 _ rfl).1;have hc2:=(rowf (OwnV.below HMS.out.cf rfl hW) 2 _ rfl).1;exact Rgs.val rfl (Reg.wanted_if rfl rfl dg rfl) (.agg #[.slice A1 n1 c1,.slice A2 n2 c2,.slice A3 n3 c3]) (by have c:=Reg.consts a;generalize a.eval=ρ at *;simp[execOp,go_sem,c.1,c.2,e6,hc0,hc1,hc2]) rfl hW
        ·have dg:a.eval (.tmp 101)=.bool false:=D 8 rfl _ _ rfl rfl;have d9:_=_:=D 9 rfl _ _ rfl rfl;refine Rgs.call rfl (Reg.wanted_if rfl rfl dg rfl) 11 #[.agg #[.slice A1 n1 c1,.slice A2 n2 c2,.slice A3 n3 c3]] (by have c:=Reg.consts a;generalize a.eval=ρ at *;simp[execOp,go_sem,c.1,c.2,d9]) ?_;refine(HBY.out w1 hW).mono ?_;rintro e w5⟨A',n',c',rfl,ho5,hb5⟩;exact⟨_,rfl,⟨_,_,_,rfl,ho5.rd⟩,hW.trans (hb5.mono hW.size),(fun jq vq _ hq=>by
          revert hq
          match jq with
          | 10=>exact fun⟨A',n',c',e1,e2⟩=>⟨A',n',c',e1,(e2.below hb5).more hb5.size⟩
          | 0 | 1 | 2 | 3 | 4 | 5 | 6 | 7 | 8 | 9 | 11 | 12 | 13 | 14 | 15 | _+16=>exact fun hq=>hq)⟩
        ·have dg:a.eval (.tmp 101)=.bool false:=D 8 rfl _ _ rfl rfl;obtain⟨A',n',c',d10,hr10⟩:=D 10 rfl _ _ rfl rfl;have hcv:=run_conv w1 _ A' n' c' bb2 hr10;rw[← HSB.out] at hcv;exact Rgs.val rfl (Reg.wanted_if rfl rfl dg rfl) (.string sb) (by have c:=Reg.consts a;generalize a.eval=ρ at *;simp[execOp,go_sem,c.1,c.2,d10,hcv]) rfl hW
        ·have dg:a.eval (.tmp 101)=.bool false:=D 8 rfl _ _ rfl rfl;have e0:a.eval (.tmp 0)=.slice A n c:=E 0 rfl;exact Rgs.val rfl (Reg.wanted_if rfl rfl dg rfl) (.slice A n c) (by have c:=Reg.consts a;generalize a.eval=ρ at *;simp[execOp,go_sem,c.1,c.2,e0]) rfl hW
        ·have dg:a.eval (.tmp 101)=.bool false:=D 8 rfl _ _ rfl rfl;have d12:_=_:=D 12 rfl _ _ rfl rfl;have hcv:=run_conv w1 _ A n c lb (HRD.out.below (HB.out.trans (hW.mono HB.out.size)));rw[← HSL.out] at hcv;exact Rgs.val rfl (Reg.wanted_if rfl rfl dg rfl) (.string sl) (by have c:=Reg.consts a;generalize a.eval=ρ at *;simp[execOp,go_sem,c.1,c.2,d12,hcv]) rfl hW
        ·have dg:a.eval (.tmp 101)=.bool false:=D 8 rfl _ _ rfl rfl;have d11:_=_:=D 11 rfl _ _ rfl rfl;have d13:_=_:=D 13 rfl _ _ rfl rfl;have hcq:=HNQ.out;exact Rgs.val rfl (Reg.wanted_if rfl rfl dg rfl) (.bool true) (by have c:=Reg.consts a;generalize a.eval=ρ at *;simp[execOp,go_sem,c.1,c.2,d11,d13,hcq]) rfl hW
        have d8:_=_:=D 8 rfl _ _ rfl rfl;have d14:_=_:=D 14 rfl _ _ rfl rfl;exact Rgs.va (.bool true) hW
       intro a w9 live hs hd E D Hl hW;have e9:a.eval (.tmp 108)=.bool true:=by
        obtain⟨v,hv,he⟩:=D 15 _ rfl;exact(he 108 rfl).trans hv
       rw[Rgs.act_ws a _ _ hs hd E [93,94,95,96,97,98,99,100,101,102,103,104,105,106,107,108] (by kernel_rfl)];simp only[List.foldl,List.setIfInBounds_toArray,List.set_cons_succ,List.set_cons_zero,e9];have HW9:=hid hW;clear E D Hl hW e9;generalize a.eval=ρ;clear a hs hd;have hrs9:=OwnV.below HRS.out rfl HW9.out;obtain⟨⟨c0a,c0b⟩,⟨c1a,c1b⟩,⟨c2a,c2b⟩,ho,hb⟩:=nilCf hrs9 (HB.out.trans (HW9.out.mono HB.out.size)) (Nat.le_of_eq HG2.out.symm);have hbc:=builtCf w9;have HO6:=hid ho;have HB6:=hid hb;clear ho hb hrs9 HW9;go_wp2_with fail;refine bodyPost_ret (results_twoX rfl (agCf _) (szCf _) rfl HO6.out) rfl ?_;exact⟨cfN,12,rfl,HOK.out,cfN_rd _,HB6.out⟩
      | true =>
       have HNQ:=hid hnq;have HOK:=hid (HEND.out.1 (of_decide_eq_true HQQ.out.symm));clear hnq HEND;refine Rgs.region (by kernel_rfl) (by kernel_rfl) (fun(opn:Nat) (vl:Value) (wv:World)=>match opn with
         | 0=>vl=.pointer (some ⟨g,0,none⟩)
         | 1=>vl=.bool true
         | 2=>vl=.bool false
         | 3=>vl=.bool false
         | 4=>vl=.agg #[.slice A1 n1 c1,.slice A2 n2 c2,.slice A3 n3 c3]
         | 5=>vl=.int .i64 zw
         | 6=>vl=.bool false
         | 7=>vl=.bool false
         | 8=>vl=.bool false
         | 9=>vl=.agg #[.slice A1 n1 c1,.slice A2 n2 c2,.slice A3 n3 c3]
         | 10=>∃ A' n' c',vl=.slice A' n' c'∧Rd wv wv.heap.size A' n' bb2
         | 11=>vl=.string sb
         | 12=>vl=.slice A n c
         | 13=>vl=.string sl
         | 14=>vl=.bool false
         | 15=>vl=.bool false
         | _=>True) (fun _ _ wv=>Below wr.heap.size wr wv) (Below.refl _ _).drew (Rgs.steps_of ?_) ?_
       ·refine⟨?_,?_,?_,?_,?_,?_,?_,?_,?_,?_,?_,?_,?_,?_,?_,?_,trivial⟩<;>intro a w1 live S E D C2 h0 hk hW
        ·have e7:a.eval (.tmp 7)=.pointer (some ⟨g,0,none⟩):=E 7 rfl;exact Rgs.va (.pointer (some ⟨g,0,none⟩)) hW
        ·have d0:_=_:=D 0 rfl _ _ rfl rfl;refine Rgs.call rfl (Reg.wanted_free rfl) 50 #[.pointer (some ⟨g,0,none⟩)] (by have c:=Reg.consts a;generalize a.eval=ρ at *;simp[execOp,go_sem,c.1,c.2,d0]) ?_;refine(rdone_any (HQR.out.bel hW)).mono ?_;rintro e w5⟨rfl,rfl⟩;have hb5:=Below.refl w1.heap.size w1;exact⟨_,rfl,congrArg Value.bool HDN.out,hW,(fun jq vq _ hq=>by
          revert hq
          match jq with
          | 10=>exact fun⟨A',n',c',e1,e2⟩=>⟨A',n',c',e1,(e2.below hb5).more hb5.size⟩
          | 0 | 1 | 2 | 3 | 4 | 5 | 6 | 7 | 8 | 9 | 11 | 12 | 13 | 14 | 15 | _+16=>exact fun hq=>hq)⟩
        ·have d1:_=_:=D 1 rfl _ _ rfl rfl;exact Rgs.va (.bool false) hW
        ·have d2:_=_:=D 2 rfl _ _ rfl rfl;exact Rgs.va (.bool false) hW
        ·have dg:a.eval (.tmp 96)=.bool false:=D 3 rfl _ _ rfl rfl;have e6:a.eval (.tmp 6)=.pointer (some ⟨gc,0,none⟩):=E 6 rfl;have hc0:=(rowf (OwnV.below HMS.out.cf rfl hW) 0 _ rfl).1;have hc1:=(rowf (OwnV.below HMS.out.cf rfl hW) 1 _ rfl).1;have hc2:=(rowf (OwnV.below HMS.out.cf rfl hW) 2 _ rfl).1;exact Rgs.val rfl (Reg.wanted_if rfl rfl dg rfl) (.agg #[.slice A1 n1 c1,.slice A2 n2 c2,.slice A3 n3 c3]) (by have c:=Reg.consts a;generalize a.eval=ρ at *;simp[execOp,go_sem,c.1,c.2,e6,hc0,hc1,hc2]) rfl hW
        ·have dg:a.eval (.tmp 96)=.bool false:=D 3 rfl _ _ rfl rfl;have d4:_=_:=D 4 rfl _ _ rfl rfl;refine Rgs.call rfl (Reg.wanted_if rfl rfl dg rfl) 24 #[.agg #[.slice A1 n1 c1,.slice A2 n2 c2,.slice A3 n3 c3]] (by have c:=Reg.consts a;generalize a.eval=ρ at *;simp[execOp,go_sem,c.1,c.2,d4]) ?_;refine(HRT.out w1 hW).mono ?_;rintro e w5⟨rfl,hb5⟩;exact⟨_,rfl,rfl,hW.trans (hb5.mono hW.size),(fun jq vq _ hq=>by
          revert hq
          match jq with
          | 10=>exact fun⟨A',n',c',e1,e2⟩=>⟨A',n',c',e1,(e2.below hb5).more hb5.size⟩
          | 0 | 1 | 2 | 3 | 4 | 5 | 6 | 7 | 8 | 9 | 11 | 12 | 13 | 14 | 15 | _+16=>exact fun hq=>hq)⟩
        ·have dg:a.eval (.tmp 96)=.bool false:=D 3 rfl _ _ rfl rfl;have d5:_=_:=D 5 rfl _ _ rfl rfl;have hzz:=HZZ.out;exact Rgs.val rfl (Reg.wanted_if rfl rfl dg rfl) (.bool false) (by have c:=Reg.consts a;generalize a.eval=ρ at *;simp[execOp,go_sem,c.1,c.2,d5,hzz]) rfl hW
        ·have d3:_=_:=D 3 rfl _ _ rfl rfl;have d6:_=_:=D 6 rfl _ _ rfl rfl;exact Rgs.va (.bool false) hW
        ·have d7:_=_:=D 7 rfl _ _ rfl rfl;exact Rgs.va (.bool false) hW
        ·have dg:a.eval (.tmp 101)=.bool false:=D 8 rfl _ _ rfl rfl;have e6:a.eval (.tmp 6)=.pointer (some ⟨gc,0,none⟩):=E 6 rfl;have hc0:=(rowf (OwnV.below HMS.out.cf rfl hW) 0 _ rfl).1;have hc1:=(rowf (OwnV.below HMS.out.cf rfl hW) 1 _ rfl).1;have hc2:=(rowf (OwnV.below HMS.out.cf rfl hW) 2 _ rfl).1;exact Rgs.val rfl (Reg.wanted_if rfl rfl dg rfl) (.agg #[.slice A1 n1 c1,.slice A2 n2 c2,.slice A3 n3 c3]) (by have c:=Reg.consts a;generalize a.eval=ρ at *;simp[execOp,go_sem,c.1,c.2,e6,hc0,hc1,hc2]) rfl hW
        ·have dg:a.eval (.tmp 101)=.bool false:=D 8 rfl _ _ rfl rfl;have d9:_=_:=D 9 rfl _ _ rfl rfl;refine Rgs.call rfl (Reg.wanted_if rfl rfl dg rfl) 11 #[.agg #[.slice A1 n1 c1,.slice A2 n2 c2,.slice A3 n3 c3]] (by have c:=Reg.consts a;generalize a.eval=ρ at *;simp[execOp,go_sem,c.1,c.2,d9]) ?_;refine(HBY.out w1 hW).mono ?_;rintro e w5⟨A',n',c',rfl,ho5,hb5⟩;exact⟨_,rfl,⟨_,_,_,rfl,ho5.rd⟩,hW.trans (hb5.mono hW.size),(fun jq vq _ hq=>by
          revert hq
          match jq with
          | 10=>exact fun⟨A',n',c',e1,e2⟩=>⟨A',n',c',e1,(e2.below hb5).more hb5.size⟩
          | 0 | 1 | 2 | 3 | 4 | 5 | 6 | 7 | 8 | 9 | 11 | 12 | 13 | 14 | 15 | _+16=>exact fun hq=>hq)⟩
        ·have dg:a.eval (.tmp 101)=.bool false:=D 8 rfl _ _ rfl rfl;obtain⟨A',n',c',d10,hr10⟩:=D 10 rfl _ _ rfl rfl;have hcv:=run_conv w1 _ A' n' c' bb2 hr10;rw[← HSB.out] at hcv;exact Rgs.val rfl (Reg.wanted_if rfl rfl dg rfl) (.string sb) (by have c:=Reg.consts a;generalize a.eval=ρ at *;simp[execOp,go_sem,c.1,c.2,d10,hcv]) rfl hW
        ·have dg:a.eval (.tmp 101)=.bool false:=D 8 rfl _ _ rfl rfl;have e0:a.eval (.tmp 0)=.slice A n c:=E 0 rfl;exact Rgs.val rfl (Reg.wanted_if rfl rfl dg rfl) (.slice A n c) (by have c:=Reg.consts a;generalize a.eval=ρ at *;simp[execOp,go_sem,c.1,c.2,e0]) rfl hW
        ·have dg:a.eval (.tmp 101)=.bool false:=D 8 rfl _ _ rfl rfl;have d12:_=_:=D 12 rfl _ _ rfl rfl;have hcv:=run_conv w1 _ A n c lb (HRD.out.below (HB.out.trans (hW.mono HB.out.size)));rw[← HSL.out] at hcv;exact Rgs.val rfl (Reg.wanted_if rfl rfl dg rfl) (.string sl) (by have c:=Reg.consts a;generalize a.eval=ρ at *;simp[execOp,go_sem,c.1,c.2,d12,hcv]) rfl hW
        ·have dg:a.eval (.tmp 101)=.bool false:=D 8 rfl _ _ rfl rfl;have d11:_=_:=D 11 rfl _ _ rfl rfl;have d13:_=_:=D 13 rfl _ _ rfl rfl;have hcq:=HNQ.out;exact Rgs.val rfl (Reg.wanted_if rfl rfl dg rfl) (.bool false) (by have c:=Reg.consts a;generalize a.eval=ρ at *;simp[execOp,go_sem,c.1,c.2,d11,d13,hcq]) rfl hW
        have d8:_=_:=D 8 rfl _ _ rfl rfl;have d14:_=_:=D 14 rfl _ _ rfl rfl;exact Rgs.va (.bool false) hW
       intro a w9 live hs hd E D Hl hW;have e9:a.eval (.tmp 108)=.bool false:=by
        obtain⟨v,hv,he⟩:=D 15 _ rfl;exact(he 108 rfl).trans hv
       rw[Rgs.act_ws a _ _ hs hd E [93,94,95,96,97,98,99,100,101,102,103,104,105,106,107,108] (by kernel_rfl)];simp only[List.foldl,List.setIfInBounds_toArray,List.set_cons_succ,List.set_cons_zero,e9];have HW9:=hid hW;clear E D Hl hW e9;generalize a.eval=ρ;clear a hs hd;have hms9:=HMS.out.keep (S:=fun _=>False) (KpS.bel HW9.out) (fun _ e=>e.elim);have HMS9:=hid hms9;have HRS9:=hid (OwnV.below HRS.out rfl HW9.out);have HB9:=hid (HB.out.trans (HW9.out.mono HB.out.size));clear hms9 HW9;go_upto_region 30 with fail;refine wp_region_lit (wpList_loadX rfl (.tmp 6) rfl rfl (agCf _) (szCf _) HMS9.out.cf (wpList_storeX (l:=[.slice A1 n1 c1,.slice A2 n2 c2,.slice A3 n3 c3]) rfl (.tmp 2) (.tmp 110) rfl rfl rfl (szCf _) HRS9.out rfl (i_cfv _ _ _) fun wz hoz hgz=>?_));go_wp2_with fail;refine bodyPost_ret (results_twoX rfl (agCf _) (szCf _) rfl hoz) rfl ?_;exact⟨⟨A1,A2,A3,n1,n2,n3,c1,c2,c3,P,C,T⟩,0,rfl,HOK.out,(HMS9.out.keep (S:=fun j=>j=g2) (KpS.gb hgz rfl) (fun j e=>by have:=HLT.out;omega)).rd,kps_bel HB9.out (Nat.le_refl _) (KpS.gb (S:=fun j=>j=g2) hgz rfl) (fun j e=>by have:=HG2.out;omega)⟩
     have HZZ:Hid ((zw != 0)=true):=hid (bne_iff_ne.2 hz);have HOK:=hid (HEND.out.2 (.inl hz));clear hz HEND HBY;refine Rgs.region (by kernel_rfl) (by kernel_rfl) (fun(opn:Nat) (vl:Value) (wv:World)=>match opn with
       | 0=>vl=.pointer (some ⟨g,0,none⟩)
       | 1=>vl=.bool true
       | 2=>vl=.bool false
       | 3=>vl=.bool false
       | 4=>vl=.agg #[.slice A1 n1 c1,.slice A2 n2 c2,.slice A3 n3 c3]
       | 5=>vl=.int .i64 zw
       | 6=>vl=.bool true
       | 7=>vl=.bool true
       | 8=>vl=.bool true
       | 9=>vl=undef
       | 10=>vl=undef
       | 11=>vl=undef
       | 12=>vl=undef
       | 13=>vl=undef
       | 14=>vl=undef
       | 15=>vl=.bool true
       | _=>True) (fun _ _ wv=>Below wr.heap.size wr wv) (Below.refl _ _).drew (Rgs.steps_of ?_) ?_
     ·refine⟨?_,?_,?_,?_,?_,?_,?_,?_,?_,?_,?_,?_,?_,?_,?_,?_,trivial⟩<;>intro a w1 live S E D C2 h0 hk hW
      ·have e7:a.eval (.tmp 7)=.pointer (some ⟨g,0,none⟩):=E 7 rfl;exact Rgs.va (.pointer (some ⟨g,0,none⟩)) hW
      ·have d0:_=_:=D 0 rfl _ _ rfl rfl;refine Rgs.call rfl (Reg.wanted_free rfl) 50 #[.pointer (some ⟨g,0,none⟩)] (by have c:=Reg.consts a;generalize a.eval=ρ at *;simp[execOp,go_sem,c.1,c.2,d0]) ?_;refine(rdone_any (HQR.out.bel hW)).mono ?_;rintro e w5⟨rfl,rfl⟩;have hb5:=Below.refl w1.heap.size w1;exact⟨_,rfl,congrArg Value.bool HDN.out,hW,fun _ _ _ h=>h⟩
      ·have d1:_=_:=D 1 rfl _ _ rfl rfl;exact Rgs.va (.bool false) hW
      ·have d2:_=_:=D 2 rfl _ _ rfl rfl;exact Rgs.va (.bool false) hW
      ·have dg:a.eval (.tmp 96)=.bool false:=D 3 rfl _ _ rfl rfl;have e6:a.eval (.tmp 6)=.pointer (some ⟨gc,0,none⟩):=E 6 rfl;have hc0:=(rowf (OwnV.below HMS.out.cf rfl hW) 0 _ rfl).1;have hc1:=(rowf (OwnV.below HMS.out.cf rfl hW) 1 _ rfl).1;have hc2:=(rowf (OwnV.below HMS.out.cf rfl hW) 2 _ rfl).1;exact Rgs.val rfl (Reg.wanted_if rfl rfl dg rfl) (.agg #[.slice A1 n1 c1,.slice A2 n2 c2,.slice A3 n3 c3]) (by have c:=Reg.consts a;generalize a.eval=ρ at *;simp[execOp,go_sem,c.1,c.2,e6,hc0,hc1,hc2]) rfl hW
      ·have dg:a.eval (.tmp 96)=.bool false:=D 3 rfl _ _ rfl rfl;have d4:_=_:=D 4 rfl _ _ rfl rfl;refine Rgs.call rfl (Reg.wanted_if rfl rfl dg rfl) 24 #[.agg #[.slice A1 n1 c1,.slice A2 n2 c2,.slice A3 n3 c3]] (by have c:=Reg.consts a;generalize a.eval=ρ at *;simp[execOp,go_sem,c.1,c.2,d4]) ?_;refine(HRT.out w1 hW).mono ?_;rintro e w5⟨rfl,hb5⟩;exact⟨_,rfl,rfl,hW.trans (hb5.mono hW.size),fun _ _ _ h=>h⟩
      ·have dg:a.eval (.tmp 96)=.bool false:=D 3 rfl _ _ rfl rfl;have d5:_=_:=D 5 rfl _ _ rfl rfl;have hzz:=HZZ.out;exact Rgs.val rfl (Reg.wanted_if rfl rfl dg rfl) (.bool true) (by have c:=Reg.consts a;generalize a.eval=ρ at *;simp[execOp,go_sem,c.1,c.2,d5,hzz]) rfl hW
      ·have d3:_=_:=D 3 rfl _ _ rfl rfl;have d6:_=_:=D 6 rfl _ _ rfl rfl;exact Rgs.va (.bool true) hW
      ·have d7:_=_:=D 7 rfl _ _ rfl rfl;exact Rgs.va (.bool true) hW
      ·have dg:a.eval (.tmp 101)=.bool true:=D 8 rfl _ _ rfl rfl;exact Rgs.skip rfl (Rgs.wanted_not rfl rfl dg rfl) rfl hW
      ·have dg:a.eval (.tmp 101)=.bool true:=D 8 rfl _ _ rfl rfl;exact Rgs.skip rfl (Rgs.wanted_not rfl rfl dg rfl) rfl hW
      ·have dg:a.eval (.tmp 101)=.bool true:=D 8 rfl _ _ rfl rfl;exact Rgs.skip rfl (Rgs.wanted_not rfl rfl dg rfl) rfl hW
      ·have dg:a.eval (.tmp 101)=.bool true:=D 8 rfl _ _ rfl rfl;exact Rgs.skip rfl (Rgs.wanted_not rfl rfl dg rfl) rfl hW
      ·have dg:a.eval (.tmp 101)=.bool true:=D 8 rfl _ _ rfl rfl;exact Rgs.skip rfl (Rgs.wanted_not rfl rfl dg rfl) rfl hW
      ·have dg:a.eval (.tmp 101)=.bool true:=D 8 rfl _ _ rfl rfl;exact Rgs.skip rfl (Rgs.wanted_not rfl rfl dg rfl) rfl hW
      have d8:_=_:=D 8 rfl _ _ rfl rfl;have d14:_=_:=D 14 rfl _ _ rfl rfl;exact Rgs.va (.bool true) hW
     intro a w9 live hs hd E D Hl hW;have e9:a.eval (.tmp 108)=.bool true:=by
      obtain⟨v,hv,he⟩:=D 15 _ rfl;exact(he 108 rfl).trans hv
     rw[Rgs.act_ws a _ _ hs hd E [93,94,95,96,97,98,99,100,101,102,103,104,105,106,107,108] (by kernel_rfl)];simp only[List.foldl,List.setIfInBounds_toArray,List.set_cons_succ,List.set_cons_zero,e9];have HW9:=hid hW;clear E D Hl hW e9;generalize a.eval=ρ;clear a hs hd;have hrs9:=OwnV.below HRS.out rfl HW9.out;obtain⟨⟨c0a,c0b⟩,⟨c1a,c1b⟩,⟨c2a,c2b⟩,ho,hb⟩:=nilCf hrs9 (HB.out.trans (HW9.out.mono HB.out.size)) (Nat.le_of_eq HG2.out.symm);have hbc:=builtCf w9;have HO6:=hid ho;have HB6:=hid hb;clear ho hb hrs9 HW9;go_wp2_with fail;refine bodyPost_ret (results_twoX rfl (agCf _) (szCf _) rfl HO6.out) rfl ?_;exact⟨cfN,12,rfl,HOK.out,cfN_rd _,HB6.out⟩
theorem reads14_any(A:Option Addr)(n c:Nat)(l:List UInt8)(w:World)(h:Rd w w.heap.size A n l)(hn:n≤140737488351240)(hc:n≤c):Calls Tryz.prog 12 #[.slice A n c] w (Ans (.bool true) w):=by
 have HRD:=hid h;clear h;go_enter Tryz.func12,Tryz.ntmps12;go_upto_region 2 with (go_at_call 18;refine((iread_any A n c l w HRD.out hn hc).mono fun _ _ h=>h.out).mono ?_;rintro e w1⟨A1,A2,A3,n1,n2,n3,c1,c2,c3,P,C,T,z,rfl,hok,hcf,hb⟩);have hb3:=bl1 w1 (.cells #[.slice A1 n1 c1,.slice A2 n2 c2,.slice A3 n3 c3] 26);have HX1:=hid (box_vec w1 (.slice A1 n1 c1) (.slice A2 n2 c2) (.slice A3 n3 c3) 26);have HB1:=hid (hb.trans (hb3.mono hb.size));have HC1:=hid (hcf.on hb3);have HK1:=hid hok;generalize w1.alloc (.cells #[.slice A1 n1 c1,.slice A2 n2 c2,.slice A3 n3 c3] 26)=W1 at HX1 HB1 HC1 ⊢;generalize w1.heap.size=g1 at HX1 ⊢;clear hb3 hb hok hcf w1;go_upto_region 3 with (go_at_call 28;refine((rread_any A n c l W1 ((HRD.out.below HB1.out).more HB1.out.size) hn hc).mono fun _ _ h=>h.out).mono ?_;rintro e w2⟨D1,D2,D3,m1,m2,m3,d1,d2,d3,Q,F,G,z2,rfl,hok,hcf,hb⟩;obtain⟨rfl,hsm⟩:=HK1.out.same hok);have hb3:=bl1 w2 (.cells #[.slice D1 m1 d1,.slice D2 m2 d2,.slice D3 m3 d3] 26);have HX2:=hid (box_vec w2 (.slice D1 m1 d1) (.slice D2 m2 d2) (.slice D3 m3 d3) 26);have HB2:=hid (hb.trans (hb3.mono hb.size));have HC2:=hid (hcf.on hb3);have HSS:=hid hsm;generalize w2.alloc (.cells #[.slice D1 m1 d1,.slice D2 m2 d2,.slice D3 m3 d3] 26)=W2 at HX2 HB2 HC2 ⊢;generalize w2.heap.size=g2 at HX2 ⊢;clear hb3 hb hok hcf hsm HK1 w2;have HSM:Hid (Calls Tryz.prog 19 #[.agg #[.slice A1 n1 c1,.slice A2 n2 c2,.slice A3 n3 c3],.agg #[.slice D1 m1 d1,.slice D2 m2 d2,.slice D3 m3 d3]] W2 (Ans (.bool true) W2)):=hid (by
  have h:=(HC1.out.on HB2.out).rsame HC2.out;rw[sameF_yes HSS.out] at h;exact h)
 obtain⟨f0,f1,f2⟩:=(HX1.out.on HB2.out).three;obtain⟨h0,h1,h2⟩:=HX2.out.three;have HB:=hid (HB1.out.trans (HB2.out.mono HB1.out.size));clear HX1 HX2 HC1 HC2 HSS HB1 HB2;go_wp2_with (go_at_call 19;refine HSM.out.mono ?_;rintro e w3⟨rfl,hb3⟩);go_ret;exact Ans.mk rfl (HB.out.trans (hb3.mono HB.out.size))
theorem same14_any(x:Cf)(w:World)(hx:CfR w x):Calls Tryz.prog 9 #[cfv x] w (Ans (.bool true) w):=by
 have hb0:=bl1 w (.cells #[.slice x.A1 x.n1 x.c1,.slice x.A2 x.n2 x.c2,.slice x.A3 x.n3 x.c3] 26);have HBX:=hid (box_vec w (.slice x.A1 x.n1 x.c1) (.slice x.A2 x.n2 x.c2) (.slice x.A3 x.n3 x.c3) 26);have HC:=hid fun V (hv:Below w.heap.size w V)=>ibytes_any x V (hx.on hv);have HS:=hid fun V (hv:Below w.heap.size w V)=>isize_any x V (hx.on hv);have HR:Hid (∀ V,Below w.heap.size w V→Calls Tryz.prog 24 #[cfv x] V (Ans (.int .i64 (whF x).1) V)):=hid fun V hv=>by
  have h:=hx.on hv;exact xright_any x.A1 x.A2 x.A3 x.n1 x.n2 x.n3 x.c1 x.c2 x.c3 x.P x.C x.T V h.pp h.ch h.tb (fun y hy=>(h.pt y hy).1) h.tt
 have HRB:Hid ((whF x).1=0→∀ V,Below w.heap.size w V→Calls Tryz.prog 11 #[cfv x] V (MdA (imB x) V)):=hid fun hz V hv=>by
  have h:=rbytes_any x V (hx.on hv) (RiX.of hz) ((RiX.of hz).sm (LenX.of hx));unfold imB;rw[if_pos hz];exact h
 have HFW:Hid ((imB x).length≤100004):=hid (by
  unfold imB;by_cases hz:(whF x).1=0
  ·rw[if_pos hz,bytesB_E (LenX.of hx),Crc.seal4_length];have:=bytesB_few (RiX.of hz) (LenX.of hx) (NbX.of hx);omega
  rw[if_neg hz];exact Nat.zero_le _)
 have HNO:Hid ((whF x).1≠0→imB x=[]):=hid fun hz=>by unfold imB;rw[if_neg hz]
 have HB0:=hid hb0;clear hx hb0;go_enter Tryz.func9,Tryz.ntmps9;generalize imB x=la at HC HS HRB HFW HNO;generalize (whF x).1=z at HC HR HRB HNO;obtain⟨A1,A2,A3,n1,n2,n3,c1,c2,c3,P,C,T⟩:=x;dsimp only[cfv] at HC HS HR HRB HB0 HBX ⊢;go_upto_region 1 with fail;generalize w.alloc (.cells #[.slice A1 n1 c1,.slice A2 n2 c2,.slice A3 n3 c3] 26)=W0 at HB0 HBX ⊢;obtain⟨gb,hgb⟩:∃ g,g=w.heap.size:=⟨_,rfl⟩;have HBX:Hid (Vec W0 gb 3 fun j=>if j=0 then Value.slice A1 n1 c1 else if j=1 then Value.slice A2 n2 c2 else Value.slice A3 n3 c3):=hid (by rw[hgb];exact HBX.out);rw[← hgb];clear hgb;obtain⟨f0,f1,f2⟩:=HBX.out.three;go_upto_region 2 with (go_at_call 17;refine(HC.out W0 HB0.out).mono ?_;rintro e w1⟨EA,p,q,rfl,ho,hb⟩);have hb1:=HB0.out.trans (hb.mono HB0.out.size);obtain⟨j0,j1,j2⟩:=(HBX.out.on hb).three;have hln:=ho.len;rw[hln] at HS HFW;clear f0 f1 f2;go_upto_region 3 with (go_at_call 24;refine(HR.out w1 hb1).mono ?_;rintro e W2⟨rfl,hb2⟩);have HB2:=hid (hb1.trans (hb2.mono hb1.size));have HO:=hid (ho.below rfl hb2);have HLN:=hid hln;obtain⟨f0,f1,f2⟩:=(HBX.out.on (hb.trans (hb2.mono hb.size))).three;clear j0 j1 j2 ho hb hb1 hb2 hln HBX HC HR HB0;by_cases hz:z=0
 ·subst hz;have HRB:=hid (HRB.out rfl);go_upto_region 7 with fail;obtain⟨sa,hsa⟩:∃ sa,str la=sa:=⟨_,rfl⟩;have HSA:=hid hsa;have HHR:=hid HO.out.rd;have HHC:=hid HO.out.cap;clear hsa HNO HLN HO;refine Rgs.region (by kernel_rfl) (by kernel_rfl) (fun(opn:Nat) (vl:Value) (wv:World)=>match opn with
    | 0=>vl=.slice EA p q
    | 1=>vl=.string sa
    | 2=>vl=.agg #[.slice A1 n1 c1,.slice A2 n2 c2,.slice A3 n3 c3]
    | 3=>∃ A' n' c',vl=.slice A' n' c'∧Rd wv wv.heap.size A' n' la
    | 4=>vl=.string sa
    | 5=>vl=.bool true
    | 6=>vl=.bool true
    | 7=>vl=.agg #[.slice A1 n1 c1,.slice A2 n2 c2,.slice A3 n3 c3]
    | 8=>vl=.int .i64 (p:Int)
    | 9=>vl=.slice EA p q
    | 10=>vl=.int .i64 (p:Int)
    | 11=>vl=.bool true
    | 12=>vl=.bool true
    | 13=>vl=.bool true
    | 14=>vl=.slice EA p q
    | 15=>vl=.bool true
    | 16=>vl=.bool true
    | 17=>vl=.bool true
    | _=>True) (fun _ _ wv=>Below W2.heap.size W2 wv) (Below.refl _ _).drew (Rgs.steps_of ?_) ?_
  ·refine⟨?_,?_,?_,?_,?_,?_,?_,?_,?_,?_,?_,?_,?_,?_,?_,?_,?_,?_,trivial⟩<;>intro a w1 live S E D C2 h0 hk hW
   ·have e3:a.eval (.tmp 3)=.slice EA p q:=E 3 rfl;exact Rgs.va (.slice EA p q) hW
   ·have d0:_=_:=D 0 rfl _ _ rfl rfl;have hcv:=run_conv w1 _ EA p q la (HHR.out.below hW);rw[HSA.out] at hcv;exact Rgs.va (.string sa) hW
   ·have e1:a.eval (.tmp 1)=.pointer (some ⟨gb,0,none⟩):=E 1 rfl;have hc0:=(hW.cell (p:=⟨gb,0,none⟩) (World.block_lt_of_cell? _ _ f0)).trans f0;have hc1:=(hW.cell (p:=⟨gb,1,none⟩) (World.block_lt_of_cell? _ _ f1)).trans f1;have hc2:=(hW.cell (p:=⟨gb,2,none⟩) (World.block_lt_of_cell? _ _ f2)).trans f2;exact Rgs.va (.agg #[.slice A1 n1 c1,.slice A2 n2 c2,.slice A3 n3 c3]) hW
   ·have d2:_=_:=D 2 rfl _ _ rfl rfl;refine Rgs.call rfl (Reg.wanted_free rfl) 11 #[.agg #[.slice A1 n1 c1,.slice A2 n2 c2,.slice A3 n3 c3]] (by have c:=Reg.consts a;generalize a.eval=ρ at *;simp[execOp,go_sem,c.1,c.2,d2]) ?_;refine(HRB.out w1 (HB2.out.trans (hW.mono HB2.out.size))).mono ?_;rintro e w5⟨A',n',c',rfl,ho5,hb5⟩;exact⟨_,rfl,⟨_,_,_,rfl,ho5.rd⟩,hW.trans (hb5.mono hW.size),(fun jq vq _ hq=>by
     revert hq
     match jq with
     | 3=>exact fun⟨A',n',c',e1,e2⟩=>⟨A',n',c',e1,(e2.below hb5).more hb5.size⟩
     | 0 | 1 | 2 | 4 | 5 | 6 | 7 | 8 | 9 | 10 | 11 | 12 | 13 | 14 | 15 | 16 | 17 | _+18=>exact fun hq=>hq)⟩
   ·obtain⟨A',n',c',d3,hr3⟩:=D 3 rfl _ _ rfl rfl;have hcv:=run_conv w1 _ A' n' c' la hr3;rw[HSA.out] at hcv;exact Rgs.va (.string sa) hW
   ·have d1:_=_:=D 1 rfl _ _ rfl rfl;have d4:_=_:=D 4 rfl _ _ rfl rfl;exact Rgs.va (.bool true) hW
   ·have d5:_=_:=D 5 rfl _ _ rfl rfl;exact Rgs.va (.bool true) hW
   ·have dg:a.eval (.tmp 32)=.bool true:=D 6 rfl _ _ rfl rfl;have e1:a.eval (.tmp 1)=.pointer (some ⟨gb,0,none⟩):=E 1 rfl;have hc0:=(hW.cell (p:=⟨gb,0,none⟩) (World.block_lt_of_cell? _ _ f0)).trans f0;have hc1:=(hW.cell (p:=⟨gb,1,none⟩) (World.block_lt_of_cell? _ _ f1)).trans f1;have hc2:=(hW.cell (p:=⟨gb,2,none⟩) (World.block_lt_of_cell? _ _ f2)).trans f2;exact Rgs.val rfl (Reg.wanted_if rfl rfl dg rfl) (.agg #[.slice A1 n1 c1,.slice A2 n2 c2,.slice A3 n3 c3]) (by have c:=Reg.consts a;generalize a.eval=ρ at *;simp[execOp,go_sem,c.1,c.2,e1,hc0,hc1,hc2]) rfl hW
   ·have dg:a.eval (.tmp 32)=.bool true:=D 6 rfl _ _ rfl rfl;have d7:_=_:=D 7 rfl _ _ rfl rfl;refine Rgs.call rfl (Reg.wanted_if rfl rfl dg rfl) 20 #[.agg #[.slice A1 n1 c1,.slice A2 n2 c2,.slice A3 n3 c3]] (by have c:=Reg.consts a;generalize a.eval=ρ at *;simp[execOp,go_sem,c.1,c.2,d7]) ?_;refine(HS.out w1 (HB2.out.trans (hW.mono HB2.out.size))).mono ?_;rintro e w5⟨rfl,hb5⟩;exact⟨_,rfl,rfl,hW.trans (hb5.mono hW.size),(fun jq vq _ hq=>by
     revert hq
     match jq with
     | 3=>exact fun⟨A',n',c',e1,e2⟩=>⟨A',n',c',e1,(e2.below hb5).more hb5.size⟩
     | 0 | 1 | 2 | 4 | 5 | 6 | 7 | 8 | 9 | 10 | 11 | 12 | 13 | 14 | 15 | 16 | 17 | _+18=>exact fun hq=>hq)⟩
   ·have dg:a.eval (.tmp 32)=.bool true:=D 6 rfl _ _ rfl rfl;have e3:a.eval (.tmp 3)=.slice EA p q:=E 3 rfl;exact Rgs.val rfl (Reg.wanted_if rfl rfl dg rfl) (.slice EA p q) (by have c:=Reg.consts a;generalize a.eval=ρ at *;simp[execOp,go_sem,c.1,c.2,e3]) rfl hW
   ·have dg:a.eval (.tmp 32)=.bool true:=D 6 rfl _ _ rfl rfl;have d9:_=_:=D 9 rfl _ _ rfl rfl;exact Rgs.val rfl (Reg.wanted_if rfl rfl dg rfl) (.int .i64 (p:Int)) (by have c:=Reg.consts a;generalize a.eval=ρ at *;simp[execOp,go_sem,c.1,c.2,d9]) rfl hW
   ·have dg:a.eval (.tmp 32)=.bool true:=D 6 rfl _ _ rfl rfl;have d8:a.eval (.tmp 34)=.int .i64 (p:Int):=D 8 rfl _ _ rfl rfl;have d10:a.eval (.tmp 36)=.int .i64 (p:Int):=D 10 rfl _ _ rfl rfl;exact Rgs.val rfl (Reg.wanted_if rfl rfl dg rfl) (.bool true) (by have c:=Reg.consts a;generalize a.eval=ρ at *;simp[execOp,go_sem,c.1,c.2,d8,d10]) rfl hW
   ·have d6:_=_:=D 6 rfl _ _ rfl rfl;have d11:_=_:=D 11 rfl _ _ rfl rfl;exact Rgs.va (.bool true) hW
   ·have d12:_=_:=D 12 rfl _ _ rfl rfl;exact Rgs.va (.bool true) hW
   ·have dg:a.eval (.tmp 39)=.bool true:=D 13 rfl _ _ rfl rfl;have e3:a.eval (.tmp 3)=.slice EA p q:=E 3 rfl;exact Rgs.val rfl (Reg.wanted_if rfl rfl dg rfl) (.slice EA p q) (by have c:=Reg.consts a;generalize a.eval=ρ at *;simp[execOp,go_sem,c.1,c.2,e3]) rfl hW
   ·have dg:a.eval (.tmp 39)=.bool true:=D 13 rfl _ _ rfl rfl;have d14:_=_:=D 14 rfl _ _ rfl rfl;refine Rgs.call rfl (Reg.wanted_if rfl rfl dg rfl) 12 #[.slice EA p q] (by have c:=Reg.consts a;generalize a.eval=ρ at *;simp[execOp,go_sem,c.1,c.2,d14]) ?_;refine(reads14_any EA p q la w1 ((HHR.out.below hW).more hW.size) (by have:=HFW.out;omega) HHC.out).mono ?_;rintro e w5⟨rfl,hb5⟩;exact⟨_,rfl,rfl,hW.trans (hb5.mono hW.size),(fun jq vq _ hq=>by
     revert hq
     match jq with
     | 3=>exact fun⟨A',n',c',e1,e2⟩=>⟨A',n',c',e1,(e2.below hb5).more hb5.size⟩
     | 0 | 1 | 2 | 4 | 5 | 6 | 7 | 8 | 9 | 10 | 11 | 12 | 13 | 14 | 15 | 16 | 17 | _+18=>exact fun hq=>hq)⟩
   ·have d13:_=_:=D 13 rfl _ _ rfl rfl;have d15:_=_:=D 15 rfl _ _ rfl rfl;exact Rgs.va (.bool true) hW
   have d16:_=_:=D 16 rfl _ _ rfl rfl;exact Rgs.va (.bool true) hW
  intro a w9 live hs hd E D Hl hW;have e9:a.eval (.tmp 2)=.bool true:=by
   obtain⟨v,hv,he⟩:=D 17 _ rfl;exact(he 2 rfl).trans hv
  rw[Rgs.act_ws a _ _ hs hd E [26,27,28,29,30,31,32,33,34,35,36,37,38,39,40,41,42,2] (by kernel_rfl)];simp only[List.foldl,List.setIfInBounds_toArray,List.set_cons_succ,List.set_cons_zero,e9];have HB9:=hid (HB2.out.trans (Below.mono hW HB2.out.size));clear E D Hl hW e9 HRB HS HSA HHR HHC f0 f1 f2;generalize a.eval=ρ;clear a hs hd;go_wp2_with fail;go_ret;exact Ans.mk rfl HB9.out
 have HZ:Hid ((z != 0)=true):=hid (bne_iff_ne.2 hz);have hla:=HNO.out hz;have hp:p=0:=by rw[← HLN.out,hla];rfl
 subst hp;have hzz:=HZ.out;clear hz HNO HLN hla HRB HO;go_wp2_with (go_at_call 20;refine(HS.out W2 HB2.out).mono ?_;rintro e w3⟨rfl,hb3⟩);go_ret;exact Ans.mk rfl (HB2.out.trans (hb3.mono HB2.out.size))
end Go.Proofs.YtdkngfdnfekgfaaGreat
