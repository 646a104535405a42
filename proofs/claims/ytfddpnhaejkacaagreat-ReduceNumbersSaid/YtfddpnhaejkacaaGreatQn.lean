import Derived.Test.YtfddpnhaejkacaaGreatLow2
import Derived.Test.YtfddpnhaejkacaaGreatQk
import Derived.Test.YtfddpnhaejkacaaGreatLow7
import Derived.Deep.Cut
namespace Go.Proofs.YtfddpnhaejkacaaGreat.reduceNumbers
open Lib (hid)
open Go.ChangeShapes Go.WideShapes Go.ChangeAt Go.RowKit Tab
set_option linter.unusedSimpArgs false
set_option linter.unusedVariables false
def TblV (v:Value) (w:World):Prop:=∃(A:Option Addr) (n c:Nat) (l:List Nd),v=.slice A n c∧RdN w w.heap.size A n l∧n≤c∧n≤1048576
theorem TblV.on {v:Value} {w w':World} (h:TblV v w) (hb:Below w.heap.size w w'):TblV v w':=by
 obtain⟨A,n,c,l,e,h1,h2⟩:=h
 exact⟨A,n,c,l,e,h1.on hb,h2⟩
def TapeL (w:World) (e:Ending) (w':World):Prop:=∃(A:Option Addr) (n c:Nat) (f:Nat→Int),e=.returned (.slice A n c)∧RdC w' w'.heap.size A n (fun j=>.int .i64 (f j))∧n≤400∧Below w.heap.size w w'
theorem TapeL.mk {w w':World} {A:Option Addr} {n c B:Nat} {L:List Int} (h:OwnV 3 1 w' B A n c (is L)) (hn:n≤400) (hb:Below w.heap.size w w'):TapeL w (.returned (.slice A n c)) w':=by
 refine⟨A,n,c,fun j=>L.getD j 0,rfl,fun h0=>?_,hn,hb⟩
 have hl:=h.len
 rw[is_length] at hl
 obtain⟨ad,e,hlt,hc⟩:=h.rd (by rw[is_length];omega)
 refine⟨ad,e,hlt,fun j hj=>hc j _ ?_⟩
 have hj':j < L.length:=by omega
 simp[is,hj']
set_option maxRecDepth 100000 in
set_option maxHeartbeats 4000000 in
theorem tape11_any (k:Nat) (w:World) (hk:k≤100):Calls Tryz.prog 8 #[.int .i64 (k:Int)] w (TapeL w):=by
 go_enter Tryz.func8,Tryz.ntmps8
 go_wp2_with fail
 obtain⟨m,hm⟩:∃ m:Nat,(400:Int)=(m:Int):=⟨400,rfl⟩
 have hm1:m≤400:=by omega
 rw[hm]
 clear hm
 go_loopw [3,4] (fun q s wr=>∃(i c:Nat) (A:Option Addr) (L:List Int),i≤m∧s=.int .i64 i∧q=.slice A i c∧OwnV 3 1 wr w.heap.size A i c (is L)∧Below w.heap.size w wr) (fun _ s _=>m - (intOf s).toNat)
 case atStart=>exact⟨0,0,none,[],by omega,rfl,rfl,OwnV.nil _ _ _ _,Below.refl _ _⟩
 case round =>
  obtain⟨i,c,A,L,hi,rfl,rfl,hw,hb⟩:=hrel
  by_cases hlt:i < m
  ·have hi4:i≤400:=by omega
   have h1:i*i≤400*400:=Nat.mul_le_mul hi4 hi4
   have h2:i*k≤400*100:=Nat.mul_le_mul hi4 hk
   have p1:0≤(i:Int)*(i:Int):=by rw[← Int.natCast_mul];omega
   have p2:(i:Int)*(i:Int)≤160000:=by rw[← Int.natCast_mul];omega
   have p3:0≤(i:Int)*(k:Int):=by rw[← Int.natCast_mul];omega
   have p4:(i:Int)*(k:Int)≤40000:=by rw[← Int.natCast_mul];omega
   clear h1 h2
   generalize hP:(i:Int)*(i:Int)=P at p1 p2
   generalize hQ:(i:Int)*(k:Int)=Q at p3 p4
   have hbs:=hb.alloc hb.size (.cells #[.int .i64 ((P*7+(k:Int)*59+Q) % 211)] 3)
   have hw':=OwnV.below hw rfl (bl1 wr (.cells #[.int .i64 ((P*7+(k:Int)*59+Q) % 211)] 3))
   have hrd:=rdV_new wr #[.int .i64 ((P*7+(k:Int)*59+Q) % 211)] 3 (is [(P*7+(k:Int)*59+Q) % 211]) rfl
   go_wp2_with (at_builtin;go_loud (refine wpList_appV elI rfl (.tmp 9) (.tmp 22) rfl rfl w.heap.size A i c _ rfl hw' _ 1 1 _ _ rfl hrd rfl (is_one _) (by omega) (by unfold maxLen;omega) hbs.size (i+1) rfl (is (L++[(P*7+(k:Int)*59+Q) % 211])) (by rw[is_append]) ?_;intro A2 c2 w2 hw2 hb2 _))
   go_roundw
   case rel=>exact⟨i+1,c2,A2,_,by omega,by go_num,rfl,hw2,hbs.trans hb2⟩
   case measure=>simp[intOf];omega
  ·have hge:m≤i:=by omega
   go_wp2_with fail
   go_ret
   exact TapeL.mk hw (by omega) hb
set_option maxRecDepth 100000 in
set_option maxHeartbeats 8000000 in
theorem walk (H:ReduceW 41) (w:World):Calls Tryz.prog 3 #[] w (Ans (.bool true) w):=by
 go_enter Tryz.func3,Tryz.ntmps3
 go_wp2_with fail
 obtain⟨m,hm⟩:∃ m:Nat,(30:Int)=(m:Int):=⟨30,rfl⟩
 have hm1:m≤30:=by omega
 rw[hm]
 clear hm
 go_loopw [1,2,3,4,6] (fun s _ _ _ _ wr=>∃ k:Nat,k≤m∧s=.int .i64 k∧Below w.heap.size w wr) (fun s _ _ _ _ _=>m - (intOf s).toNat)
 case atStart=>exact⟨0,by omega,rfl,Below.refl _ _⟩
 case round =>
  obtain⟨k,hk,rfl,hb⟩:=hrel
  have HB:=hid hb
  clear hb
  by_cases hkm:k < m
  ·have hkmi:(k:Int) < (m:Int):=by omega
   go_wp2_with fail
   refine(tape11_any k wr (by omega)).mono ?_
   rintro e w1 ⟨A0,n0,k0,f0,rfl,hr0,hn0,hb1⟩
   have HB1:=hid (HB.out.trans (hb1.mono HB.out.size))
   have HSZ:Hid (w.heap.size≤w1.heap.size):=hid HB1.out.size
   have HT0:=hid (tape_boxed A0 n0 k0 f0 w1 hr0)
   have HBT:=hid (bl1 w1 (.cells #[.slice A0 n0 k0,.int .i64 0] 26))
   clear hr0 hb1 HB
   go_upto_region 5 with fail
   obtain⟨b,hbb⟩:∃ b,b=w1.heap.size:=⟨_,rfl⟩
   rw[← hbb] at HT0 ⊢
   generalize w1.alloc (.cells #[.slice A0 n0 k0,.int .i64 0] 26)=wA at HT0 HBT ⊢
   have HBB:=hid hbb
   clear hbb
   have HBA:Hid (b < wA.heap.size):=hid HT0.out.lt
   have HLW:Hid (w.heap.size≤b):=hid (by have h1:=HBB.out;have h2:=HSZ.out;omega)
   have HBA0:Hid (Below w.heap.size w wA):=hid (HB1.out.trans (HBT.out.mono HB1.out.size))
   go_wp2_with fail
   refine(config_anyz b b A0 n0 k0 f0 (by omega) 0 wA HT0.out).mono ?_
   rintro e w2 ⟨A1,A2,A3,n1,n2,n3,c1,c2,c3,P,C,T3,at1,rfl,hCf,q1,q2,q3,q4,q5,hco,hTb,hTt,q6,q7,q8,T6,G6,hper,_,_,hPo,hCo,hd12,hA3,htA⟩
   have hbl:=bl1 w2 (.cells #[.slice A1 n1 c1,.slice A2 n2 c2,.slice A3 n3 c3] 31)
   have HPO:=hid (hPo.below hbl)
   have HCO:=hid (hCo.below hbl)
   have HT6:=hid (T6.below hbl T6.lt)
   have HBX:=hid (box_vec w2 (.slice A1 n1 c1) (.slice A2 n2 c2) (.slice A3 n3 c3) 31)
   have HTB:=hid (hTb.on hbl)
   have HTA:Hid (∀ t∈T3,TbAt (w2.alloc (.cells #[.slice A1 n1 c1,.slice A2 n2 c2,.slice A3 n3 c3] 31)) (w2.alloc (.cells #[.slice A1 n1 c1,.slice A2 n2 c2,.slice A3 n3 c3] 31)).heap.size t):=hid fun t ht=>((hTt t ht).1).on hbl
   have HNB:Hid ((∀ k,obk A3=some k→k≠b)∧(∀ t∈T3,∀ k,obk t.A=some k→k≠b)):=hid ⟨fun k e=>by have h1:=hA3 k e;have h2:=HBA.out;omega,fun t ht k e=>by have h1:=htA t ht k e;have h2:=HBA.out;omega⟩
   have HB3:Hid (Below w.heap.size w (w2.alloc (.cells #[.slice A1 n1 c1,.slice A2 n2 c2,.slice A3 n3 c3] 31))):=hid (by
    have hx:=HBA.out
    have hy:=HLW.out
    have h2:Below w.heap.size w w2:=HBA0.out.trans ⟨G6.os,G6.tape,G6.output,G6.size,fun q hq=>G6.block q (Nat.lt_of_lt_of_le hq HBA0.out.size) (fun e=>by injection e with e;omega)⟩
    exact h2.trans (hbl.mono h2.size))
   have HG:Hid (b < w2.heap.size):=hid (Nat.lt_of_lt_of_le HBA.out G6.size)
   have HPER:=hid hper
   clear hCf hTb hTt hco T6 G6 hper hPo hCo hd12 hbl HBT hA3 htA HBA0 HB1
   go_upto_region 6 with fail
   generalize w2.alloc (.cells #[.slice A1 n1 c1,.slice A2 n2 c2,.slice A3 n3 c3] 31)=w3 at HPO HCO HT6 HBX HB3 HTB HTA ⊢
   generalize w2.heap.size=gc at HBX HG ⊢
   obtain⟨x0,x1,x2⟩:=HBX.out.three
   go_wp2_with fail
   refine(row_any b b A0 n0 k0 f0 (by omega) n1 12 (by omega) (by omega) (by omega) (by omega) at1 w3 HT6.out).mono ?_
   rintro e w4 ⟨L,AL,nl,cl,at2,rfl,hL,hown,h1a,h1b,T1,G4⟩
   clear x0 x1 x2
   have hcl:=hown.cap
   have hnl:=hown.rdr.len
   subst hnl
   have HFL:=hid (fair_frm hL (by omega) h1a (by omega))
   have HRL:=hid hown.rdr
   have hx:=HBA.out
   have hy:=HLW.out
   have hz:=HG.out
   have HLB:Hid (∀ k,obk AL=some k→k≠b):=hid fun k e=>by
    have h1:=(hown.obk_ge e).1
    have h2:=HBX.out.lt
    omega
   have HB4:Hid (Below w.heap.size w w4):=hid (HB3.out.trans ⟨G4.os,G4.tape,G4.output,G4.size,fun q hq=>G4.block q (Nat.lt_of_lt_of_le hq HB3.out.size) (fun e=>by injection e with e;omega)⟩)
   have hbx4:=HBX.out.keep (G4.block gc HBX.out.lt (fun e=>by injection e with e;omega)) G4.size
   have hpo4:=HPO.out.gb G4 (by omega)
   have hco4:=HCO.out.gb G4 (by omega)
   have HCF:Hid (CfW w4 w4.heap.size A1 A2 n1 n2 P C):=hid ⟨hpo4.rdb,hco4.rdb⟩
   have HPB:Hid ((∀ k,obk A1=some k→k≠b)∧(∀ k,obk A2=some k→k≠b)):=hid ⟨fun k e=>by have h1:=(hpo4.own.obk_ge e).1;omega,fun k e=>by have h1:=(hco4.own.obk_ge e).1;omega⟩
   have hon:Only (fun k=>k=b) w3 w4:=Only.gb G4 rfl
   have HTB4:Hid (RdB tcl w4 w4.heap.size A3 n3 T3):=hid ⟨HTB.out.len,hon.rdv (B:=0) HTB.out.rd fun k e=>HNB.out.1 k e⟩
   have HTA4:Hid (∀ t∈T3,TbAt w4 w4.heap.size t):=hid fun t ht=>(HTA.out t ht).only hon fun k e=>HNB.out.2 t ht k e
   have HBX4:=hid hbx4
   have HGC:Hid (gc≠b):=hid (by omega)
   have HTP:Hid (Tpe w4 b A0 n0 k0 f0 w4):=hid ⟨Only.refl _ _,at2,T1⟩
   clear hown T1 G4 hL HPO HCO HT6 HBX HB3 hx hy hz hbx4 hon HTB HTA hpo4 hco4 HG HBA h1a h1b HBB HSZ HT0
   have HCE:Hid (∀ U,Tpe w4 b A0 n0 k0 f0 U→U.cell? ⟨gc,0,none⟩=some (.slice A1 n1 c1)∧U.cell? ⟨gc,1,none⟩=some (.slice A2 n2 c2)∧U.cell? ⟨gc,2,none⟩=some (.slice A3 n3 c3)):=hid fun U hU=>by
    obtain⟨e0,e1,e2⟩:=HBX4.out.three
    exact⟨hU.1.celln HGC.out e0,hU.1.celln HGC.out e1,hU.1.celln HGC.out e2⟩
   have HC1:=hid fun U (hU:Tpe w4 b A0 n0 k0 f0 U)=>(⟨hU.1.rdb HCF.out.p HPB.out.1,hU.1.rdb HCF.out.c HPB.out.2⟩:CfW U U.heap.size A1 A2 n1 n2 P C)
   have HRW:=hid fun U (hU:Tpe w4 b A0 n0 k0 f0 U)=>hU.1.rdr HRL.out HLB.out
   have HS1:=hid fun U (hU:Tpe w4 b A0 n0 k0 f0 U)=>lsame11_any H A1 A2 A3 AL n1 n2 n3 c1 c2 c3 cl P C L U ⟨HC1.out U hU,HRW.out U hU,by omega,q4,by omega,hcl,HPER.out,HFL.out⟩
   have HPA:=hid fun U (hU:Tpe w4 b A0 n0 k0 f0 U)=>lpasses_any A1 A2 A3 AL n1 n2 n3 L.length c1 c2 c3 cl P C L U ⟨HC1.out U hU,HRW.out U hU,by omega,q4,by omega,hcl,HPER.out,HFL.out⟩
   have HTB:=hid fun A' n' c' l' U (hU:Tpe w4 b A0 n0 k0 f0 U) (hr:RdN U U.heap.size A' n' l') (hc:n'≤c') (hn:n'≤1048576)=>ltable_raw H A1 A2 A3 A' n1 n2 n3 n' c1 c2 c3 c' P C l' U (HC1.out U hU) hr (by omega) q4 (by omega) hc hn HPER.out
   go_wp2_with fail
   refine Rgs.region (by kernel_rfl) (by kernel_rfl) (fun(opn:Nat) (vl:Value) (wv:World)=>match opn with | 0=>vl=.agg #[.slice A1 n1 c1,.slice A2 n2 c2,.slice A3 n3 c3] | 1=>vl=.slice AL L.length cl | 2=>vl=.bool true | 3=>vl=.bool false | 4=>vl=.bool false | 5=>vl=.agg #[.slice A1 n1 c1,.slice A2 n2 c2,.slice A3 n3 c3] | 6=>vl=.slice AL L.length cl | 7=>vl=.bool true | 8=>vl=.bool false | 9=>vl=.bool false | 10=>vl=.bool false | 11=>vl=.agg #[.slice A1 n1 c1,.slice A2 n2 c2,.slice A3 n3 c3] | 12=>vl=.pointer (some ⟨b,0,none⟩) | 13=>vl=.pointer (some ⟨gc,0,none⟩) | 14=>vl=.slice A1 n1 c1 | 15=>vl=.int .i64 (n1:Int) | 16=>TblV vl wv | 17=>vl=.bool true | 18=>vl=.bool false | 19=>vl=.bool false | _=>True) (fun _ _ w'=>Tpe w4 b A0 n0 k0 f0 w') (HTP.out.bel (Below.refl _ _).drew) (Rgs.steps_of ?_) ?_
   ·have keepV:∀ {wx wy:World} (hb5:Below wx.heap.size wx wy) (jq:Nat) (vq:Value),(fun(opn:Nat) (vl:Value) (wv:World)=>match opn with | 0=>vl=.agg #[.slice A1 n1 c1,.slice A2 n2 c2,.slice A3 n3 c3] | 1=>vl=.slice AL L.length cl | 2=>vl=.bool true | 3=>vl=.bool false | 4=>vl=.bool false | 5=>vl=.agg #[.slice A1 n1 c1,.slice A2 n2 c2,.slice A3 n3 c3] | 6=>vl=.slice AL L.length cl | 7=>vl=.bool true | 8=>vl=.bool false | 9=>vl=.bool false | 10=>vl=.bool false | 11=>vl=.agg #[.slice A1 n1 c1,.slice A2 n2 c2,.slice A3 n3 c3] | 12=>vl=.pointer (some ⟨b,0,none⟩) | 13=>vl=.pointer (some ⟨gc,0,none⟩) | 14=>vl=.slice A1 n1 c1 | 15=>vl=.int .i64 (n1:Int) | 16=>TblV vl wv | 17=>vl=.bool true | 18=>vl=.bool false | 19=>vl=.bool false | _=>True) jq vq wx→(fun(opn:Nat) (vl:Value) (wv:World)=>match opn with | 0=>vl=.agg #[.slice A1 n1 c1,.slice A2 n2 c2,.slice A3 n3 c3] | 1=>vl=.slice AL L.length cl | 2=>vl=.bool true | 3=>vl=.bool false | 4=>vl=.bool false | 5=>vl=.agg #[.slice A1 n1 c1,.slice A2 n2 c2,.slice A3 n3 c3] | 6=>vl=.slice AL L.length cl | 7=>vl=.bool true | 8=>vl=.bool false | 9=>vl=.bool false | 10=>vl=.bool false | 11=>vl=.agg #[.slice A1 n1 c1,.slice A2 n2 c2,.slice A3 n3 c3] | 12=>vl=.pointer (some ⟨b,0,none⟩) | 13=>vl=.pointer (some ⟨gc,0,none⟩) | 14=>vl=.slice A1 n1 c1 | 15=>vl=.int .i64 (n1:Int) | 16=>TblV vl wv | 17=>vl=.bool true | 18=>vl=.bool false | 19=>vl=.bool false | _=>True) jq vq wy:=by
     intro wx wy hb5 jq vq h
     revert h
     match jq with
     | 16=>exact fun h=>TblV.on h hb5
     | 0 | 1 | 2 | 3 | 4 | 5 | 6 | 7 | 8 | 9 | 10 | 11 | 12 | 13 | 14 | 15 | 17 | 18 | 19 | _+20=>exact fun h=>h
    have moveV:∀ {wx wy:World} {jq:Nat} (hj:jq≠16) (vq:Value),(fun(opn:Nat) (vl:Value) (wv:World)=>match opn with | 0=>vl=.agg #[.slice A1 n1 c1,.slice A2 n2 c2,.slice A3 n3 c3] | 1=>vl=.slice AL L.length cl | 2=>vl=.bool true | 3=>vl=.bool false | 4=>vl=.bool false | 5=>vl=.agg #[.slice A1 n1 c1,.slice A2 n2 c2,.slice A3 n3 c3] | 6=>vl=.slice AL L.length cl | 7=>vl=.bool true | 8=>vl=.bool false | 9=>vl=.bool false | 10=>vl=.bool false | 11=>vl=.agg #[.slice A1 n1 c1,.slice A2 n2 c2,.slice A3 n3 c3] | 12=>vl=.pointer (some ⟨b,0,none⟩) | 13=>vl=.pointer (some ⟨gc,0,none⟩) | 14=>vl=.slice A1 n1 c1 | 15=>vl=.int .i64 (n1:Int) | 16=>TblV vl wv | 17=>vl=.bool true | 18=>vl=.bool false | 19=>vl=.bool false | _=>True) jq vq wx→(fun(opn:Nat) (vl:Value) (wv:World)=>match opn with | 0=>vl=.agg #[.slice A1 n1 c1,.slice A2 n2 c2,.slice A3 n3 c3] | 1=>vl=.slice AL L.length cl | 2=>vl=.bool true | 3=>vl=.bool false | 4=>vl=.bool false | 5=>vl=.agg #[.slice A1 n1 c1,.slice A2 n2 c2,.slice A3 n3 c3] | 6=>vl=.slice AL L.length cl | 7=>vl=.bool true | 8=>vl=.bool false | 9=>vl=.bool false | 10=>vl=.bool false | 11=>vl=.agg #[.slice A1 n1 c1,.slice A2 n2 c2,.slice A3 n3 c3] | 12=>vl=.pointer (some ⟨b,0,none⟩) | 13=>vl=.pointer (some ⟨gc,0,none⟩) | 14=>vl=.slice A1 n1 c1 | 15=>vl=.int .i64 (n1:Int) | 16=>TblV vl wv | 17=>vl=.bool true | 18=>vl=.bool false | 19=>vl=.bool false | _=>True) jq vq wy:=by
     intro wx wy jq hj vq h
     revert h
     match jq,hj with
     | 16,hj=>exact absurd rfl hj
     | 0,_ | 1,_ | 2,_ | 3,_ | 4,_ | 5,_ | 6,_ | 7,_ | 8,_ | 9,_ | 10,_ | 11,_ | 12,_ | 13,_ | 14,_ | 15,_ | 17,_ | 18,_ | 19,_ | _+20,_=>exact fun h=>h
    refine⟨?_,?_,?_,?_,?_,?_,?_,?_,?_,?_,?_,?_,?_,?_,?_,?_,?_,?_,?_,?_,trivial⟩ <;> intro a w1 live S E D C h0 hk hW
    ·have e3:a.eval (.tmp 3)=.pointer (some ⟨gc,0,none⟩):=E 3 rfl
     have hc0:=(HCE.out _ hW).1
     have hc1:=(HCE.out _ hW).2.1
     have hc2:=(HCE.out _ hW).2.2
     exact Rgs.val rfl (Reg.wanted_free rfl) (.agg #[.slice A1 n1 c1,.slice A2 n2 c2,.slice A3 n3 c3]) (by have c:=Reg.consts a;generalize a.eval=ρ at *;simp[execOp,go_sem,c.1,c.2,e3,hc0,hc1,hc2]) rfl hW
    ·have e4:a.eval (.tmp 4)=.slice AL L.length cl:=E 4 rfl
     exact Rgs.val rfl (Reg.wanted_free rfl) (.slice AL L.length cl) (by have c:=Reg.consts a;generalize a.eval=ρ at *;simp[execOp,go_sem,c.1,c.2,e4]) rfl hW
    ·have d0:a.eval (.tmp 22)=.agg #[.slice A1 n1 c1,.slice A2 n2 c2,.slice A3 n3 c3]:=D 0 rfl _ _ rfl rfl
     have d1:a.eval (.tmp 23)=.slice AL L.length cl:=D 1 rfl _ _ rfl rfl
     have d0:a.eval (.tmp 22)=.agg #[.slice A1 n1 c1,.slice A2 n2 c2,.slice A3 n3 c3]:=D 0 rfl _ _ rfl rfl
     have d1:a.eval (.tmp 23)=.slice AL L.length cl:=D 1 rfl _ _ rfl rfl
     refine Rgs.call rfl (Reg.wanted_free rfl) 11 #[.agg #[.slice A1 n1 c1,.slice A2 n2 c2,.slice A3 n3 c3],.slice AL L.length cl] (by have c:=Reg.consts a;generalize a.eval=ρ at *;simp[execOp,go_sem,c.1,c.2,d0,d1]) ?_
     refine(HS1.out w1 hW).mono ?_
     rintro e wy ⟨rfl,hb5⟩
     exact⟨_,rfl,rfl,hW.bel hb5,fun j v _ hv=>keepV hb5 j v hv⟩
    ·have d2:a.eval (.tmp 24)=.bool true:=D 2 rfl _ _ rfl rfl
     exact Rgs.val rfl (Reg.wanted_free rfl) (.bool false) (by have c:=Reg.consts a;generalize a.eval=ρ at *;simp[execOp,go_sem,c.1,c.2,d2]) rfl hW
    ·have d3:a.eval (.tmp 25)=.bool false:=D 3 rfl _ _ rfl rfl
     exact Rgs.val rfl (Reg.wanted_free rfl) (.bool false) (by have c:=Reg.consts a;generalize a.eval=ρ at *;simp[execOp,go_sem,c.1,c.2,d3]) rfl hW
    ·have dg:a.eval (.tmp 26)=.bool false:=D 4 rfl _ _ rfl rfl
     have e3:a.eval (.tmp 3)=.pointer (some ⟨gc,0,none⟩):=E 3 rfl
     have hc0:=(HCE.out _ hW).1
     have hc1:=(HCE.out _ hW).2.1
     have hc2:=(HCE.out _ hW).2.2
     exact Rgs.val rfl (Reg.wanted_if rfl rfl dg rfl) (.agg #[.slice A1 n1 c1,.slice A2 n2 c2,.slice A3 n3 c3]) (by have c:=Reg.consts a;generalize a.eval=ρ at *;simp[execOp,go_sem,c.1,c.2,e3,hc0,hc1,hc2]) rfl hW
    ·have dg:a.eval (.tmp 26)=.bool false:=D 4 rfl _ _ rfl rfl
     have e4:a.eval (.tmp 4)=.slice AL L.length cl:=E 4 rfl
     exact Rgs.val rfl (Reg.wanted_if rfl rfl dg rfl) (.slice AL L.length cl) (by have c:=Reg.consts a;generalize a.eval=ρ at *;simp[execOp,go_sem,c.1,c.2,e4]) rfl hW
    ·have dg:a.eval (.tmp 26)=.bool false:=D 4 rfl _ _ rfl rfl
     have d5:a.eval (.tmp 27)=.agg #[.slice A1 n1 c1,.slice A2 n2 c2,.slice A3 n3 c3]:=D 5 rfl _ _ rfl rfl
     have d6:a.eval (.tmp 28)=.slice AL L.length cl:=D 6 rfl _ _ rfl rfl
     have dg:a.eval (.tmp 26)=.bool false:=D 4 rfl _ _ rfl rfl
     have d5:a.eval (.tmp 27)=.agg #[.slice A1 n1 c1,.slice A2 n2 c2,.slice A3 n3 c3]:=D 5 rfl _ _ rfl rfl
     have d6:a.eval (.tmp 28)=.slice AL L.length cl:=D 6 rfl _ _ rfl rfl
     refine Rgs.call rfl (Reg.wanted_if rfl rfl dg rfl) 12 #[.agg #[.slice A1 n1 c1,.slice A2 n2 c2,.slice A3 n3 c3],.slice AL L.length cl] (by have c:=Reg.consts a;generalize a.eval=ρ at *;simp[execOp,go_sem,c.1,c.2,d5,d6]) ?_
     refine(HPA.out w1 hW).mono ?_
     rintro e wy ⟨rfl,hb5⟩
     exact⟨_,rfl,rfl,hW.bel hb5,fun j v _ hv=>keepV hb5 j v hv⟩
    ·have dg:a.eval (.tmp 26)=.bool false:=D 4 rfl _ _ rfl rfl
     have d7:a.eval (.tmp 29)=.bool true:=D 7 rfl _ _ rfl rfl
     exact Rgs.val rfl (Reg.wanted_if rfl rfl dg rfl) (.bool false) (by have c:=Reg.consts a;generalize a.eval=ρ at *;simp[execOp,go_sem,c.1,c.2,d7]) rfl hW
    ·have d4:a.eval (.tmp 26)=.bool false:=D 4 rfl _ _ rfl rfl
     have d8:a.eval (.tmp 30)=.bool false:=D 8 rfl _ _ rfl rfl
     exact Rgs.val rfl (Reg.wanted_free rfl) (.bool false) (by have c:=Reg.consts a;generalize a.eval=ρ at *;simp[execOp,go_sem,c.1,c.2,d4,d8]) rfl hW
    ·have d9:a.eval (.tmp 31)=.bool false:=D 9 rfl _ _ rfl rfl
     exact Rgs.val rfl (Reg.wanted_free rfl) (.bool false) (by have c:=Reg.consts a;generalize a.eval=ρ at *;simp[execOp,go_sem,c.1,c.2,d9]) rfl hW
    ·have dg:a.eval (.tmp 32)=.bool false:=D 10 rfl _ _ rfl rfl
     have e3:a.eval (.tmp 3)=.pointer (some ⟨gc,0,none⟩):=E 3 rfl
     have hc0:=(HCE.out _ hW).1
     have hc1:=(HCE.out _ hW).2.1
     have hc2:=(HCE.out _ hW).2.2
     exact Rgs.val rfl (Reg.wanted_if rfl rfl dg rfl) (.agg #[.slice A1 n1 c1,.slice A2 n2 c2,.slice A3 n3 c3]) (by have c:=Reg.consts a;generalize a.eval=ρ at *;simp[execOp,go_sem,c.1,c.2,e3,hc0,hc1,hc2]) rfl hW
    ·have dg:a.eval (.tmp 32)=.bool false:=D 10 rfl _ _ rfl rfl
     have e2:a.eval (.tmp 2)=.pointer (some ⟨b,0,none⟩):=E 2 rfl
     exact Rgs.val rfl (Reg.wanted_if rfl rfl dg rfl) (.pointer (some ⟨b,0,none⟩)) (by have c:=Reg.consts a;generalize a.eval=ρ at *;simp[execOp,go_sem,c.1,c.2,e2]) rfl hW
    ·have dg:a.eval (.tmp 32)=.bool false:=D 10 rfl _ _ rfl rfl
     have e3:a.eval (.tmp 3)=.pointer (some ⟨gc,0,none⟩):=E 3 rfl
     exact Rgs.val rfl (Reg.wanted_if rfl rfl dg rfl) (.pointer (some ⟨gc,0,none⟩)) (by have c:=Reg.consts a;generalize a.eval=ρ at *;simp[execOp,go_sem,c.1,c.2,e3]) rfl hW
    ·have dg:a.eval (.tmp 32)=.bool false:=D 10 rfl _ _ rfl rfl
     have d13:a.eval (.tmp 35)=.pointer (some ⟨gc,0,none⟩):=D 13 rfl _ _ rfl rfl
     have hc0:=(HCE.out _ hW).1
     have hc1:=(HCE.out _ hW).2.1
     have hc2:=(HCE.out _ hW).2.2
     exact Rgs.val rfl (Reg.wanted_if rfl rfl dg rfl) (.slice A1 n1 c1) (by have c:=Reg.consts a;generalize a.eval=ρ at *;simp[execOp,go_sem,c.1,c.2,d13,hc0,hc1,hc2]) rfl hW
    ·have dg:a.eval (.tmp 32)=.bool false:=D 10 rfl _ _ rfl rfl
     have d14:a.eval (.tmp 36)=.slice A1 n1 c1:=D 14 rfl _ _ rfl rfl
     exact Rgs.val rfl (Reg.wanted_if rfl rfl dg rfl) (.int .i64 (n1:Int)) (by have c:=Reg.consts a;generalize a.eval=ρ at *;simp[execOp,go_sem,c.1,c.2,d14]) rfl hW
    ·have dg:a.eval (.tmp 32)=.bool false:=D 10 rfl _ _ rfl rfl
     have d12:a.eval (.tmp 34)=.pointer (some ⟨b,0,none⟩):=D 12 rfl _ _ rfl rfl
     have d15:a.eval (.tmp 37)=.int .i64 (n1:Int):=D 15 rfl _ _ rfl rfl
     have dg:a.eval (.tmp 32)=.bool false:=D 10 rfl _ _ rfl rfl
     have d12:a.eval (.tmp 34)=.pointer (some ⟨b,0,none⟩):=D 12 rfl _ _ rfl rfl
     have d15:a.eval (.tmp 37)=.int .i64 (n1:Int):=D 15 rfl _ _ rfl rfl
     refine Rgs.call rfl (Reg.wanted_if rfl rfl dg rfl) 14 #[.pointer (some ⟨b,0,none⟩),.int .i64 (n1:Int),.int .i64 3] (by have c:=Reg.consts a;generalize a.eval=ρ at *;simp[execOp,go_sem,c.1,c.2,d12,d15]) ?_
     refine(tblt_any (by omega) n1 (by omega) (by omega) w1 hW).mono ?_
     rintro e wy ⟨A',n',c',l',rfl,hr',hc',hn',hT'⟩
     refine⟨_,rfl,⟨A',n',c',l',rfl,hr',hc',hn'⟩,hT',fun j v hl hv=>?_⟩
     by_cases hj:j=16
     ·subst hj
      rw[h0] at hl
      cases hl
     ·exact moveV hj v hv
    ·have dg:a.eval (.tmp 32)=.bool false:=D 10 rfl _ _ rfl rfl
     have d11:a.eval (.tmp 33)=.agg #[.slice A1 n1 c1,.slice A2 n2 c2,.slice A3 n3 c3]:=D 11 rfl _ _ rfl rfl
     have dg:a.eval (.tmp 32)=.bool false:=D 10 rfl _ _ rfl rfl
     have d11:a.eval (.tmp 33)=.agg #[.slice A1 n1 c1,.slice A2 n2 c2,.slice A3 n3 c3]:=D 11 rfl _ _ rfl rfl
     obtain⟨A',n',c',l',e35,hr',hc',hn'⟩:TblV (a.eval (.tmp 38)) w1:=D 16 rfl _ _ rfl rfl
     refine Rgs.call rfl (Reg.wanted_if rfl rfl dg rfl) 13 #[.agg #[.slice A1 n1 c1,.slice A2 n2 c2,.slice A3 n3 c3],.slice A' n' c'] (by have c:=Reg.consts a;generalize a.eval=ρ at *;simp[execOp,go_sem,c.1,c.2,d11,e35]) ?_
     refine(HTB.out A' n' c' l' w1 hW hr' hc' hn').mono ?_
     rintro e wy ⟨rfl,hb5⟩
     exact⟨_,rfl,rfl,hW.bel hb5,fun j v _ hv=>keepV hb5 j v hv⟩
    ·have dg:a.eval (.tmp 32)=.bool false:=D 10 rfl _ _ rfl rfl
     have d17:a.eval (.tmp 39)=.bool true:=D 17 rfl _ _ rfl rfl
     exact Rgs.val rfl (Reg.wanted_if rfl rfl dg rfl) (.bool false) (by have c:=Reg.consts a;generalize a.eval=ρ at *;simp[execOp,go_sem,c.1,c.2,d17]) rfl hW
    ·have d10:a.eval (.tmp 32)=.bool false:=D 10 rfl _ _ rfl rfl
     have d18:a.eval (.tmp 40)=.bool false:=D 18 rfl _ _ rfl rfl
     exact Rgs.val rfl (Reg.wanted_free rfl) (.bool false) (by have c:=Reg.consts a;generalize a.eval=ρ at *;simp[execOp,go_sem,c.1,c.2,d10,d18]) rfl hW
   ·intro a w9 live hs hd E Dv Hl hW
    have e41:a.eval (.tmp 41)=.bool false:=by
     obtain⟨v,hv,he⟩:=Dv 19 _ rfl
     exact(he 41 rfl).trans hv
    rw[Rgs.act_ws a _ _ hs hd E [22,23,24,25,26,27,28,29,30,31,32,33,34,35,36,37,38,39,40,41] (by kernel_rfl)]
    simp only[List.foldl,List.setIfInBounds_toArray,List.set_cons_succ,List.set_cons_zero,e41]
    have HB9:=hid (HB4.out.trans (hW.base HLW.out HB4.out.size))
    have HW9:=hid hW
    clear E Dv Hl hW e41
    generalize a.eval=ρ
    clear a hs hd
    obtain⟨x0,x1,x2⟩:=HCE.out w9 HW9.out
    have HT9:=hid (HW9.out.1.rdb HTB4.out HNB.out.1)
    have HA9:Hid (∀ t∈T3,TbAt w9 w9.heap.size t):=hid fun t ht=>(HTA4.out t ht).only HW9.out.1 fun k e=>HNB.out.2 t ht k e
    have HX9:Hid (∀ U,Below w9.heap.size w9 U→U.cell? ⟨gc,0,none⟩=some (.slice A1 n1 c1)∧U.cell? ⟨gc,1,none⟩=some (.slice A2 n2 c2)∧U.cell? ⟨gc,2,none⟩=some (.slice A3 n3 c3)):=hid fun U hU=>HCE.out U (HW9.out.bel hU)
    go_wp2_with fail
    clear x0 x1 x2
    go_loopw [6,45] (fun _ s wx=>∃ i:Nat,i≤n3∧s=.int .i64 i∧Below w9.heap.size w9 wx) (fun _ s _=>n3 - (intOf s).toNat)
    case atStart=>exact⟨0,by omega,rfl,Below.refl _ _⟩
    case round =>
     obtain⟨i,hi,rfl,hb⟩:=hrel
     have HKi:=hid hb
     obtain⟨wq,hwq⟩:∃ wq,wq=wr:=⟨_,rfl⟩
     subst hwq
     clear hb
     by_cases hlt:i < n3
     ·have hlti:(i:Int) < (n3:Int):=by omega
      obtain⟨ad3,t0,rfl,_,ht0,hc0,_⟩:=(HT9.out.on HKi.out).at_ tcl_len (by omega) hlt
      have hd0:=hc0 _ rfl
      rw[Nat.mul_one] at hd0
      have htt:=(HA9.out t0 (List.mem_of_getElem? ht0)).on HKi.out
      have HCT:=hid (HTB.out t0.A t0.n t0.c (t0.x::t0.k.flat) wq (HW9.out.bel HKi.out) htt.rd htt.cap htt.few)
      obtain⟨tA,tn,tc,tx,tk⟩:=t0
      dsimp only at hd0 HCT
      obtain⟨x0,x1,x2⟩:=HX9.out wq HKi.out
      clear ht0 hc0 htt
      go_wp2_with fail
      refine HCT.out.mono ?_
      rintro e w7 ⟨rfl,hb7⟩
      have HK7:=hid (HKi.out.trans (hb7.mono HKi.out.size))
      clear hb7 x0 x1 x2
      go_wp2_with fail
      go_roundw
      case rel=>exact⟨i+1,by omega,by go_num,HK7.out⟩
      case measure=>simp[intOf];omega
     ·have hlti:¬ (i:Int) < (n3:Int):=by omega
      have HFF:=hid (HB9.out.trans (HKi.out.mono HB9.out.size))
      go_wp2_with fail
      go_roundw
      case rel=>exact⟨k+1,by omega,by go_num,HFF.out⟩
      case measure=>simp[intOf];omega
  ·have hkmi:¬ (k:Int) < (m:Int):=by omega
   have HKN:=hid (H.known wr)
   go_wp2_with fail
   refine HKN.out.mono ?_
   rintro e w6 ⟨rfl,hb9⟩
   have HFF:=hid (HB.out.trans (hb9.mono HB.out.size))
   clear hb9 HKN
   go_wp2_with fail
   go_ret
   exact Ans.mk rfl HFF.out
end Go.Proofs.YtfddpnhaejkacaaGreat.reduceNumbers
