import Derived.Test.YtdkngfdnfekgfaaGreatLot40
import Derived.Lib.SlBytesConst
import Derived.IntWalk
set_option maxHeartbeats 8000000
set_option maxRecDepth 100000
set_option linter.unusedSimpArgs false
set_option linter.unusedVariables false
namespace Go.Proofs.YtdkngfdnfekgfaaGreat
open Go.RowKit Tab
theorem partE_pos(k:PtK):0 < (partE k).length:=by have:=enc_pos k.name.size;unfold partE;simp only[List.length_append];omega
theorem chanE_pos(x:ChV):0 < (chanE x).length:=by have:=enc_pos x.from_;unfold chanE;simp only[List.length_append];omega
theorem tabE_pos(l:List Nd):0 < (tabE l).length:=by have:=enc_pos l.length;unfold tabE;simp only[List.length_append];omega
theorem chanE_few{x:ChV}(h:ChanIn x):(chanE x).length≤54:=by have:=chanB_few h [];rw[chanB_E] at this;simpa using this
theorem partE_few{y:Pq}(h:PartIn y):(partE (coreK y)).length≤165:=by have:=partB_few h [];rw[partB_E h.len] at this;simpa using this
theorem tabE_few{l:List Nd}(h:∀ z∈l,NdIn z)(hl:l.length≤1040):(tabE l).length≤28089:=by
 have h1:=enc_few (l.length:Int) (by unfold In64;omega);have h2:=flat_few nodeE 27 l fun z hz=>nodeE_few (h z hz);unfold tabE;rw[List.length_append];omega
theorem wmod_any(x:Cf)(w:World)(hx:CfR w x)(hr:RiX x)(hs:SmX 16 x):Calls Tryz.prog 32 #[cfv x] w (MdA (horaB++confE (coreX x)) w):=by
 have HPP:=hid hx.pp;have HCC:=hid hx.ch;have HTB:=hid hx.tb;have HPI:Hid (∀(k:Nat) (y:Pq),x.P[k]? = some y→PartIn y∧RdB prc w w.heap.size y.1.pa y.1.pn y.2):=hid fun k y hy=>by
  have hm:=List.mem_of_getElem? hy;exact⟨PartIn.of hy (hr.pt k (List.getElem?_eq_some_iff.1 hy).1) (hx.pt y hm).1.procs.len,(hx.pt y hm).1.procs⟩
 have HCI:Hid (∀(k:Nat) (y:ChV),x.C[k]? = some y→ChanIn y):=hid fun k y hy=>ChanIn.of hy (hr.ch k (List.getElem?_eq_some_iff.1 hy).1) hr.sz.2.1;have HTI:Hid (∀ y∈x.T,RdN w w.heap.size y.A y.n y.l∧y.n≤1040):=hid fun y hy=>⟨(hx.tt y hy).rd,by have:=hs.nd y hy;omega⟩;have l1:=hx.pp.len;have l2:=hx.ch.len;have l3:=hx.tb.len;have HLL:Hid (x.P.length=x.n1∧x.C.length=x.n2∧x.T.length=x.n3):=hid ⟨l1,l2,l3⟩;have HNN:Hid (x.n1≤6∧x.n2≤8∧x.n3≤3):=hid ⟨by rw[← l1];exact hr.sz.2.1,by rw[← l2];exact hr.sz.2.2.1,by rw[← l3];exact hr.sz.2.2.2.2⟩;clear l1 l2 l3 hx hr hs;obtain⟨A1,A2,A3,n1,n2,n3,c1,c2,c3,P,C,T⟩:=x;dsimp only[cfv] at HPP HCC HTB HPI HCI HTI HLL HNN ⊢;have HW0:=hid (bl1 w (.cells #[.slice A1 n1 c1,.slice A2 n2 c2,.slice A3 n3 c3] 26));have hbx:∀ o v,(#[.slice A1 n1 c1,.slice A2 n2 c2,.slice A3 n3 c3]:Array Value)[o]? = some v→(w.alloc (.cells #[.slice A1 n1 c1,.slice A2 n2 c2,.slice A3 n3 c3] 26)).cell? ⟨w.heap.size,o,none⟩=some v:=fun o v hv=>(World.cell?_alloc_mark _ _ _ _ _).trans hv;have hgl:w.heap.size < (w.alloc (.cells #[.slice A1 n1 c1,.slice A2 n2 c2,.slice A3 n3 c3] 26)).heap.size:=by simp
 go_enter Tryz.func32,Tryz.ntmps32;go_upto_region 1 with fail;generalize w.alloc (.cells #[.slice A1 n1 c1,.slice A2 n2 c2,.slice A3 n3 c3] 26)=W0 at HW0 hbx hgl ⊢;obtain⟨g0,hg0⟩:∃ g,g=w.heap.size:=⟨_,rfl⟩;rw[← hg0] at hbx ⊢;have HGL:=hid hgl;have HBX:Hid (∀ V,Below W0.heap.size W0 V→∀(o:Nat) (v:Value),(#[.slice A1 n1 c1,.slice A2 n2 c2,.slice A3 n3 c3]:Array Value)[o]? = some v→V.cell? ⟨g0,o,none⟩=some v):=hid fun V hv o v h=>(hv.cell (p:=⟨g0,o,none⟩) (by rw[hg0];exact hgl)).trans (hbx o v h);clear hbx hgl hg0;have hb1:=bl1 W0 (.cells #[.int .u8 72,.int .u8 79,.int .u8 82,.int .u8 65] 5 (4,5));have hrd:=(rd_mark W0 #[.int .u8 72,.int .u8 79,.int .u8 82,.int .u8 65] (4,5) horaB 4 _ rfl rfl rfl).more (B':=(W0.alloc (.cells #[.int .u8 72,.int .u8 79,.int .u8 82,.int .u8 65] 5 (4,5))).heap.size) (by simp);have p1:(convert 35 35 (.slice (some ⟨W0.heap.size,0,none⟩) 4 4)).run Tryz.prog (W0.alloc (.cells #[.int .u8 72,.int .u8 79,.int .u8 82,.int .u8 65] 5))=.ok (.slice (some ⟨W0.heap.size,0,none⟩) 4 4) (W0.alloc (.cells #[.int .u8 72,.int .u8 79,.int .u8 82,.int .u8 65] 5 (4,5))):=Lib.run_convert_bytes_const (P:=Tryz.prog) W0 35 5 #[.int .u8 72,.int .u8 79,.int .u8 82,.int .u8 65] 4 4 Tryz.underlying35 Tryz.underlying5;have m0:=HBX.out _ hb1 0 _ rfl;have hb2:=hb1.trans ((bl1 (W0.alloc (.cells #[.int .u8 72,.int .u8 79,.int .u8 82,.int .u8 65] 5 (4,5))) (.cells #[.int .i64 (n1:Int)] 3)).mono hb1.size);have hc3:=puti_any W0.heap.size (some ⟨W0.heap.size,0,none⟩) 4 4 horaB ⟨(W0.alloc (.cells #[.int .u8 72,.int .u8 79,.int .u8 82,.int .u8 65] 5 (4,5))).heap.size,0,none⟩ 1 1 (fun _=>(n1:Int)) ((W0.alloc (.cells #[.int .u8 72,.int .u8 79,.int .u8 82,.int .u8 65] 5 (4,5))).alloc (.cells #[.int .i64 (n1:Int)] 3)) (StR.bel (.inr ⟨rfl,hrd⟩) (bl1 _ _)) hb2.size (fun j hj=>by
  obtain rfl:j=0:=by omega
  rw[mk_add];exact World.cell?_alloc_mark _ _ _ _ _) (by simp) (by intro e;injection e with e;simp at e) (fun j hj=>by unfold In64;have:=HNN.out;omega) (by omega) (by omega) (by omega)
 have e1:encN (fun _=>(n1:Int)) 1=[(n1:Int)].flatMap Num.enc:=row_enc _ [(n1:Int)] fun j x hx=>by
  cases j with
  | zero=>injection hx
  | succ j=>cases hx
 rw[e1] at hc3;obtain⟨R1,hR⟩:∃ R,R=horaB++[(n1:Int)].flatMap Num.enc:=⟨_,rfl⟩;rw[← hR] at hc3;have HE1:=hid hR;have HR1:Hid (R1.length≤13):=hid (by
  have h3:=enc_few (n1:Int) (by unfold In64;have:=HNN.out;omega);rw[hR,List.length_append,show horaB.length=4 from rfl];simp only[List.flatMap_cons,List.flatMap_nil,List.append_nil];omega)
 have hsz:(W0.alloc (.cells #[.int .u8 72,.int .u8 79,.int .u8 82,.int .u8 65] 5 (4,5))).heap.size=W0.heap.size+1:=by simp
 rw[hsz] at hc3;have HC3:=hid hc3;have HB2:=hid hb2;clear hb1 hb2 hrd e1 hR hc3 hsz;go_wp2_with (go_at_call 54;refine HC3.out.mono ?_;rintro e w3⟨D1,r1,s1,rfl,ho3,hg3⟩;have hb3:Below W0.heap.size W0 w3:=HB2.out.trans ⟨hg3.gb.os,hg3.gb.tape,hg3.gb.output,hg3.gb.size,fun i hi=>hg3.gb.block i (Nat.lt_of_lt_of_le hi HB2.out.size) (by intro e;injection e with e;exact absurd hi (by rw[e];exact Nat.lt_irrefl _))⟩;have m0:=HBX.out w3 hb3 0 _ rfl);have HB1:=hid hb3;have HO1:=hid ho3;clear ho3 hg3 HC3 HB2 m0 p1 hb3;go_loopw [3,5,20] (fun o _ q wr=>∃(k n' c':Nat) (A':Option Addr),k≤n1∧q=.int .i64 k∧o=.slice A' n' c'∧Own wr W0.heap.size A' n' c' (R1++(P.take k).flatMap (fun y:Pq=>partE (coreK y)))∧Below W0.heap.size W0 wr) (fun _ _ q _=>n1 - (intOf q).toNat)
 case atStart=>exact⟨0,r1,s1,D1,by omega,rfl,rfl,by simpa using HO1.out,HB1.out⟩
 obtain⟨k,q1,s1,E1,hk,rfl,rfl,ho,hb⟩:=hrel;have HO:=hid ho;have HB:=hid hb;have HWR:=hid (HW0.out.trans (hb.mono HW0.out.size));clear ho hb HB1 HO1;have HLN:Hid (q1≤1100):=hid (by
  have h1:=HO.out.len;have h2:=HR1.out;have h4:=flat_few (fun y:Pq=>partE (coreK y)) 165 (P.take k) fun q hq=>(by obtain⟨i,hi⟩:=List.getElem?_of_mem (List.mem_of_mem_take hq);exact partE_few (HPI.out i q hi).1);have h5:(P.take k).length≤6:=by rw[List.length_take];have:=HNN.out;omega
  simp only[List.length_append] at h1;omega)
 by_cases hlt:k < n1
 ·have hlti:(k:Int) < (n1:Int):=by omega
  have hnn:=HNN.out;obtain⟨ad,x,rfl,had,hx,d0,dk⟩:=(HPP.out.on HWR.out).at_ pcq_len (by omega) hlt;have HXM:=hid (List.mem_of_getElem? hx);have HXK:=hid hx;have HTK:Hid (P.take (k+1)=P.take k++[x]):=hid (by rw[List.take_add_one,hx];rfl);have d0:=d0 _ rfl;have d1:=dk 1 _ (by omega) rfl;have d2:=dk 2 _ (by omega) rfl;have d3:=dk 3 _ (by omega) rfl;have d4:=dk 4 _ (by omega) rfl;have d5:=dk 5 _ (by omega) rfl;have d6:=dk 6 _ (by omega) rfl;have d7:=dk 7 _ (by omega) rfl;have d8:=dk 8 _ (by omega) rfl;have d9:=dk 9 _ (by omega) rfl;have d10:=dk 10 _ (by omega) rfl;have hwx:=bl1 wr (.cells #[.string x.1.name,.int .i64 x.1.bud,.int .i64 x.1.per,.bool x.1.sched,.bool x.1.stop,.slice x.1.pa x.1.pn x.1.pc,.int .i64 x.1.h0,.int .i64 x.1.h1,.int .i64 x.1.h2,.int .i64 x.1.h3,.int .i64 x.1.h4] 57);have HPOS:=hid (partE_pos (coreK x));have HFW:=hid (partE_few (HPI.out k x hx).1);have HC2:=hid (wpart_any x (wr.alloc (.cells #[.string x.1.name,.int .i64 x.1.bud,.int .i64 x.1.per,.bool x.1.sched,.bool x.1.stop,.slice x.1.pa x.1.pn x.1.pc,.int .i64 x.1.h0,.int .i64 x.1.h1,.int .i64 x.1.h2,.int .i64 x.1.h3,.int .i64 x.1.h4] 57)) (HPI.out k x hx).1 (((HPI.out k x hx).2.on HWR.out).on hwx));have HOR:=hid (HO.out.below rfl hwx);have HBR:=hid (HB.out.trans (hwx.mono HB.out.size))
  try dsimp only at d0 d1 d2 d3 d4 d5 d6 d7 d8 d9 d10
  clear dk hx had hwx HO;go_wp2_with fail;refine HC2.out.mono ?_;rintro e w2⟨A4,n4,c4,rfl,ho4,hb4⟩;have ho3:=HOR.out.below rfl hb4;have hl4:=ho4.len;have hp4:=HPOS.out;have hsz:q1+n4≤140737488351232:=by
   have:=HLN.out;have:=HFW.out;omega
  have hbs:W0.heap.size≤w2.heap.size:=Nat.le_trans HBR.out.size hb4.size;go_wp2_with (at_builtin;refine wpList_appU rfl (.tmp 24) (.tmp 26) rfl rfl W0.heap.size E1 q1 s1 _ rfl (.inl ho3) A4 n4 c4 _ _ rfl ho4.rd (by omega) hsz hbs (Nat.le_refl _) ?_;intro A5 n5 c5 w5 hw5 hg5);have HB5:=hid ((HBR.out.trans (hb4.mono HBR.out.size)).trans (ho3.bel hg5 hbs));have HO5:=hid hw5;clear ho4 hb4 ho3 hg5 hbs hsz hw5;go_roundw
  case rel=>exact⟨k+1,n5,c5,A5,by omega,by go_num,rfl,by rw[HTK.out,List.flatMap_append,← List.append_assoc];simpa using HO5.out,HB5.out⟩
  simp[intOf];omega
 have hlti:¬ (k:Int) < (n1:Int):=by omega
 have hke:P.take k=P:=List.take_of_length_le (by have:=HLL.out;omega);rw[hke] at HO;clear hke;have m1:=HBX.out wr HB.out 1 _ rfl;have hwx:=bl1 wr (.cells #[.int .i64 (n2:Int)] 3);have HOR:=hid (HO.out.below rfl hwx);have HBR:=hid (HB.out.trans (hwx.mono HB.out.size));have HC3:=hid (puti_row (zs:=[(n2:Int)]) HOR.out HBR.out.size (ownV_lit wr 3 1 W0.heap.size #[.int .i64 (n2:Int)] 1 rfl HB.out.size (by unfold maxLen;omega)) (by decide) (by intro z hz;simp only[List.mem_cons,List.not_mem_nil,or_false] at hz;subst hz;unfold In64;have:=HNN.out;omega) (by have:=HLN.out;omega) (by simp));obtain⟨R2,hR⟩:∃ R,R=R1++P.flatMap (fun y:Pq=>partE (coreK y))++[(n2:Int)].flatMap Num.enc:=⟨_,rfl⟩;rw[← hR] at HC3;have HE2:=hid hR;have HR2:Hid (R2.length≤1200):=hid (by
  have h1:=HO.out.len;have h2:=HLN.out;have h3:=enc_few (n2:Int) (by unfold In64;have:=HNN.out;omega);rw[hR];simp only[List.flatMap_cons,List.flatMap_nil,List.append_nil,List.length_append] at h1 ⊢;omega)
 clear hR hwx;go_wp2_with (go_at_call 54;refine HC3.out.mono ?_;rintro e w3⟨D2,r2,s2,rfl,ho3,hg3⟩;have m1:=HBX.out w3 (HBR.out.trans (HOR.out.bel hg3 HBR.out.size)) 1 _ rfl);have HB2:=hid (HBR.out.trans (HOR.out.bel hg3 HBR.out.size));have HO2:=hid ho3;clear ho3 hg3 HC3 HOR HBR HO HB HWR HLN m1;go_loopw [3,7,38] (fun o _ q wr=>∃(k n' c':Nat) (A':Option Addr),k≤n2∧q=.int .i64 k∧o=.slice A' n' c'∧Own wr W0.heap.size A' n' c' (R2++(C.take k).flatMap chanE)∧Below W0.heap.size W0 wr) (fun _ _ q _=>n2 - (intOf q).toNat)
 case atStart=>exact⟨0,r2,s2,D2,by omega,rfl,rfl,by simpa using HO2.out,HB2.out⟩
 obtain⟨k,q1,s1,E1,hk,rfl,rfl,ho,hb⟩:=hrel;have HO:=hid ho;have HB:=hid hb;have HWR:=hid (HW0.out.trans (hb.mono HW0.out.size));clear ho hb HB2 HO2;have HLN:Hid (q1≤1900):=hid (by
  have h1:=HO.out.len;have h2:=HR2.out;have h4:=flat_few chanE 54 (C.take k) fun q hq=>(by obtain⟨i,hi⟩:=List.getElem?_of_mem (List.mem_of_mem_take hq);exact chanE_few (HCI.out i q hi));have h5:(C.take k).length≤8:=by rw[List.length_take];have:=HNN.out;omega
  simp only[List.length_append] at h1;omega)
 by_cases hlt:k < n2
 ·have hlti:(k:Int) < (n2:Int):=by omega
  have hnn:=HNN.out;obtain⟨ad,x,rfl,had,hx,d0,dk⟩:=(HCC.out.on HWR.out).at_ cc_len (by omega) hlt;have HXM:=hid (List.mem_of_getElem? hx);have HXK:=hid hx;have HTK:Hid (C.take (k+1)=C.take k++[x]):=hid (by rw[List.take_add_one,hx];rfl);have d0:=d0 _ rfl;have d1:=dk 1 _ (by omega) rfl;have d2:=dk 2 _ (by omega) rfl;have d3:=dk 3 _ (by omega) rfl;have d4:=dk 4 _ (by omega) rfl;have d5:=dk 5 _ (by omega) rfl;have hwx:=bl1 wr (.cells #[.int .i64 x.from_,.int .i64 x.to_,.bool x.queue,.int .i64 x.cap,.int .u32 x.max,.int .i64 x.late] 63);have HPOS:=hid (chanE_pos x);have HFW:=hid (chanE_few (HCI.out k x hx));have HC2:=hid (wchan_any x (wr.alloc (.cells #[.int .i64 x.from_,.int .i64 x.to_,.bool x.queue,.int .i64 x.cap,.int .u32 x.max,.int .i64 x.late] 63)) (HCI.out k x hx));have HOR:=hid (HO.out.below rfl hwx);have HBR:=hid (HB.out.trans (hwx.mono HB.out.size))
  try dsimp only at d0 d1 d2 d3 d4 d5
  clear dk hx had hwx HO;go_wp2_with fail;refine HC2.out.mono ?_;rintro e w2⟨A4,n4,c4,rfl,ho4,hb4⟩;have ho3:=HOR.out.below rfl hb4;have hl4:=ho4.len;have hp4:=HPOS.out;have hsz:q1+n4≤140737488351232:=by
   have:=HLN.out;have:=HFW.out;omega
  have hbs:W0.heap.size≤w2.heap.size:=Nat.le_trans HBR.out.size hb4.size;go_wp2_with (at_builtin;refine wpList_appU rfl (.tmp 42) (.tmp 44) rfl rfl W0.heap.size E1 q1 s1 _ rfl (.inl ho3) A4 n4 c4 _ _ rfl ho4.rd (by omega) hsz hbs (Nat.le_refl _) ?_;intro A5 n5 c5 w5 hw5 hg5);have HB5:=hid ((HBR.out.trans (hb4.mono HBR.out.size)).trans (ho3.bel hg5 hbs));have HO5:=hid hw5;clear ho4 hb4 ho3 hg5 hbs hsz hw5;go_roundw
  case rel=>exact⟨k+1,n5,c5,A5,by omega,by go_num,rfl,by rw[HTK.out,List.flatMap_append,← List.append_assoc];simpa using HO5.out,HB5.out⟩
  simp[intOf];omega
 have hlti:¬ (k:Int) < (n2:Int):=by omega
 have hke:C.take k=C:=List.take_of_length_le (by have:=HLL.out;omega);rw[hke] at HO;clear hke;have m2:=HBX.out wr HB.out 2 _ rfl;have hwx:=bl1 wr (.cells #[.int .i64 (n3:Int)] 3);have HOR:=hid (HO.out.below rfl hwx);have HBR:=hid (HB.out.trans (hwx.mono HB.out.size));have HC3:=hid (puti_row (zs:=[(n3:Int)]) HOR.out HBR.out.size (ownV_lit wr 3 1 W0.heap.size #[.int .i64 (n3:Int)] 1 rfl HB.out.size (by unfold maxLen;omega)) (by decide) (by intro z hz;simp only[List.mem_cons,List.not_mem_nil,or_false] at hz;subst hz;unfold In64;have:=HNN.out;omega) (by have:=HLN.out;omega) (by simp));obtain⟨R3,hR⟩:∃ R,R=R2++C.flatMap chanE++[(n3:Int)].flatMap Num.enc:=⟨_,rfl⟩;rw[← hR] at HC3;have HE3:=hid hR;have HR3:Hid (R3.length≤2000):=hid (by
  have h1:=HO.out.len;have h2:=HLN.out;have h3:=enc_few (n3:Int) (by unfold In64;have:=HNN.out;omega);rw[hR];simp only[List.flatMap_cons,List.flatMap_nil,List.append_nil,List.length_append] at h1 ⊢;omega)
 clear hR hwx;go_wp2_with (go_at_call 54;refine HC3.out.mono ?_;rintro e w3⟨D3,r3,s3,rfl,ho3,hg3⟩;have m2:=HBX.out w3 (HBR.out.trans (HOR.out.bel hg3 HBR.out.size)) 2 _ rfl);have HB3:=hid (HBR.out.trans (HOR.out.bel hg3 HBR.out.size));have HO3:=hid ho3;clear ho3 hg3 HC3 HOR HBR HO HB HWR HLN m2;go_loopw [3,9,56] (fun o _ q wr=>∃(k n' c':Nat) (A':Option Addr),k≤n3∧q=.int .i64 k∧o=.slice A' n' c'∧Own wr W0.heap.size A' n' c' (R3++(T.take k).flatMap (fun t:NdT=>tabE t.l))∧Below W0.heap.size W0 wr) (fun _ _ q _=>n3 - (intOf q).toNat)
 case atStart=>exact⟨0,r3,s3,D3,by omega,rfl,rfl,by simpa using HO3.out,HB3.out⟩
 obtain⟨k,q1,s1,E1,hk,rfl,rfl,ho,hb⟩:=hrel;have HO:=hid ho;have HB:=hid hb;have HWR:=hid (HW0.out.trans (hb.mono HW0.out.size));clear ho hb HB3 HO3;have HLN:Hid (q1≤100000):=hid (by
  have h1:=HO.out.len;have h2:=HR3.out;have h4:=flat_few (fun t:NdT=>tabE t.l) 28089 (T.take k) fun q hq=>tabE_few (HTI.out q (List.mem_of_mem_take hq)).1.bd (by have:=(HTI.out q (List.mem_of_mem_take hq)).1.len;have:=(HTI.out q (List.mem_of_mem_take hq)).2;omega);have h5:(T.take k).length≤3:=by rw[List.length_take];have:=HNN.out;omega
  simp only[List.length_append] at h1;omega)
 by_cases hlt:k < n3
 ·have hlti:(k:Int) < (n3:Int):=by omega
  have hnn:=HNN.out;obtain⟨ad,x,rfl,had,hx,d0,dk⟩:=(HTB.out.on HWR.out).at_ tcn_len (by omega) hlt;have HXM:=hid (List.mem_of_getElem? hx);have HXK:=hid hx;have HTK:Hid (T.take (k+1)=T.take k++[x]):=hid (by rw[List.take_add_one,hx];rfl);have d0:wr.cell? (ad.add k)=some (.slice x.A x.n x.c):=by have h:=d0 _ rfl;rwa [Nat.mul_one] at h
  have hwx:=Below.refl wr.heap.size wr;have HPOS:=hid (tabE_pos x.l);have HFW:=hid (tabE_few (HTI.out x HXM.out).1.bd (by have:=(HTI.out x HXM.out).1.len;have:=(HTI.out x HXM.out).2;omega));have HC2:=hid (wtab_any x.A x.n x.c x.l wr ((HTI.out x HXM.out).1.on HWR.out) (HTI.out x HXM.out).2);have HOR:=hid (HO.out.below rfl hwx);have HBR:=hid (HB.out.trans (hwx.mono HB.out.size))
  try dsimp only at d0
  clear dk hx had hwx HO;go_wp2_with fail;refine HC2.out.mono ?_;rintro e w2⟨A4,n4,c4,rfl,ho4,hb4⟩;have ho3:=HOR.out.below rfl hb4;have hl4:=ho4.len;have hp4:=HPOS.out;have hsz:q1+n4≤140737488351232:=by
   have:=HLN.out;have:=HFW.out;omega
  have hbs:W0.heap.size≤w2.heap.size:=Nat.le_trans HBR.out.size hb4.size;go_wp2_with (at_builtin;refine wpList_appU rfl (.tmp 60) (.tmp 62) rfl rfl W0.heap.size E1 q1 s1 _ rfl (.inl ho3) A4 n4 c4 _ _ rfl ho4.rd (by omega) hsz hbs (Nat.le_refl _) ?_;intro A5 n5 c5 w5 hw5 hg5);have HB5:=hid ((HBR.out.trans (hb4.mono HBR.out.size)).trans (ho3.bel hg5 hbs));have HO5:=hid hw5;clear ho4 hb4 ho3 hg5 hbs hsz hw5;go_roundw
  case rel=>exact⟨k+1,n5,c5,A5,by omega,by go_num,rfl,by rw[HTK.out,List.flatMap_append,← List.append_assoc];simpa using HO5.out,HB5.out⟩
  simp[intOf];omega
 have hlti:¬ (k:Int) < (n3:Int):=by omega
 have hke:T.take k=T:=List.take_of_length_le (by have:=HLL.out;omega);rw[hke] at HO;clear hke;have HE:Hid (Own wr w.heap.size E1 q1 s1 (horaB++confE (coreX ⟨A1,A2,A3,n1,n2,n3,c1,c2,c3,P,C,T⟩))):=hid (by
  have h:=HO.out.weak (Nat.le_of_lt HGL.out);rw[HE3.out,HE2.out,HE1.out] at h;have e:horaB++[(n1:Int)].flatMap Num.enc++P.flatMap (fun y:Pq=>partE (coreK y))++[(n2:Int)].flatMap Num.enc++C.flatMap chanE++[(n3:Int)].flatMap Num.enc++T.flatMap (fun t:NdT=>tabE t.l)=horaB++confE (coreX ⟨A1,A2,A3,n1,n2,n3,c1,c2,c3,P,C,T⟩):=by
   have l1:=HLL.out.1;have l2:=HLL.out.2.1;have l3:=HLL.out.2.2;unfold confE coreX;dsimp only;rw[List.length_map,List.length_map,l1,l2,l3,List.flatMap_map,List.flatMap_map];simp only[List.flatMap_cons,List.flatMap_nil,List.append_nil,List.append_assoc]
  rw[e] at h;exact h)
 go_wp2_with fail;go_ret;exact⟨E1,q1,s1,rfl,HE.out,HWR.out⟩
end Go.Proofs.YtdkngfdnfekgfaaGreat
namespace Go.Proofs.YtdkngfdnfekgfaaGreat
open Go.RowKit
def Sgn(n:Int)(b:Bool)(w:World)(e:Ending)(w':World):Prop:=e=.returned (.tuple #[.int .i64 n,.bool b])∧w=w'
theorem signed_pos(u:Nat)(h':u < 9223372036854775808)(w:World):
  Calls Tryz.prog 106 #[.int .u64 (u:Int),.bool false] w (Sgn u true w):=by
 have hd:decide ((u:Int) < 9223372036854775808)=true:=decide_eq_true (by omega);have hi:(u:Int)≤9223372036854775807:=by omega
 clear h';go_enter Tryz.func106,Tryz.ntmps106;go_wp2;go_ret2;exact⟨rfl,rfl⟩
theorem signed_big(u:Nat)(h:9223372036854775808≤u)(h2:u < 18446744073709551616)(w:World):
  Calls Tryz.prog 106 #[.int .u64 (u:Int),.bool false] w (Sgn 0 false w):=by
 have hd:decide ((u:Int) < 9223372036854775808)=false:=decide_eq_false (by omega);clear h h2;go_enter Tryz.func106,Tryz.ntmps106;go_wp2;go_ret2;exact⟨rfl,rfl⟩
theorem signed_zero(w:World):
  Calls Tryz.prog 106 #[.int .u64 0,.bool true] w (Sgn 0 false w):=by
 go_enter Tryz.func106,Tryz.ntmps106;go_wp2;go_ret2;exact⟨rfl,rfl⟩
theorem signed_less(u:Nat)(h:9223372036854775808 < u)(h2:u < 18446744073709551616)(w:World):
  Calls Tryz.prog 106 #[.int .u64 (u:Int),.bool true] w (Sgn 0 false w):=by
 go_enter Tryz.func106,Tryz.ntmps106;go_wp2;go_ret2;exact⟨rfl,rfl⟩
theorem wrap64_eq(x:Int):wrap64 x=(x+9223372036854775808) % 18446744073709551616 - 9223372036854775808:=by
 unfold wrap64;omega
theorem ret_sgn{a b:Int}(h:a=b):Ending.returned (.tuple #[.int .i64 a,.bool true])=.returned (.tuple #[.int .i64 b,.bool true]):=by rw[h]
theorem signed_neg(u:Nat)(h0:0 < u)(h:u≤9223372036854775808)(w:World):
  Calls Tryz.prog 106 #[.int .u64 (u:Int),.bool true] w (Sgn (-(u:Int)) true w):=by
 go_enter Tryz.func106,Tryz.ntmps106;go_wp2;go_ret2;exact⟨ret_sgn (by rw[wrap64_eq,IntKind.wrap_u64];omega),rfl⟩
def Got(l:List UInt8)(w:World)(e:Ending)(w':World):Prop :=
 e=.returned (.tuple #[.int .i64 (Num.dec l).1,.int .i64 ((Num.dec l).2:Int)])∧Below w.heap.size w w'
theorem got_no(l:List UInt8)(w w':World)(h:Num.dec l=(0,0))(hb:Below w.heap.size w w'):Got l w (.returned (.tuple #[.int .i64 0,.int .i64 0])) w':=by
 unfold Got;rw[h];exact⟨rfl,hb⟩
theorem got_yes(x:UInt8)(r:List UInt8)(w w':World)(z:Int)(k:Nat)(h:Num.ok x r)(hz:z=Num.num x r)(hk:k=x.toNat % 128)(hb:Below w.heap.size w w')(K:Int)(hK:K=(k:Int)+1):Got (x::r) w (.returned (.tuple #[.int .i64 z,.int .i64 K])) w':=by
 subst hz;subst hk;subst hK;unfold Got;rw[Num.dec_yes h];exact⟨rfl,hb⟩
theorem low7_fin:∀ n:Fin 256,wrap64 (bits .andNot .u8 (n.val:Int) 128)=((n.val % 128:Nat):Int)∧(bits .and .u8 (n.val:Int) 128 != 0)=decide (128≤n.val):=by decide +kernel
theorem low7(x:UInt8):wrap64 (bits .andNot .u8 (x.toNat:Int) 128)=((x.toNat % 128:Nat):Int):=(low7_fin ⟨x.toNat,x.toBitVec.isLt⟩).1
theorem high1(x:UInt8):(bits .and .u8 (x.toNat:Int) 128 != 0)=decide (128≤x.toNat):=(low7_fin ⟨x.toNat,x.toBitVec.isLt⟩).2
theorem add0(ad:Addr):ad.add 0=ad:=by simp[Addr.add]
theorem rd_behind{w:World}{B n:Nat}{ad:Addr}{x:UInt8}{r:List UInt8}(h:Rd w B (some ad) n (x::r))(k:Nat)(hk:k < n):Rd w B (some (ad.add 1)) k (r.take k):=by
 have hl:=h.1;simp at hl;have h1:=h.back 1 (n - 1) (by omega);exact h1.front k (by omega)
theorem rd_none{w:World}{B k:Nat}{A:Option Addr}{r:List UInt8}(h:k=0):Rd w B A k (r.take k):=by
 subst h;exact⟨rfl,fun h=>absurd h (by omega)⟩
theorem got_pos(x:UInt8)(r:List UInt8)(w w':World)(u k:Nat)(hu:u=Num.val (r.take k))(hw:Num.wid u=k)(hk:k=x.toNat % 128)(hm:false=decide (128≤x.toNat))(hk8:k≤8)(hkr:k≤r.length)(hb:u < 9223372036854775808)
  (hbel:Below w.heap.size w w') (K:Int) (hK:K=(k:Int)+1):Got (x::r) w (.returned (.tuple #[.int .i64 (u:Int),.int .i64 K])) w':=by
 have hx:¬ 128≤x.toNat:=of_decide_eq_false hm.symm;have hn:Num.num x r=(u:Int):=by unfold Num.num;rw[if_neg hx,← hk,← hu]
 refine got_yes x r w w' _ k ?_ hn.symm hk hbel K hK;unfold Num.ok;rw[hn,← hk,← hu];exact⟨hk8,hkr,hw,by omega,by omega,fun h=>absurd h hx⟩
theorem got_neg(x:UInt8)(r:List UInt8)(w w':World)(u k:Nat)(hu:u=Num.val (r.take k))(hw:Num.wid u=k)(hk:k=x.toNat % 128)(hm:true=decide (128≤x.toNat))(hk8:k≤8)(hkr:k≤r.length)(h0:0 < u)(hb:u≤9223372036854775808)
  (hbel:Below w.heap.size w w') (K:Int) (hK:K=(k:Int)+1):Got (x::r) w (.returned (.tuple #[.int .i64 (-(u:Int)),.int .i64 K])) w':=by
 have hx:128≤x.toNat:=of_decide_eq_true hm.symm;have hn:Num.num x r=-(u:Int):=by unfold Num.num;rw[if_pos hx,← hk,← hu]
 refine got_yes x r w w' _ k ?_ hn.symm hk hbel K hK;unfold Num.ok;rw[hn,← hk,← hu];exact⟨hk8,hkr,hw,by omega,by omega,fun _=>by omega⟩
theorem dec_big(x:UInt8)(r:List UInt8)(u k:Nat)(hu:u=Num.val (r.take k))(hk:k=x.toNat % 128)(hm:false=decide (128≤x.toNat))(hb:9223372036854775808≤u):Num.dec (x::r)=(0,0):=by
 have hx:¬ 128≤x.toNat:=of_decide_eq_false hm.symm;have hn:Num.num x r=(u:Int):=by unfold Num.num;rw[if_neg hx,← hk,← hu]
 refine Num.dec_no fun h=>?_;have:=h.2.2.2.2.1;omega
theorem dec_less(x:UInt8)(r:List UInt8)(u k:Nat)(hu:u=Num.val (r.take k))(hk:k=x.toNat % 128)(hm:true=decide (128≤x.toNat))(hb:u=0∨9223372036854775808 < u):Num.dec (x::r)=(0,0):=by
 have hx:128≤x.toNat:=of_decide_eq_true hm.symm;have hn:Num.num x r=-(u:Int):=by unfold Num.num;rw[if_pos hx,← hk,← hu]
 refine Num.dec_no fun h=>?_;have:=h.2.2.2.1;have:=h.2.2.2.2.2 hx;omega
theorem u64_of_val(l:List UInt8)(k:Nat)(h:k≤8):Num.val (l.take k) < 18446744073709551616:=by
 have h1:=Num.val_lt (l.take k);have h2:(256:Nat) ^ (l.take k).length≤256 ^ 8:=Nat.pow_le_pow_right (by omega) (by rw[List.length_take];omega);have h3:(256:Nat) ^ 8=18446744073709551616:=by decide
 omega
theorem get_cons(ad:Addr)(n cap:Nat)(x:UInt8)(r:List UInt8)(w:World)(h:Rd w w.heap.size (some ad) n (x::r))(hn:n≤140737488355328)(hcap:n≤cap):
  Calls Tryz.prog 85 #[.slice (some ad) n cap] w (Got (x::r) w):=by
 have hl:n=r.length+1:=by have:=h.1;simpa using this.symm
 have HL:=hid hl;have hn0:0 < n:=by omega
 obtain⟨ad',x',e1,hbk,e2,hc⟩:=h.at_ (k:=0) hn0;injection e1 with e1;subst e1;simp only[List.getElem?_cons_zero,Option.some.injEq] at e2;subst e2;have hc0:w.cell? ad=some (.int .u8 (x.toNat:Int)):=by rwa [add0] at hc
 clear hc hl hbk;obtain⟨k,hk⟩:∃ k,k=x.toNat % 128:=⟨_,rfl⟩;obtain⟨m,hm⟩:∃ m,m=decide (128≤x.toNat):=⟨_,rfl⟩;have LOW:=hid (show wrap64 (bits .andNot .u8 (x.toNat:Int) 128)=(k:Int) by rw[hk];exact low7 x);have HI:=hid (show (bits .and .u8 (x.toNat:Int) 128 != 0)=m by rw[hm];exact high1 x);have K:=hid hk;have M:=hid hm;clear hk hm;by_cases hk8:k≤8
 ·by_cases hkn:k < n
  ·obtain⟨u,hu⟩:∃ u,u=Num.val (r.take k):=⟨_,rfl⟩;have hu64:u < 18446744073709551616:=by rw[hu];exact u64_of_val r k hk8
   have U:=hid hu;clear hu;by_cases hcap1:cap=1
   ·subst hcap1;have HR:=rd_none (A:=some ad) (w:=w) (B:=w.heap.size) (r:=r) (k:=k) (by omega);go_enter Tryz.func85,Tryz.ntmps85;go_wp2;go_quiet (fail);rw[LOW.out,HI.out];go_wp2_with fail;refine(read_any _ k _ (r.take k) w.heap.size _ (HR.drewN _) hk8).mono ?_;rw[← U.out];rintro e w'⟨rfl,rfl⟩;go_wp2_with fail;refine(width_any u hu64 _).mono ?_;rintro e w'⟨rfl,rfl⟩;by_cases hwk:Num.wid u=k
    ·have NW:=hid hwk;go_wp2_with fail;clear hwk;cases m with
     | false =>
      by_cases hbig:u < 9223372036854775808
      ·refine(signed_pos u hbig _).mono ?_;rintro e w'⟨rfl,rfl⟩;have HB:=hid hbig;clear hbig;go_wp2_with fail;go_ret2;exact got_pos x r w _ u k U.out NW.out K.out M.out hk8 (by have:=HL.out;omega) HB.out (below_drewN (Below.refl _ _) _) _ (by omega)
      refine(signed_big u (by omega) hu64 _).mono ?_;rintro e w'⟨rfl,rfl⟩;have HB:=hid hbig;clear hbig;go_wp2_with fail;go_ret2;exact got_no _ _ _ (dec_big x r u k U.out K.out M.out (by have:=HB.out;omega)) (below_drewN (Below.refl _ _) _)
     | true =>
      by_cases h0:u=0
      ·have UZ:=hid h0;rw[show ((u:Nat):Int)=0 by omega];clear h0;refine(signed_zero _).mono ?_;rintro e w'⟨rfl,rfl⟩;go_wp2_with fail;go_ret2;exact got_no _ _ _ (dec_less x r u k U.out K.out M.out (.inl UZ.out)) (below_drewN (Below.refl _ _) _)
      by_cases hbig:u≤9223372036854775808
      ·refine(signed_neg u (by omega) hbig _).mono ?_;rintro e w'⟨rfl,rfl⟩;have HB:=hid hbig;clear hbig;go_wp2_with fail;go_ret2;exact got_neg x r w _ u k U.out NW.out K.out M.out hk8 (by have:=HL.out;omega) (by omega) HB.out (below_drewN (Below.refl _ _) _) _ (by omega)
      refine(signed_less u (by omega) hu64 _).mono ?_;rintro e w'⟨rfl,rfl⟩;have HB:=hid hbig;clear hbig;go_wp2_with fail;go_ret2;exact got_no _ _ _ (dec_less x r u k U.out K.out M.out (.inr (by have:=HB.out;omega))) (below_drewN (Below.refl _ _) _)
    have hno:=hid (Num.dec_no (x:=x) (r:=r) fun h=>hwk (by have h3:=h.2.2.1;rw[← K.out,← U.out] at h3;exact h3));go_wp2_with fail;go_ret2;exact got_no _ _ _ hno.out (below_drewN (Below.refl _ _) _)
   have HR:=rd_behind h k hkn;rw[show ad.add 1=⟨ad.block,ad.off+1,none⟩ from by simp[Addr.add]] at HR;go_enter Tryz.func85,Tryz.ntmps85;go_wp2;go_quiet (fail);rw[LOW.out,HI.out];go_wp2_with fail;refine(read_any _ k _ (r.take k) w.heap.size _ (HR.drewN _) hk8).mono ?_;rw[← U.out];rintro e w'⟨rfl,rfl⟩;go_wp2_with fail;refine(width_any u hu64 _).mono ?_;rintro e w'⟨rfl,rfl⟩;by_cases hwk:Num.wid u=k
   ·have NW:=hid hwk;go_wp2_with fail;clear hwk;cases m with
    | false =>
     by_cases hbig:u < 9223372036854775808
     ·refine(signed_pos u hbig _).mono ?_;rintro e w'⟨rfl,rfl⟩;have HB:=hid hbig;clear hbig;go_wp2_with fail;go_ret2;exact got_pos x r w _ u k U.out NW.out K.out M.out hk8 (by have:=HL.out;omega) HB.out (below_drewN (Below.refl _ _) _) _ (by omega)
     refine(signed_big u (by omega) hu64 _).mono ?_;rintro e w'⟨rfl,rfl⟩;have HB:=hid hbig;clear hbig;go_wp2_with fail;go_ret2;exact got_no _ _ _ (dec_big x r u k U.out K.out M.out (by have:=HB.out;omega)) (below_drewN (Below.refl _ _) _)
    | true =>
     by_cases h0:u=0
     ·have UZ:=hid h0;rw[show ((u:Nat):Int)=0 by omega];clear h0;refine(signed_zero _).mono ?_;rintro e w'⟨rfl,rfl⟩;go_wp2_with fail;go_ret2;exact got_no _ _ _ (dec_less x r u k U.out K.out M.out (.inl UZ.out)) (below_drewN (Below.refl _ _) _)
     by_cases hbig:u≤9223372036854775808
     ·refine(signed_neg u (by omega) hbig _).mono ?_;rintro e w'⟨rfl,rfl⟩;have HB:=hid hbig;clear hbig;go_wp2_with fail;go_ret2;exact got_neg x r w _ u k U.out NW.out K.out M.out hk8 (by have:=HL.out;omega) (by omega) HB.out (below_drewN (Below.refl _ _) _) _ (by omega)
     refine(signed_less u (by omega) hu64 _).mono ?_;rintro e w'⟨rfl,rfl⟩;have HB:=hid hbig;clear hbig;go_wp2_with fail;go_ret2;exact got_no _ _ _ (dec_less x r u k U.out K.out M.out (.inr (by have:=HB.out;omega))) (below_drewN (Below.refl _ _) _)
   have hno:=hid (Num.dec_no (x:=x) (r:=r) fun h=>hwk (by have h3:=h.2.2.1;rw[← K.out,← U.out] at h3;exact h3));go_wp2_with fail;go_ret2;exact got_no _ _ _ hno.out (below_drewN (Below.refl _ _) _)
  have hno:=hid (Num.dec_no (x:=x) (r:=r) fun h=>by have:=h.2.1;have:=HL.out;have:=K.out;omega);go_enter Tryz.func85,Tryz.ntmps85;go_wp2;go_quiet (fail);rw[LOW.out,HI.out];go_wp2;go_ret2;exact got_no _ _ _ hno.out (below_drewN (Below.refl _ _) _)
 have hno:=hid (Num.dec_no (x:=x) (r:=r) fun h=>by have:=h.1;have:=K.out;omega);go_enter Tryz.func85,Tryz.ntmps85;go_wp2;go_quiet (fail);rw[LOW.out,HI.out];go_wp2;go_ret2;exact got_no _ _ _ hno.out (below_drewN (Below.refl _ _) _)
theorem str_toList(l:List UInt8):(str l).toList=l:=by
 rw[ByteArray.toList_eq];rfl
def rz(m:Bool)(u:Nat):Int:=if m then wrap64 (-wrap64 (u:Int)) else wrap64 (u:Int)
theorem rz_true(u:Nat):rz true u=wrap64 (-wrap64 (u:Int)):=by unfold rz;exact if_pos rfl
theorem rz_false(u:Nat):rz false u=wrap64 (u:Int):=by unfold rz;exact if_neg (by decide)
theorem rz_bd(m:Bool)(u:Nat):-9223372036854775808≤rz m u∧rz m u≤9223372036854775807:=by
 unfold rz;split <;> simp only[wrap64_eq] <;> omega
theorem rz_ok(x:UInt8)(r:List UInt8)(u k:Nat)(m:Bool)(hu:u=Num.val (r.take k))(hk:k=x.toNat % 128)(hm:m=decide (128≤x.toNat))(hk8:k≤8)(hkr:k≤r.length)(h:Num.enc (rz m u)=x::r.take k):Num.ok x r∧rz m u=Num.num x r:=by
 have hb:=rz_bd m u;have hx:x.toNat < 256:=x.toBitVec.isLt;have hw:=Num.wid_int _ hb.1 hb.2;unfold Num.enc at h;injection h with h1 h2;have e1:(rz m u).natAbs=u:=by have:=congrArg Num.val h2;rw[Num.val_be] at this;omega
 have e2:Num.wid u=k:=by have:=congrArg List.length h2;rw[e1,Num.take_len hkr] at this;exact this
 rw[e1,e2] at h1;have e3:Num.sgn (rz m u)+k=x.toNat:=by
  rw[← h1];have:Num.sgn (rz m u)≤128:=by unfold Num.sgn;split <;> omega
  simp;omega
 have e4:rz m u=Num.num x r:=by
  unfold Num.num;rw[← hk,← hu];unfold Num.sgn at e3;split at e3 <;> split <;> omega
 refine⟨?_,e4⟩;unfold Num.ok;rw[← e4,← hk,← hu];refine⟨hk8,hkr,e2,hb.1,hb.2,fun h=>?_⟩;unfold Num.sgn at e3;split at e3 <;> omega
theorem rz_yes(x:UInt8)(r:List UInt8)(u k:Nat)(m:Bool)(hu:u=Num.val (r.take k))(hk:k=x.toNat % 128)(hm:m=decide (128≤x.toNat))(h:Num.ok x r):Num.enc (rz m u)=x::r.take k:=by
 have h2:=Num.ok_enc h;obtain⟨_,_,_,h4,h5,h6⟩:=h;have:rz m u=Num.num x r:=by
  unfold Num.num at *;rw[← hk,← hu] at *;unfold rz;rw[hm];by_cases hx:128≤x.toNat
  ·rw[if_pos hx] at *;rw[if_pos (decide_eq_true hx)];simp only[wrap64_eq];omega
  rw[if_neg hx] at *;rw[if_neg (by simp[hx])];simp only[wrap64_eq];omega
 rw[this,h2,hk]
theorem low127_fin:∀ n:Fin 256,wrap64 (bits .and .u8 (n.val:Int) 127)=((n.val % 128:Nat):Int):=by decide +kernel
theorem low127(x:UInt8):wrap64 (bits .and .u8 (x.toNat:Int) 127)=((x.toNat % 128:Nat):Int):=low127_fin ⟨x.toNat,x.toBitVec.isLt⟩
def RgV(ad:Addr)(n cap k:Nat)(x:UInt8)(r:List UInt8)(z:Int)(q:Bool)(j:Nat)(v:Value)(w:World):Prop :=
 match j with
 | 0=>v=.int .i64 z
 | 1=>∃ A c,v=.slice A (0+1+Num.wid z.natAbs) c∧Rd w w.heap.size A (0+1+Num.wid z.natAbs) ([]++Num.enc z)
 | 2=>v=.string (str (Num.enc z))
 | 3=>v=.slice (some ad) n cap
 | 4=>v=.int .i64 (k:Int)
 | 5=>v=.int .i64 ((k:Int)+1)
 | 6=>v=.slice (some ad) (k+1) cap
 | 7=>v=.string (str (x::r.take k))
 | 8=>v=.bool q
 | _=>True
theorem RgV.keep{ad:Addr}{n cap k:Nat}{x:UInt8}{r:List UInt8}{z:Int}{q:Bool}{w w':World}(hb:Below w.heap.size w w')(j:Nat)(v:Value)(h:RgV ad n cap k x r z q j v w):RgV ad n cap k x r z q j v w':=by
 unfold RgV at h ⊢;split at h <;> first | exact h | skip
 all_goals
  obtain⟨A,c,e,hr⟩:=h;exact⟨A,c,e,(hr.below hb).more hb.size⟩
theorem rget_cons(ad:Addr)(n cap:Nat)(x:UInt8)(r:List UInt8)(w:World)(h:Rd w w.heap.size (some ad) n (x::r))(hn:n≤140737488355328)(hcap:n≤cap):
  Calls Tryz.prog 75 #[.slice (some ad) n cap] w (Got (x::r) w):=by
 have hl:n=r.length+1:=by have:=h.1;simpa using this.symm
 have HL:=hid hl;have hn0:0 < n:=by omega
 obtain⟨ad',x',e1,hbk,e2,hc⟩:=h.at_ (k:=0) hn0;injection e1 with e1;subst e1;simp only[List.getElem?_cons_zero,Option.some.injEq] at e2;subst e2;have hc0:w.cell? ad=some (.int .u8 (x.toNat:Int)):=by rwa [add0] at hc
 clear hc hl hbk;obtain⟨k,hk⟩:∃ k,k=x.toNat % 128:=⟨_,rfl⟩;have LOW:wrap64 (bits .and .u8 (x.toNat:Int) 127)=(k:Int):=by rw[hk];exact low127 x
 have K:=hid hk;clear hk;by_cases hk8:k≤8
 ·by_cases hkn:k < n
  ·obtain⟨u,hu⟩:∃ u,u=Num.val (r.take k):=⟨_,rfl⟩;have U:=hid hu;clear hu;go_enter Tryz.func75,Tryz.ntmps75;go_wp2_with fail;go_loop [5,6] (fun t i=>∃ j:Nat,1≤j∧j≤k+1∧i=.int .i64 j∧t=.int .u64 (Num.val (r.take (j - 1)):Int)) (fun _ i=>k+1 - (intOf i).toNat)
   case atStart=>exact⟨1,Nat.le_refl _,by omega,rfl,rfl⟩
   obtain⟨j,hj1,hj,rfl,rfl⟩:=hrel;by_cases hlt:j≤k
   ·obtain⟨ad2,y,e3,_,hy,hc⟩:=h.at_ (k:=j) (by omega);injection e3 with e3;subst e3;have hy2:r[j - 1]? = some y:=by rw[← hy];obtain⟨i,rfl⟩:∃ i,j=i+1:=⟨j - 1,by omega⟩;simp
    have H:=hid (show Num.val (r.take j)=Num.val (r.take (j - 1))*256+y.toNat by have:=Num.val_take r (j - 1) y hy2;rwa [Nat.sub_add_cancel hj1] at this);have hv:=val_small r (j - 1) (by omega);have H2:=hid (or_byte (Num.val (r.take (j - 1))) y hv);clear hy hy2 hv;have hjn:j < n:=by omega
    go_wp2;go_round
    case rel=>exact⟨j+1,by omega,by omega,by go_num,by rw[Nat.add_sub_cancel,H.out];exact u64_eq H2.out⟩
    simp[intOf];omega
   obtain rfl:j=k+1:=by omega
   simp only[Nat.add_sub_cancel];rw[← U.out];have hu64:u < 18446744073709551616:=by rw[U.out];exact u64_of_val r k hk8
   by_cases hm:128≤x.toNat
   ·obtain⟨z,hz⟩:∃ z,z=rz true u:=⟨_,rfl⟩;have ZW:=hid hz;have hz1:-9223372036854775808≤z:=by rw[hz];exact(rz_bd _ _).1
    have hz2:z≤9223372036854775807:=by rw[hz];exact(rz_bd _ _).2
    have hze:wrap64 (-wrap64 (u:Int))=z:=by rw[hz,rz_true]
    clear hz;have hf:Rd w w.heap.size (some ad) (k+1) (x::r.take k):=by have:=h.front (k+1) hkn;simpa using this
    obtain⟨q,hq'⟩:∃ q,q=!(decide (Num.enc z=x::r.take k)):=⟨_,rfl⟩;have hq:(!((str (Num.enc z)).toList == (str (x::r.take k)).toList))=q:=by rw[hq',str_toList,str_toList,Bool.eq_iff_iff];simp
    have QW:=hid hq';clear hq';have hk0:(0:Int)≤(k:Int)+1:=by omega
    have hk1:¬ ((cap:Int) < (k:Int)+1):=by omega
    go_wp2;have hwr:IntKind.i64.wrap ((k:Int)+1)=(k:Int)+1:=IntWalk.i64_in _ (by omega);refine Reg.region (by kernel_rfl) (by kernel_rfl) (RgV ad n cap k x r z q) (fun w'=>Below w.heap.size w w') ((Below.refl _ _).drew) (Reg.steps_of ?_) ?_
    ·refine⟨?_,?_,?_,?_,?_,?_,?_,?_,?_,trivial⟩<;>intro a w1 E D hW
     ·have e7:a.eval (.tmp 7)=.int .i64 z:=E 7 rfl;exact Reg.val rfl (Reg.wanted_free rfl) hW (.int .i64 z) (by have c:=Reg.consts a;generalize a.eval=ρ at *;simp[go_sem,c.1,c.2,e7]) rfl
     ·have d0:a.eval (.tmp 46)=.int .i64 z:=D 0 rfl;refine Reg.call rfl (Reg.wanted_free rfl) 25 #[.slice none 0 0,.int .i64 z] (by have c:=Reg.consts a;generalize a.eval=ρ at *;simp[go_sem,c.1,c.2,d0]) ?_;refine(rput_any none 0 0 [] z w1 (rd_nil _ _) (by omega) hz1 hz2).mono ?_;rintro e w2⟨Az,cz,rfl,hwz,hbz⟩;exact⟨_,rfl,⟨Az,cz,rfl,hwz.rd⟩,hW.trans (hbz.mono hW.size),RgV.keep hbz⟩
     ·obtain⟨A1,c1,d1,r1⟩:∃ A c,a.eval (.tmp 47)=.slice A (0+1+Num.wid z.natAbs) c∧Rd w1 w1.heap.size A (0+1+Num.wid z.natAbs) ([]++Num.enc z):=D 1 rfl;have qq:=run_conv w1 _ _ _ c1 _ r1;rw[List.nil_append] at qq;exact Reg.val rfl (Reg.wanted_free rfl) hW (.string (str (Num.enc z))) (by have c:=Reg.consts a;generalize a.eval=ρ at *;simp[go_sem,c.1,c.2,d1,qq]) rfl
     ·have e0:a.eval (.tmp 0)=.slice (some ad) n cap:=E 0 rfl;exact Reg.val rfl (Reg.wanted_free rfl) hW (.slice (some ad) n cap) (by have c:=Reg.consts a;generalize a.eval=ρ at *;simp[go_sem,c.1,c.2,e0]) rfl
     ·have e4:a.eval (.tmp 4)=.int .i64 (k:Int):=E 4 rfl;exact Reg.val rfl (Reg.wanted_free rfl) hW (.int .i64 (k:Int)) (by have c:=Reg.consts a;generalize a.eval=ρ at *;simp[go_sem,c.1,c.2,e4]) rfl
     ·have d4:a.eval (.tmp 50)=.int .i64 (k:Int):=D 4 rfl;exact Reg.val rfl (Reg.wanted_free rfl) hW (.int .i64 ((k:Int)+1)) (by have c:=Reg.consts a;generalize a.eval=ρ at *;simp[go_sem,c.1,c.2,d4,hwr]) rfl
     ·have d3:a.eval (.tmp 49)=.slice (some ad) n cap:=D 3 rfl;have d5:a.eval (.tmp 51)=.int .i64 ((k:Int)+1):=D 5 rfl;exact Reg.val rfl (Reg.wanted_free rfl) hW (.slice (some ad) (k+1) cap) (by have c:=Reg.consts a;generalize a.eval=ρ at *;simp[go_sem,c.1,c.2,d3,d5,hk0,hk1]) rfl
     ·have d6:a.eval (.tmp 52)=.slice (some ad) (k+1) cap:=D 6 rfl;have qq:=run_conv w1 _ _ _ cap _ (hf.below hW);exact Reg.val rfl (Reg.wanted_free rfl) hW (.string (str (x::r.take k))) (by have c:=Reg.consts a;generalize a.eval=ρ at *;simp[go_sem,c.1,c.2,d6,qq]) rfl
     have d2:a.eval (.tmp 48)=.string (str (Num.enc z)):=D 2 rfl;have d7:a.eval (.tmp 53)=.string (str (x::r.take k)):=D 7 rfl;exact Reg.val rfl (Reg.wanted_free rfl) hW (.bool q) (by have c:=Reg.consts a;generalize a.eval=ρ at *;simp[go_sem,c.1,c.2,d2,d7,hq]) rfl
    intro a w1 hs hd E D hb;have d8:a.eval (.tmp 54)=.bool q:=D 8 (by decide);have e7:a.eval (.tmp 7)=.int .i64 z:=E 7 rfl;have e4:a.eval (.tmp 4)=.int .i64 (k:Int):=E 4 rfl;rw[Reg.act_lit a 58 hs,hd];simp only[List.range,List.range.loop,List.map,d8,e7,e4];clear E D d8 e7 e4 hq hze;generalize a.eval=ρ;clear a hs hd;cases q with
    | true =>
     go_wp2;go_ret2;refine got_no _ _ _ (Num.dec_no fun h=>?_) hb;have h1:=rz_yes x r u k true U.out K.out (by simp[hm]) h;have h2:=QW.out;rw[ZW.out] at h2;simp[h1] at h2
    | false =>
     go_wp2;go_ret2;have h2:=QW.out;rw[ZW.out] at h2;have h1:=rz_ok x r u k true U.out K.out (by simp[hm]) hk8 (by have:=HL.out;omega) (by simpa using h2.symm);exact got_yes x r w _ _ k h1.1 (by rw[ZW.out];exact h1.2) K.out hb _ (by omega)
   obtain⟨z,hz⟩:∃ z,z=rz false u:=⟨_,rfl⟩;have ZW:=hid hz;have hz1:-9223372036854775808≤z:=by rw[hz];exact(rz_bd _ _).1
   have hz2:z≤9223372036854775807:=by rw[hz];exact(rz_bd _ _).2
   have hze:wrap64 (u:Int)=z:=by rw[hz,rz_false]
   clear hz;have hf:Rd w w.heap.size (some ad) (k+1) (x::r.take k):=by have:=h.front (k+1) hkn;simpa using this
   obtain⟨q,hq'⟩:∃ q,q=!(decide (Num.enc z=x::r.take k)):=⟨_,rfl⟩;have hq:(!((str (Num.enc z)).toList == (str (x::r.take k)).toList))=q:=by rw[hq',str_toList,str_toList,Bool.eq_iff_iff];simp
   have QW:=hid hq';clear hq';have hk0:(0:Int)≤(k:Int)+1:=by omega
   have hk1:¬ ((cap:Int) < (k:Int)+1):=by omega
   go_wp2;have hwr:IntKind.i64.wrap ((k:Int)+1)=(k:Int)+1:=IntWalk.i64_in _ (by omega);refine Reg.region (by kernel_rfl) (by kernel_rfl) (RgV ad n cap k x r z q) (fun w'=>Below w.heap.size w w') ((Below.refl _ _).drew) (Reg.steps_of ?_) ?_
   ·refine⟨?_,?_,?_,?_,?_,?_,?_,?_,?_,trivial⟩<;>intro a w1 E D hW
    ·have e7:a.eval (.tmp 7)=.int .i64 z:=E 7 rfl;exact Reg.val rfl (Reg.wanted_free rfl) hW (.int .i64 z) (by have c:=Reg.consts a;generalize a.eval=ρ at *;simp[go_sem,c.1,c.2,e7]) rfl
    ·have d0:a.eval (.tmp 46)=.int .i64 z:=D 0 rfl;refine Reg.call rfl (Reg.wanted_free rfl) 25 #[.slice none 0 0,.int .i64 z] (by have c:=Reg.consts a;generalize a.eval=ρ at *;simp[go_sem,c.1,c.2,d0]) ?_;refine(rput_any none 0 0 [] z w1 (rd_nil _ _) (by omega) hz1 hz2).mono ?_;rintro e w2⟨Az,cz,rfl,hwz,hbz⟩;exact⟨_,rfl,⟨Az,cz,rfl,hwz.rd⟩,hW.trans (hbz.mono hW.size),RgV.keep hbz⟩
    ·obtain⟨A1,c1,d1,r1⟩:∃ A c,a.eval (.tmp 47)=.slice A (0+1+Num.wid z.natAbs) c∧Rd w1 w1.heap.size A (0+1+Num.wid z.natAbs) ([]++Num.enc z):=D 1 rfl;have qq:=run_conv w1 _ _ _ c1 _ r1;rw[List.nil_append] at qq;exact Reg.val rfl (Reg.wanted_free rfl) hW (.string (str (Num.enc z))) (by have c:=Reg.consts a;generalize a.eval=ρ at *;simp[go_sem,c.1,c.2,d1,qq]) rfl
    ·have e0:a.eval (.tmp 0)=.slice (some ad) n cap:=E 0 rfl;exact Reg.val rfl (Reg.wanted_free rfl) hW (.slice (some ad) n cap) (by have c:=Reg.consts a;generalize a.eval=ρ at *;simp[go_sem,c.1,c.2,e0]) rfl
    ·have e4:a.eval (.tmp 4)=.int .i64 (k:Int):=E 4 rfl;exact Reg.val rfl (Reg.wanted_free rfl) hW (.int .i64 (k:Int)) (by have c:=Reg.consts a;generalize a.eval=ρ at *;simp[go_sem,c.1,c.2,e4]) rfl
    ·have d4:a.eval (.tmp 50)=.int .i64 (k:Int):=D 4 rfl;exact Reg.val rfl (Reg.wanted_free rfl) hW (.int .i64 ((k:Int)+1)) (by have c:=Reg.consts a;generalize a.eval=ρ at *;simp[go_sem,c.1,c.2,d4,hwr]) rfl
    ·have d3:a.eval (.tmp 49)=.slice (some ad) n cap:=D 3 rfl;have d5:a.eval (.tmp 51)=.int .i64 ((k:Int)+1):=D 5 rfl;exact Reg.val rfl (Reg.wanted_free rfl) hW (.slice (some ad) (k+1) cap) (by have c:=Reg.consts a;generalize a.eval=ρ at *;simp[go_sem,c.1,c.2,d3,d5,hk0,hk1]) rfl
    ·have d6:a.eval (.tmp 52)=.slice (some ad) (k+1) cap:=D 6 rfl;have qq:=run_conv w1 _ _ _ cap _ (hf.below hW);exact Reg.val rfl (Reg.wanted_free rfl) hW (.string (str (x::r.take k))) (by have c:=Reg.consts a;generalize a.eval=ρ at *;simp[go_sem,c.1,c.2,d6,qq]) rfl
    have d2:a.eval (.tmp 48)=.string (str (Num.enc z)):=D 2 rfl;have d7:a.eval (.tmp 53)=.string (str (x::r.take k)):=D 7 rfl;exact Reg.val rfl (Reg.wanted_free rfl) hW (.bool q) (by have c:=Reg.consts a;generalize a.eval=ρ at *;simp[go_sem,c.1,c.2,d2,d7,hq]) rfl
   intro a w1 hs hd E D hb;have d8:a.eval (.tmp 54)=.bool q:=D 8 (by decide);have e7:a.eval (.tmp 7)=.int .i64 z:=E 7 rfl;have e4:a.eval (.tmp 4)=.int .i64 (k:Int):=E 4 rfl;rw[Reg.act_lit a 58 hs,hd];simp only[List.range,List.range.loop,List.map,d8,e7,e4];clear E D d8 e7 e4 hq hze;generalize a.eval=ρ;clear a hs hd;cases q with
   | true =>
    go_wp2;go_ret2;refine got_no _ _ _ (Num.dec_no fun h=>?_) hb;have h1:=rz_yes x r u k false U.out K.out (by simp[hm]) h;have h2:=QW.out;rw[ZW.out] at h2;simp[h1] at h2
   | false =>
    go_wp2;go_ret2;have h2:=QW.out;rw[ZW.out] at h2;have h1:=rz_ok x r u k false U.out K.out (by simp[hm]) hk8 (by have:=HL.out;omega) (by simpa using h2.symm);exact got_yes x r w _ _ k h1.1 (by rw[ZW.out];exact h1.2) K.out hb _ (by omega)
  have hno:=hid (Num.dec_no (x:=x) (r:=r) fun h=>by have:=h.2.1;have:=HL.out;have:=K.out;omega);go_enter Tryz.func75,Tryz.ntmps75;go_wp2;go_ret2;exact got_no _ _ _ hno.out (Below.refl _ _)
 have hno:=hid (Num.dec_no (x:=x) (r:=r) fun h=>by have:=h.1;have:=K.out;omega);go_enter Tryz.func75,Tryz.ntmps75;go_wp2;go_ret2;exact got_no _ _ _ hno.out (Below.refl _ _)
end Go.Proofs.YtdkngfdnfekgfaaGreat
