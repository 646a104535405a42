import Derived.Test.YtdkngfdnfekgfaaGreatLot47
import Derived.Test.YtdkngfdnfekgfaaGreatLot48
set_option maxHeartbeats 4000000
set_option maxRecDepth 100000
set_option linter.unusedSimpArgs false
set_option linter.unusedVariables false
namespace Go.Proofs.YtdkngfdnfekgfaaGreat
open Go.RowKit Tab
theorem append_mt(w:World)(b:Addr)(c:Nat)(S:Option Addr)(d:Nat):
  (Builtin.append_ #[35,35] 35 #[.slice (some b) c c,.slice S 0 d]).run Tryz.prog w=.ok (.slice (some b) c c) w:=by
 obtain⟨i,hi,_⟩:=info_parts u8_info;cases S with
 | none=>simp[Builtin.append_,run_underlying Tryz.underlying35,sizeOf,typeInfo,hi,Builtin.lenOf,Builtin.firstCells,storeCells]
 | some ad=>simp[Builtin.append_,run_underlying Tryz.underlying35,sizeOf,typeInfo,hi,Builtin.lenOf,Builtin.firstCells,storeCells,loadCells,loadCellsFrom]
theorem run_appM(w:World)(b:Addr)(c:Nat)(l0:List UInt8)(h:Rd w w.heap.size (some b) c l0)(S:Option Addr)(m d:Nat)(l:List UInt8)(hr:Rd w w.heap.size S m l)(hc0:0 < c)(hb:c+m≤140737488351300):
  ∃ A' c' w',(Builtin.append_ #[35,35] 35 #[.slice (some b) c c,.slice S m d]).run Tryz.prog w=.ok (.slice A' (c+m) c') w'∧Rd w' w'.heap.size A' (c+m) (l0++l)∧c+m≤c'∧Below w.heap.size w w':=by
 rcases Nat.eq_zero_or_pos m with hm | hm
 ·subst hm;obtain rfl:l=[]:=List.eq_nil_of_length_eq_zero hr.1;exact⟨some b,c,w,append_mt w b c S d,by simpa using h,by omega,Below.refl _ _⟩
 obtain⟨ad,e,_,hcs⟩:=hr.2 hm;subst e;have e:bs (l0++l)=bs l0++bs l:=by unfold bs;rw[List.map_append]
 have gets:∀(p:Addr) (k:List UInt8),(∀ j (h:j < k.length),w.cell? (p.add j)=some (.int .u8 (k[j].toNat:Int)))→∀ j u,(bs k)[j]? = some u→w.cell? (p.add j)=some u:=fun p k hk j u hj=>by
  unfold bs at hj;rw[List.getElem?_map] at hj;obtain⟨q,hq,rfl⟩:=Option.map_eq_some_iff.1 hj;obtain⟨hj',e⟩:=List.getElem?_eq_some_iff.1 hq;rw[← e];exact hk j hj'
 have hcl:∀ j (h:j < l0.length),w.cell? (b.add j)=some (.int .u8 (l0[j].toNat:Int)):=fun j hj=>by
  obtain⟨b',e,_,hcl⟩:=h.2 hc0;injection e with e;subst e;exact hcl j hj
 obtain⟨i,hi,hz,hs,hby⟩:=info_parts u8_info;have hlen0:(bs l0).length=c*1:=by rw[bs_length,h.1];omega
 have hlenl:(bs l).length=m*1:=by rw[bs_length,hr.1];omega
 have hrun:=run_append_grow (P:=Tryz.prog) w 35 35 5 i _ Tryz.underlying35 hi hz b c c (bs l0) (by rw[hs];exact hlen0) (gets b l0 hcl) ad m d (bs l) (by rw[hs];exact hlenl) (gets ad l hcs) (by omega) (by omega) (growslice_fits (by omega) (by rw[hby];omega));have hge:=grownCap_ge w (c+m) c 5;have hcm':grownCap w (c+m) c 5≤maxLen:=grownCap_le_maxLen w (c+m) c 5 (by unfold maxLen;omega);refine⟨_,_,_,hrun,Own.rd (B:=w.heap.size) (c:=grownCap w (c+m) c 5) ⟨?_,.inr ⟨w.heap.size,_,_,rfl,Nat.le_refl _,heap_alloc_new w.drew _,hge,hcm',?_,?_⟩⟩,hge,(Below.refl _ _).drew.alloc (Nat.le_refl _) _⟩
 ·rw[e,List.length_append,hlen0,hlenl];omega
 ·have e0:(bs l0).toArray.size=c:=by rw[List.size_toArray,hlen0];omega
  have e1:(bs l).toArray.size=m:=by rw[List.size_toArray,hlenl];omega
  have e2:(Value.int .u8 0).cells.size=1:=rfl;rw[Array.size_append,Array.size_append,size_zeroCells,e0,e1,e2];omega
 rw[e];simp only[Array.toList_append];exact List.take_left' (by rw[List.length_append,hlen0,hlenl];omega)
theorem wpList_appM{ops:Array Oper}{rest:List Oper}{o:Oper}{a:Act}{Q:Exit→Act→World→Prop}{w:World}(hgd:Region.wanted o (yielded ops a.tmps)=true)(s x:Operand)
  (ho:o.op=.call { callee:=.builtin .append,args:=#[s,x],argTypes:=#[35,35] }) (hty:o.type=35)
  (b:Addr) (c:Nat) (l0:List UInt8) (hs:a.eval s=.slice (some b) c c) (h:Rd w w.heap.size (some b) c l0) (S:Option Addr) (m d:Nat) (l:List UInt8) (hx:a.eval x=.slice S m d) (hr:Rd w w.heap.size S m l) (hc0:0 < c) (hb:c+m≤140737488351300)
  (hK:∀ A' N c' w',N=c+m→Rd w' w'.heap.size A' N (l0++l)→N≤c'→Below w.heap.size w w'→wpList Tryz.prog ops Q rest (a.put o.dst (.slice A' N c')) w'):wpList Tryz.prog ops Q (o::rest) a w:=by
 refine wpList_wantedB hgd fun K hk=>?_
 obtain⟨A',c',w',hrun,h1,h2,h3⟩:=run_appM w b c l0 h S m d l hr hc0 hb
 unfold Oper.wp execOp
 simp only[ho,hty,resolve,invoke,builtin,Sem.run_bind,Sem.run_pure,Result.andThen_ok,List.map_toArray,List.map_cons,List.map_nil,hs,hx,hrun]
 exact hk _ _ (hK A' _ c' w' rfl h1 h2 h3)
theorem int_u8{z:Int}(h:(Lit.int .u8 z).wf=true):∃ t:UInt8,z=(t.toNat:Int):=by
 have h1:0≤z∧z≤255:=by
  have h:=h;simp[Lit.wf,IntKind.wrap] at h;have e1:IntKind.u8.min=0:=rfl;have e2:IntKind.u8.max=255:=rfl;omega
 refine⟨UInt8.ofNat z.toNat,?_⟩;rw[UInt8.toNat_ofNat'];omega
theorem itells_walk(A:Option Addr)(n cap:Nat)(f:Nat→Int)(a1 a2:Int)(hi2:In64 a2)(r:Cf)(bA:Option Addr)(bn bc:Nat)(bl:List UInt8)(a5:Int)(tu:UInt8)(w:World)(hA:RdC w w.heap.size A n fun j=>.int .i64 (f j))(hn:n≤140737488351232)
  (hr:CfR w r) (k1:r.c1≤maxLen) (k2:r.c2≤maxLen) (k3:r.c3≤maxLen) (hb:Rd w w.heap.size bA bn bl) (hbc:bn≤bc) (hbn:bn≤140737488351232) :
  Calls Tryz.prog 4 #[.slice A n cap,.int .i64 a1,.int .i64 a2,cfv r,.slice bA bn bc,.int .i64 a5,.int .u8 (tu.toNat:Int)] w (Ans (.bool true) w):=by
 have HKN:=hid fun V=>known14_any V
 have hb0:=bl1 w (.cells #[.slice r.A1 r.n1 r.c1,.slice r.A2 r.n2 r.c2,.slice r.A3 r.n3 r.c3] 26)
 have HRX:=hid (box_vec w (.slice r.A1 r.n1 r.c1) (.slice r.A2 r.n2 r.c2) (.slice r.A3 r.n3 r.c3) 26)
 have HCF:=hid (tape_rightx A n cap f (w.alloc (.cells #[.slice r.A1 r.n1 r.c1,.slice r.A2 r.n2 r.c2,.slice r.A3 r.n3 r.c3] 26)) ((hA.below hb0).more hb0.size) hn)
 have HRR:=hid (hr.on hb0)
 have HRF:=hid fun V (hv:Below w.heap.size w V)=>lfew14_any r V (hr.on hv) k1 k2 k3
 have HBB:=hid hb
 have HB0:=hid hb0
 have HBN:=hid hbn
 have HBC:=hid hbc
 have HI2:=hid hi2
 have HI3:=hid (In64.and a2 31 (by omega))
 clear hA hn hr k1 k2 k3 hb hb0 hbc hbn hi2
 go_enter Tryz.func4,Tryz.ntmps4
 obtain⟨R1,R2,R3,r1,r2,r3,s1,s2,s3,RP,RC,RT⟩:=r
 dsimp only[cfv] at HRX HCF HRR HRF HB0 ⊢
 go_upto_region 1 with fail
 generalize w.alloc (.cells #[.slice R1 r1 s1,.slice R2 r2 s2,.slice R3 r3 s3] 26)=W0 at HRX HCF HRR HB0 ⊢
 obtain⟨gr,hgr⟩:∃ g,g=w.heap.size:=⟨_,rfl⟩
 have HRX:Hid (Vec W0 gr 3 fun j=>if j=0 then Value.slice R1 r1 s1 else if j=1 then Value.slice R2 r2 s2 else Value.slice R3 r3 s3):=hid (by rw[hgr];exact HRX.out)
 rw[← hgr]
 clear hgr
 go_wp2_with fail
 refine HCF.out.mono ?_
 rintro e w1⟨⟨A1,A2,A3,n1,n2,n3,c1,c2,c3,P,C,T⟩,rfl,hyR,hyS,hyz,_,_,hmx,hb1⟩
 have hbx:=bl1 w1 (.cells #[.slice A1 n1 c1,.slice A2 n2 c2,.slice A3 n3 c3] 26)
 have HBX:=hid (box_vec w1 (.slice A1 n1 c1) (.slice A2 n2 c2) (.slice A3 n3 c3) 26)
 have HIM:=hid (img_of hyR hyz hmx)
 have HYR:=hid (hyR.on hbx)
 have HYS:=hid hyS
 have HRI:=hid (RiX.of hyz)
 have HB1:=hid (hb1.trans (hbx.mono hb1.size))
 dsimp only[cfv]
 clear hyR hyS hyz hmx hb1 hbx HCF
 go_upto_region 2 with fail
 generalize w1.alloc (.cells #[.slice A1 n1 c1,.slice A2 n2 c2,.slice A3 n3 c3] 26)=W1 at HBX HYR HB1 ⊢
 generalize w1.heap.size=gb at HBX ⊢
 have HBY:=hid (rbytes_any _ W1 HYR.out HRI.out HYS.out)
 have HFW:=hid (img_few HIM.out)
 have HNI:=hid (img_nine HIM.out)
 rw[HIM.out.is] at HBY
 generalize imB ⟨A1,A2,A3,n1,n2,n3,c1,c2,c3,P,C,T⟩=bb at HBY HFW HNI
 dsimp only[cfv] at HBY
 obtain⟨m0,m1,m2⟩:=HBX.out.three
 clear HIM HRI
 go_upto_region 3 with (go_at_call 11;refine HBY.out.mono ?_;rintro e w2⟨B,m,c,rfl,ho,hb⟩)
 have hfw:=HFW.out
 have hni:=HNI.out
 have hln:=ho.len
 rw[hln] at hfw hni
 have HO:=hid ho
 have HB2:=hid (HB1.out.trans (hb.mono HB1.out.size))
 have HBX2:=hid (HBX.out.on hb)
 have HYR2:=hid (HYR.out.on hb)
 clear m0 m1 m2 ho hb hln HBY HFW HNI HBX HYR HB1
 obtain⟨k,rfl⟩:∃ k,m=k+4:=⟨m - 4,by omega⟩
 have hk4:((k+4:Nat):Int) - 4=(k:Int):=by omega
 have hk1:¬ (k:Int) < 0:=by omega
 have hcp:=HO.out.cap
 have hk0:(0:Int)≤(k:Int):=by omega
 have hkc:k≤c:=by omega
 have HTK:=hid (HO.out.rd.front k (by omega))
 go_upto_region 4 with (at_builtin;go_loud (refine wpList_app rfl (.tmp 24) (.tmp 29) rfl rfl w2.heap.size (some ⟨w2.heap.size,0,none⟩) 0 0 [] rfl (own_lit w2 w2.heap.size [] #[] rfl (Nat.le_refl _) (by decide)) B k c (bb.take k) w2.heap.size rfl (HTK.out.alloc (Nat.le_refl _) _) k (Nat.zero_add _) (bb.take k) (List.nil_append _) (by omega) (by simp) ?_);intro A5 c5 w5 ho5 hb5)
 replace hb5:=((Below.refl w2.heap.size w2).alloc (Nat.le_refl _) (.cells #[] 5)).trans hb5
 obtain⟨g,rfl,hg⟩:=ho5.at_ (by omega)
 clear hk4 hcp hkc HTK HO
 go_upto_region 5 with (go_at_call 15;refine(within_row a5 k w5 (by omega) (by omega)).mono ?_;rintro e w6⟨j,hj,rfl,rfl⟩;obtain⟨b,hbj⟩:∃ b,(bb.take k)[j]? = some b:=⟨_,List.getElem?_eq_getElem (by have:=ho5.len;omega)⟩;have hcell:=ho5.cell hbj;have hfree:=ho5.free j;have hj2:(j:Int) < (k:Int):=by omega)
 rw[bx8]
 have ho6:=ho5.store j (b ^^^ tu)
 have hb6:=hb5.setCell (p:=⟨g,j,none⟩) hg (.int .u8 ((b ^^^ tu).toNat:Int))
 clear hcell hfree hj2
 generalize w5.setCell ⟨g,j,none⟩ (.int .u8 ((b ^^^ tu).toNat:Int))=w6 at ho6 hb6 ⊢
 have HO6:=hid ho6
 have H6:=hid hb6
 have HBX6:=hid (HBX2.out.on hb6)
 have HYR6:=hid (HYR2.out.on hb6)
 have HW06:=HB2.out.trans (hb6.mono HB2.out.size)
 have HRX6:=hid (HRX.out.on HW06)
 have HB6:=hid (HB0.out.trans (HW06.mono HB0.out.size))
 obtain⟨m0,m1,m2⟩:=HBX6.out.three
 have hbn:=HBN.out
 clear HW06 ho5 hb5 hbj ho6 hb6 hg HBX2 HYR2 HRX HB2 HB0 HRR hj
 go_wp2_with (first
  | (go_at_call 14;refine(HKN.out w20).mono ?_;rintro e w21⟨rfl,hb21⟩;have G21:=hid (G20.out.trans (hb21.mono G20.out.size)))
  | (go_at_call 12;refine(reads14_any A19 (N18+4) c19 _ w19 ho19.rd (by have:=HN18.out;omega) ho19.cap).mono ?_;rintro e w20⟨rfl,hb20⟩;have G20:=hid (G19.out.trans (hb20.mono G19.out.size)))
  | (go_at_call 13;refine(rseal_any A18 N18 c18 _ w18 hr18 (by have:=HN18.out;omega)).mono ?_;rintro e w19⟨A19,c19,rfl,ho19,hb19⟩;have G19:=hid (G18.out.trans (hb19.mono G18.out.size)))
  | (at_builtin;refine wpList_appM rfl (.tmp 80) (.tmp 81) rfl rfl ⟨w16.heap.size,0,none⟩ 4 horaB rfl hrdm bA bn bc bl rfl ((HBB.out.below (HB6.out.trans (Gm.out.mono HB6.out.size))).more ((HB6.out.trans (Gm.out.mono HB6.out.size))).size) (by omega) (by omega) ?_;intro A18 N18 c18 w18 hN18 hr18 hc18 hb18;have HN18:Hid (N18≤140737488351236):=hid (by omega);clear hN18;have G18:=hid (Gm.out.trans (hb18.mono Gm.out.size)))
  | (go_at_call 12;refine(reads14_any A15 (bn+4) c15 _ w15 ho15.rd (by omega) ho15.cap).mono ?_;rintro e w16⟨rfl,hb16⟩;have G16:=hid (G15.out.trans (hb16.mono G15.out.size));have Gm:=hid (G16.out.trans ((bl1 w16 (.cells #[.int .u8 72,.int .u8 79,.int .u8 82,.int .u8 65] 5 (4,5))).mono G16.out.size));have hrdm:=(rd_mark w16 #[.int .u8 72,.int .u8 79,.int .u8 82,.int .u8 65] (4,5) horaB 4 _ rfl rfl rfl).more (B':=(w16.alloc (.cells #[.int .u8 72,.int .u8 79,.int .u8 82,.int .u8 65] 5 (4,5))).heap.size) (by simp);have p1:(convert 35 35 (.slice (some ⟨w16.heap.size,0,none⟩) 4 4)).run Tryz.prog (w16.alloc (.cells #[.int .u8 72,.int .u8 79,.int .u8 82,.int .u8 65] 5))=.ok (.slice (some ⟨w16.heap.size,0,none⟩) 4 4) (w16.alloc (.cells #[.int .u8 72,.int .u8 79,.int .u8 82,.int .u8 65] 5 (4,5))):=Lib.run_convert_bytes_const (P:=Tryz.prog) w16 35 5 #[.int .u8 72,.int .u8 79,.int .u8 82,.int .u8 65] 4 4 Tryz.underlying35 Tryz.underlying5)
  | (go_at_call 13;refine(rseal_any bA bn bc bl w14 ((HBB.out.below (HB6.out.trans (G14.out.mono HB6.out.size))).more ((HB6.out.trans (G14.out.mono HB6.out.size))).size) (by omega)).mono ?_;rintro e w15⟨A15,c15,rfl,ho15,hb15⟩;have G15:=hid (G14.out.trans (hb15.mono G14.out.size)))
  | (go_at_call 12;refine(reads14_any bA bn bc bl w13 ((HBB.out.below (HB6.out.trans (G13.out.mono HB6.out.size))).more ((HB6.out.trans (G13.out.mono HB6.out.size))).size) (by omega) HBC.out).mono ?_;rintro e w14⟨rfl,hb14⟩;have G14:=hid (G13.out.trans (hb14.mono G13.out.size)))
  | (go_at_call 12;refine(reads14_any A12 (k+4) c12 _ w12 ho12.rd (by omega) ho12.cap).mono ?_;rintro e w13⟨rfl,hb13⟩;have G13:=hid (G12.out.trans (hb13.mono G12.out.size)))
  | (go_at_call 13;refine(rseal_any (some ⟨g,0,none⟩) k c5 _ w11 (HO6.out.below rfl G11.out).rd (by omega)).mono ?_;rintro e w12⟨A12,c12,rfl,ho12,hb12⟩;have G12:=hid (G11.out.trans (hb12.mono G11.out.size)))
  | (go_at_call 9;refine(same14_any _ wf hfew).mono ?_;rintro e w11⟨rfl,hb11⟩;have G11:=hid (Gf.out.trans (hb11.mono Gf.out.size)))
  | (go_at_call 16;refine(HRF.out w10 (HB6.out.trans (G10.out.mono HB6.out.size))).mono ?_;rintro e wf⟨rfl,hfew,hbf⟩;have Gf:=hid (G10.out.trans (hbf.mono G10.out.size)))
  | (go_at_call 9;refine(same14_any z2 w9 hz2).mono ?_;rintro e w10⟨rfl,hb10⟩;have G10:=hid (G9.out.trans (hb10.mono G9.out.size));obtain⟨q0,q1,q2⟩:=(HRX6.out.on G10.out).three)
  | (go_at_call 10;refine(oddZ.odd 16 ⟨A1,A2,A3,n1,n2,n3,c1,c2,c3,P,C,T⟩ a1 _ w8 (by omega) (HYR6.out.on G8.out) HYS.out HI3.out).mono ?_;rintro e w9⟨z2,rfl,hz2,_,hb9⟩;have G9:=hid (G8.out.trans (hb9.mono G8.out.size)))
  | (go_at_call 9;refine(same14_any z1 wo hz1).mono ?_;rintro e w8⟨rfl,hb8⟩;have G8:=hid (Go.out.trans (hb8.mono Go.out.size));obtain⟨i0,i1,i2⟩:=(HBX6.out.on G8.out).three)
  | (go_at_call 10;refine(oddZ.odd 16 ⟨A1,A2,A3,n1,n2,n3,c1,c2,c3,P,C,T⟩ a1 a2 w7 (by omega) (HYR6.out.on G7.out) HYS.out HI2.out).mono ?_;rintro e wo⟨z1,rfl,hz1,_,hbo⟩;have Go:=hid (G7.out.trans (hbo.mono G7.out.size)))
  | (go_at_call 9;refine(same14_any ⟨A1,A2,A3,n1,n2,n3,c1,c2,c3,P,C,T⟩ w6 HYR6.out).mono ?_;rintro e w7⟨rfl,hb7⟩;have G7:=hid hb7;obtain⟨j0,j1,j2⟩:=(HBX6.out.on G7.out).three))
 go_ret
 exact Ans.mk rfl (HB6.out.trans (G21.out.mono HB6.out.size))
end Go.Proofs.YtdkngfdnfekgfaaGreat
