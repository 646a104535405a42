import Derived.Test.YtfmndmhjjbeokaaGreatDoorLow31
import Derived.Test.YtfmndmhjjbeokaaGreatDoorLow48
import Derived.Test.YtfmndmhjjbeokaaGreatDoorLow50
import Derived.Test.YtfmndmhjjbeokaaGreatDoorLow52
import Derived.Test.YtfmndmhjjbeokaaGreatDoorTie
import Derived.Test.YtfmndmhjjbeokaaGreatDoorCards
namespace Go.Proofs.YtfmndmhjjbeokaaGreatDoor.textBack
open Go.ChangeShapes Go.WideShapes Go.ChangeAt Go.RowKit Tab Txt
set_option linter.unusedSimpArgs false
set_option linter.unusedVariables false
theorem right_of (y:Cf) (w:World) (h:CfR w y) (hr:RiX y):Calls Tryz.prog 30 #[cfv y] w (Ans (.int .i64 0) w):=by
 have h1:=cfright_any y.A1 y.A2 y.A3 y.n1 y.n2 y.n3 y.c1 y.c2 y.c3 y.P y.C y.T w h.pp h.ch h.tb (fun x hx=>(h.pt x hx).1) h.tt h.k1
 have e:(whereF y.P y.C y.T).1=0:=congrArg Prod.fst hr.ok
 rw [e] at h1
 exact h1
theorem nodeT_len3 {x:Nd} {k:F} (hok:(F.cons x k .nil).ok) (hn:∀ y∈x::k.flat,y.n≤4) (hd:k.dep≤3):(nodeT x k).length≤8500:=by
 have r:=few_right3 hok hn hd
 have h1:=fine_mem _ hok
 have hfl:(F.cons x k .nil).flat=x::k.flat:=by simp [F.flat]
 have h:=tx_len (nm:=nmP num6) (nmP_len num6_len) (F.cons x k .nil) (fun y hy=>by
  have h2:=fine_one (h1 y hy)
  have h3:=hn y (by rw [hfl] at hy;exact hy)
  exact ⟨by omega,by omega⟩) false
 rw [txX_one] at h
 simp only [F.sz] at h
 unfold nodeT
 omega
set_option maxRecDepth 100000 in
set_option maxHeartbeats 8000000 in
theorem walk (A0:Option Addr) (n0 k0:Nat) (f0:Nat→Int) (w:World) (r0:RdC w w.heap.size A0 n0 fun j=>.int .i64 (f0 j)) (c0:n0≤k0) (b0:k0≤140737488351232) (w0:∀ j,j < n0→(Lit.int .i64 (f0 j)).wf=true) (ht:TabW w) :
  Calls Tryz.prog 4 #[.slice A0 n0 k0] w (Ans (.bool true) w):=by
 have HT:=Lib.hid ht
 have HCF:=Lib.hid (tape_text w.heap.size w.heap.size A0 n0 k0 f0 (by omega) 0 _ (tape_boxed A0 n0 k0 f0 w r0))
 clear r0 w0 ht
 go_enter Tryz.func4,Tryz.ntmps4
 go_wp2_with fail
 refine HCF.out.mono ?_
 rintro e w1 ⟨y,Fs,at1,rfl,hx,T1,G1⟩
 have hbx:=bl1 w1 (.cells #[.slice y.A1 y.n1 y.c1,.slice y.A2 y.n2 y.c2,.slice y.A3 y.n3 y.c3] 31)
 have hbo:=box_vec w1 (.slice y.A1 y.n1 y.c1) (.slice y.A2 y.n2 y.c2) (.slice y.A3 y.n3 y.c3) 31
 have hb1:=(gb_boxed G1).trans (hbx.mono (gb_boxed G1).size)
 have T1b:=T1.below hbx T1.lt
 have hne4:w1.heap.size≠w.heap.size:=by have:=T1.lt;omega
 clear HCF G1
 unfold cfv
 go_upto_region 3 with fail
 generalize w1.alloc (.cells #[.slice y.A1 y.n1 y.c1,.slice y.A2 y.n2 y.c2,.slice y.A3 y.n3 y.c3] 31)=W1 at hbx hbo hb1 T1b ⊢
 obtain ⟨m0,m1,m2⟩:=hbo.three
 have HB1:=Lib.hid hb1
 have HX:=Lib.hid hx
 have HYR:=Lib.hid (hx.rd.on hbx)
 have HV4:=Lib.hid hbo
 have HT1:=Lib.hid T1b
 have HPR:=Lib.hid (tPrint_any y Fs W1 HYR.out hx.ri hx.sm hx.fl hx.ff hx.mx hx.pp (fun V hv=>right_of y V (HYR.out.on hv) hx.ri) (HT.out.on hb1))
 have HLN:=Lib.hid hx.len
 have HBK:=Lib.hid hx.back
 have HRM:=Lib.hid hx.rem
 generalize w1.heap.size=g4 at hne4 HV4 m0 m1 m2 ⊢
 generalize textT (linesT y.P y.C Fs)=TX at HPR HLN HBK HRM
 have HP1:=Lib.hid fun W=>tParse_any TX W (by have:=HLN.out;omega)
 have HP2:=Lib.hid fun W=>tParse_any ([35,10,10]++(TX++[10,35,32,101,110,100])) W (by have:=HLN.out;simp only [List.length_append,List.length_cons,List.length_nil];omega)
 unfold ParX at HP1 HP2
 rw [parseQ_at HBK.out] at HP1
 rw [parseQ_at HRM.out] at HP2
 obtain ⟨s0,hs0⟩:∃ s,s=bsOf TX:=⟨_,rfl⟩
 obtain ⟨s1,hs1⟩:∃ s,s=bsOf ([35,10,10]++TX):=⟨_,rfl⟩
 obtain ⟨s2,hs2⟩:∃ s,s=bsOf ([35,10,10]++(TX++[10,35,32,101,110,100])):=⟨_,rfl⟩
 have ad1:∀ W,(Op.stringOp .add ⟨#[35,10,10]⟩ s0).run Tryz.prog W=.ok (.string s1) W:=by
  rw [hs0,hs1];exact sadd [35,10,10] TX (by have:=HLN.out;simp only [List.length_cons,List.length_nil];omega)
 have ad2:∀ W,(Op.stringOp .add s1 ⟨#[10,35,32,101,110,100]⟩).run Tryz.prog W=.ok (.string s2) W:=by
  rw [hs1,hs2,← List.append_assoc];exact sadd _ [10,35,32,101,110,100] (by have:=HLN.out;simp only [List.length_append,List.length_cons,List.length_nil];omega)
 rw [← hs0] at HPR HP1
 rw [← hs2] at HP2
 clear hbx hbo hb1 T1b T1 hx hs0 hs1 hs2 HLN HBK HRM
 unfold cfv at HPR
 go_wp2_with fail
 refine HPR.out.mono ?_
 rintro e w2 ⟨rfl,hb2⟩
 clear m0 m1 m2 HPR
 go_wp2_with fail
 refine (HP1.out w2).mono ?_
 rintro e w3 ⟨hb3,x3,rfl,hr3,hc3,_,_⟩
 have hbx:=bl1 w3 (.cells #[.slice x3.A1 x3.n1 x3.c1,.slice x3.A2 x3.n2 x3.c2,.slice x3.A3 x3.n3 x3.c3] 31)
 have hbo:=box_vec w3 (.slice x3.A1 x3.n1 x3.c1) (.slice x3.A2 x3.n2 x3.c2) (.slice x3.A3 x3.n3 x3.c3) 31
 have hb23:=(hb2.trans (hb3.mono hb2.size)).trans (hbx.mono (Nat.le_trans hb2.size hb3.size))
 have HB3:=Lib.hid hb23
 have hne6:w3.heap.size≠w.heap.size:=by have h1:=HT1.out.lt;have h2:=hb2.size;have h3:=hb3.size;omega
 have H3R:=Lib.hid (hr3.on hbx)
 have HC3:=Lib.hid hc3
 clear HP1 hb2 hb3 hr3 hc3 hb23 hbx
 unfold cfv
 go_upto_region 5 with fail
 generalize w3.alloc (.cells #[.slice x3.A1 x3.n1 x3.c1,.slice x3.A2 x3.n2 x3.c2,.slice x3.A3 x3.n3 x3.c3] 31)=W3 at hbo HB3 H3R ⊢
 generalize w3.heap.size=g6 at hbo hne6 ⊢
 have HV6:=Lib.hid hbo
 clear hbo
 go_wp2_with fail
 refine (HP2.out W3).mono ?_
 rintro e w5 ⟨hb5,x4,rfl,hr4,hc4,_,_⟩
 have hbx:=bl1 w5 (.cells #[.slice x4.A1 x4.n1 x4.c1,.slice x4.A2 x4.n2 x4.c2,.slice x4.A3 x4.n3 x4.c3] 31)
 have hbo:=box_vec w5 (.slice x4.A1 x4.n1 x4.c1) (.slice x4.A2 x4.n2 x4.c2) (.slice x4.A3 x4.n3 x4.c3) 31
 have HB5:=Lib.hid (hb5.trans (hbx.mono hb5.size))
 have hne9:w5.heap.size≠w.heap.size:=by have h1:=HT1.out.lt;have h2:=HB3.out.size;have h3:=hb5.size;omega
 have H4R:=Lib.hid (hr4.on hbx)
 have HC4:=Lib.hid hc4
 clear HP2 hb5 hr4 hc4 hbx ad1 ad2
 unfold cfv
 go_upto_region 6 with fail
 generalize w5.alloc (.cells #[.slice x4.A1 x4.n1 x4.c1,.slice x4.A2 x4.n2 x4.c2,.slice x4.A3 x4.n3 x4.c3] 31)=W5 at hbo HB5 H4R ⊢
 generalize w5.heap.size=g9 at hbo hne9 ⊢
 have HB35:=Lib.hid (HB3.out.trans (HB5.out.mono HB3.out.size))
 have HT5:=Lib.hid (HT1.out.below HB35.out HT1.out.lt)
 have HTA:Hid (Calls Tryz.prog 10 #[.pointer (some ⟨w.heap.size,0,none⟩),.int .i64 4,.int .i64 3] W5 (TabsN w.heap.size w.heap.size A0 n0 k0 f0 4 (5 ^ (3+1)) 3 W5)):=Lib.hid (table_anyn w.heap.size w.heap.size A0 n0 k0 f0 (by omega) 4 (by omega) (by omega) 3 at1 W5 (by omega) HT5.out)
 have HV9:=Lib.hid hbo
 clear hbo
 go_wp2_with fail
 refine HTA.out.mono ?_
 rintro e w6 ⟨xl,kl,Al,nl,cl,at6,rfl,hok,hown,hsz,hdp,hq,T6,G6⟩
 have hqn:∀ z∈xl::kl.flat,z.n≤4:=fun z hz=>(hq z hz).2.2
 have hfr:=few_right3 hok hqn hdp
 have hlen:=hown.len
 simp only [List.length_cons,F.flat_length] at hlen
 have hnl:nl≤85:=by omega
 have HYR6:=Lib.hid (CfR.tape HT5.out T6 G6 (HYR.out.on HB35.out))
 have H3R6:=Lib.hid (CfR.tape HT5.out T6 G6 (H3R.out.on HB5.out))
 have H4R6:=Lib.hid (CfR.tape HT5.out T6 G6 H4R.out)
 have hb6:Below w.heap.size W5 w6:=(Below.refl _ _).grown G6 (Nat.le_of_lt HT5.out.lt) fun k hk=>by injection hk with hk;omega
 have hbw:Below w.heap.size w w6:=(HB1.out.trans (HB35.out.mono HB1.out.size)).trans hb6
 have HV46:=Lib.hid ((HV4.out.on HB35.out).keep (G6.block g4 (HV4.out.on HB35.out).lt fun e=>hne4 (by injection e)) G6.size)
 have HV66:=Lib.hid ((HV6.out.on HB5.out).keep (G6.block g6 (HV6.out.on HB5.out).lt fun e=>hne6 (by injection e)) G6.size)
 have HV96:=Lib.hid (HV9.out.keep (G6.block g9 HV9.out.lt fun e=>hne9 (by injection e)) G6.size)
 have HRL:=Lib.hid hown.rdn
 have HCP:=Lib.hid hown.cap
 have HBW:=Lib.hid hbw
 have hc6:=hown.cap
 have hrt:=few_rt3 (n:=nl) hok hqn hdp (by omega)
 have HRR:=Lib.hid (by
  have h:=rright_tree Al nl cl _ xl kl w6 hown.rdn hown.cap (by omega) hok rfl
  rw [hrt] at h
  exact h)
 have HND:=Lib.hid fun W (hb:Below w6.heap.size w6 W)=>tNode_tree Al nl cl xl kl W (HRL.out.on hb) HCP.out (by omega) hok (by
  have h:=right_tree Al nl cl _ xl kl W (HRL.out.on hb) HCP.out (by omega) hok rfl
  rw [hrt] at h
  exact h) (HT.out.on (HBW.out.trans (hb.mono HBW.out.size)))
 have HTD:=Lib.hid fun W=>tTable_any (nodeT xl kl) W (by have:=nodeT_len3 hok hqn hdp;omega)
 rw [tabD_tx hok (fun z hz=>by have:=hqn z hz;unfold lim40;omega) (by omega) (by omega)] at HTD
 obtain ⟨sl,hsl⟩:∃ s,s=bsOf (nodeT xl kl):=⟨_,rfl⟩
 rw [← hsl] at HND HTD
 have hLl:(xl::kl.flat).length=nl:=hown.len
 have HBD:=Lib.hid hown.bd
 unfold TbA at HTD
 obtain ⟨L,hL⟩:∃ L,L=xl::kl.flat:=⟨_,rfl⟩
 rw [← hL] at HRL HTD hLl HBD
 have HSA1:Hid (sameF y.P y.C y.T x3.P x3.C x3.T=true):=Lib.hid (sameF_yes (same_lists HC3.out.ep.symm HC3.out.ec.symm HC3.out.et.symm))
 have HSA2:Hid (sameF x4.P x4.C x4.T y.P y.C y.T=true):=Lib.hid (sameF_yes (same_lists HC4.out.ep HC4.out.ec HC4.out.et))
 clear hok hown hsz hdp hq hqn hfr hlen T6 G6 hb6 hbw hrt hsl hL HTA HYR H3R H4R HV4 HV6 HV9 HC3 HC4 HX HT1 HT5 HB1 HB3 HB5 HB35 hne4 hne6 hne9 hc6
 go_wp2_with fail
 refine HRR.out.mono ?_
 rintro e w7 ⟨rfl,hb7⟩
 have HB7:=Lib.hid hb7
 clear hb7 HRR
 go_wp2_with fail
 refine (HND.out w7 HB7.out).mono ?_
 rintro e w8 ⟨rfl,hb8⟩
 have HB8:=Lib.hid (HB7.out.trans (hb8.mono HB7.out.size))
 clear hb8 HND HB7
 go_wp2_with fail
 refine (HTD.out w8).mono ?_
 rintro e w9 ⟨hb9,Am,cm,rfl,hom⟩
 rw [hLl] at hom ⊢
 have HB9:=Lib.hid (HB8.out.trans (hb9.mono HB8.out.size))
 have HOM:=Lib.hid hom
 clear hb9 hom HTD HB8
 obtain ⟨m0,m1,m2⟩:=(HV46.out.on HB9.out).three
 obtain ⟨m3,m4,m5⟩:=(HV66.out.on HB9.out).three
 have HS1:=Lib.hid ((HYR6.out.on HB9.out).rsame (H3R6.out.on HB9.out))
 rw [HSA1.out] at HS1
 unfold cfv at HS1
 go_wp2_with fail
 refine HS1.out.mono ?_
 rintro e w10 ⟨rfl,hb10⟩
 have HB10:=Lib.hid (HB9.out.trans (hb10.mono HB9.out.size))
 clear m0 m1 m2 m3 m4 m5 HS1
 obtain ⟨m0,m1,m2⟩:=(HV46.out.on HB10.out).three
 obtain ⟨m3,m4,m5⟩:=(HV96.out.on HB10.out).three
 have HS2:=Lib.hid ((H4R6.out.on HB10.out).rsame (HYR6.out.on HB10.out))
 rw [HSA2.out] at HS2
 unfold cfv at HS2
 go_wp2_with fail
 refine HS2.out.mono ?_
 rintro e w11 ⟨rfl,hb11⟩
 have HB11:=Lib.hid (HB10.out.trans (hb11.mono HB10.out.size))
 have rm:RdN w11 w11.heap.size Am nl L:=RdN.on (w:=w9) ⟨hLl,HOM.out.rd,HBD.out⟩ (hb10.trans (hb11.mono hb10.size))
 have HNO:=Lib.hid (rnodes_any Am Al nl nl cm cl L L w11 rm (HRL.out.on HB11.out) (by omega))
 rw [sameN_refl] at HNO
 clear m0 m1 m2 m3 m4 m5 HS2 hb10 hb11 rm HOM
 go_wp2_with fail
 refine HNO.out.mono ?_
 rintro e w12 h12
 obtain ⟨rfl,hb12⟩:=h12.ans
 have HB12:=Lib.hid (HB11.out.trans (hb12.mono HB11.out.size))
 clear h12 hb12
 go_wp2_with fail
 refine (known13_any w12 (HT.out.on (HBW.out.trans (HB12.out.mono HBW.out.size)))).mono ?_
 rintro e w13 ⟨rfl,hb13⟩
 go_wp2_with fail
 go_ret
 exact Ans.mk rfl (HBW.out.trans ((HB12.out.trans (hb13.mono HB12.out.size)).mono HBW.out.size))
set_option maxRecDepth 100000 in
theorem lifted (os:Os) (started:os.Started) (H:Type) (enc:TypeId×Value→H) :
  ReturnsInHanded {} Tryz.checked os 4 .any (fun w args=>(Rows.textBackSpec.pre enc Tryz.prog Tryz.f4 [] false w args∧laidMetH Tryz.prog laid13 w)∧sizedMet enc Tryz.prog Tryz.f4 (OpenSpec.ofChange Rows.textBackSpec) false w args)
   (Rows.textBackSpec.post enc Tryz.prog Tryz.f4 false true false false):=by
 refine returnsInHanded_of_change_and (C:=Tryz.checked) (X:=fun w _=>laidMetH Tryz.prog laid13 w) (fun _ _ _ hh h=>h.of_heap hh) own started (by kernel_rfl) Tryz.func4
  (ChangeSpec.witness_shaped (enc:=enc) (C:=Tryz.checked) (os:=os) (X:=fun w _=>laidMetH Tryz.prog laid13 w) false (World.doorLaid Tryz.prog 24 os) #[.slice none 0 0] 8 rfl (World.shaped_of_RefB (by kernel_rfl) (by kernel_rfl)) (by kernel_rfl) (by kernel_rfl) (by kernel_rfl) (door_met os _)) ?_
 intro W base args ds gs before hval0 hW hcnd hsz0 hL _
 have hval:∀ (j:Nat) t v,Tryz.f4.params[j]? = some t→args[j]? = some v→Value.okWide Tryz.prog W .any base t v:=hval0
 have hW':=hW
 obtain ⟨p,q,hA0,hV,rfl,hfz,hnd⟩:=hW
 have hA:DataW.TrodAll enc Tryz.prog W 0 (fun _=>true) true Tryz.f4.params.toList args.toList ds p:=hA0
 have hsz:(DataW.weightsEach Tryz.prog (Tryz.f4.params.toList++Rows.textBackSpec.plain.varTypes Tryz.prog) (ds++gs)).all (·≤reachBytes)=true:=hsz0
 rw [Tryz.params4] at hA hval hsz
 obtain ⟨v0,vs0,d0,ds0,p0,q0,hargs,rfl,rfl,h0,r0⟩:=trodAll_cons hA
 obtain ⟨rfl,rfl,rfl⟩:=trodAll_nil r0
 obtain rfl:args=#[v0]:=by cases args;simp_all
 obtain ⟨rfl,rfl⟩:=trodVars_none hV
 obtain ⟨A0,n0,k0,rfl⟩:=okWide_slice Tryz.underlying23 (hval 0 23 v0 rfl rfl)
 have t0:=h0
 have lt0:∀ x∈p0,x.block < W.heap.size:=by obtain ⟨m,hm⟩:=t0;exact DataW.trod_lt m _ _ _ hm
 obtain ⟨f0,u0,c0,b0,w0⟩:=ints_sized h0 (fun elems spare e=>sized_slice hsz (j:=0) (t:=23) (e:=3) rfl (by rw [← e];rfl) Tryz.underlying23)
 clear hA0 hval0
 refine (walk A0 n0 k0 f0 W u0 c0 b0 w0 (tabW_of_laid hL)).mono fun e W' ⟨he,bel⟩=>?_
 subst he
 exact ⟨_,rfl,_,_,_,[],_,[],hW',trodAll_mk1 (shut_bool Tryz.underlying4 _),(trodAll_cons_mk (Below.trod laidOut (by kernel_rfl) (of_decide_eq_true (by kernel_rfl)) t0 bel lt0) trodAll_mk0),rfl,bel.frame _,fun h=>by cases h⟩
theorem proved:Rows.TextBackSaid :=
 OpenClaim.holds_of_wide 4 Tryz.f4 rfl rfl rfl rfl rfl rfl rfl ⟨rfl,rfl,rfl,rfl,rfl⟩ rfl rfl rfl rfl rfl (by kernel_rfl) Tryz.func4 (by kernel_rfl)
  (of_decide_eq_true (by kernel_rfl)) (by unfold Func.isWrapper;first | (rw [if_pos (by decide +kernel)];kernel_rfl) | (rw [if_neg (by decide +kernel)];exact ⟨rfl,rfl⟩))
  (fun os started H enc _=>lifted os started H enc)
theorem card:Rows.TextBackCardSaid :=
 Claim7.holds_tied_plain_at .later [] [.data,.data,.data] true Rows.textBackCard.stood.harness false
  proved (fun _ h=>by cases h) (by kernel_rfl) (fun _ h=>by cases h) textBack_row_tie rfl ⟨rfl,rfl⟩ (by kernel_rfl) (by kernel_rfl)
  (fun f fn hf hfn=>by
   obtain rfl:f=4:=Option.some.inj ((show Tryz.prog.funcNamed Rows.textBackRow.func=some 4 by kernel_rfl).symm.trans hf) |>.symm
   obtain rfl:fn=Tryz.f4:=(Option.some.inj (Tryz.func4.symm.trans hfn)).symm
   refine ⟨by kernel_rfl,fun j t ht=>?_⟩
   have hall:(Tryz.f4.params.toList.all fun u=>!Tryz.prog.wantsStandIn u)=true:=by kernel_rfl
   have hm:t∈Tryz.f4.params.toList:=by simpa using Array.mem_of_getElem? ht
   have h1:=List.all_eq_true.1 hall t hm
   show Tryz.prog.wantsStandIn t=false
   simpa using h1)
  (by kernel_rfl)
end Go.Proofs.YtfmndmhjjbeokaaGreatDoor.textBack
