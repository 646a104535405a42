import Derived.Test.YtfmndmhjjbeokaaGreatDoorLow51
import Derived.Test.YtfmndmhjjbeokaaGreatDoorLow48
import Derived.Test.YtfmndmhjjbeokaaGreatDoorLow47
namespace Go.Proofs.YtfmndmhjjbeokaaGreatDoor
set_option maxRecDepth 100000
open Go.RowKit Tab Txt
set_option linter.unusedSimpArgs false
set_option linter.unusedVariables false
theorem CvS.res {B gc gr:Nat} {x:Cf} {w w':World} {l:List Value} (h:CvS B gc x w) (hre:OwnV 31 3 w B (some ⟨gr,0,none⟩) 1 1 l) (hne:gr≠gc) (hg:w.grownBy w' (some gr)):CvS B gc x w' :=
 have a:∀ {E s n c:Nat} {A:Option Addr} {m:List Value},OwnV E s w B A n c m→E≠31→OwnV E s w' B A n c m:=fun q e=>OwnV.gbo q hg fun e2=>OwnV.apart q hre e gr e2 rfl
 ⟨⟨OwnV.gbo h.s.cf hg (by intro e;injection e with e;exact hne e.symm),⟨h.s.pp.len,a h.s.pp.own (by decide)⟩,⟨h.s.ch.len,a h.s.ch.own (by decide)⟩,⟨h.s.tb.len,a h.s.tb.own (by decide)⟩⟩,fun y hy=>a (h.pt y hy) (by decide),fun y hy=>a (h.tt y hy) (by decide),h.ok⟩
theorem tk_next (sn:List UInt8):tkS 10 (some (behindT (isB 10) sn))=some (nextL sn):=by
 unfold tkS nextL
 have hh:=behind_head (isB 10) sn
 cases hb:behindT (isB 10) sn with
 | nil=>rfl
 | cons c r =>
  have hc:c=10:=by
   have:=hh c (by rw [hb];rfl)
   unfold isB at this
   simpa using this
  rw [hc,Option.bind_some,takeB_self]
  rfl
theorem built_conf (w:World):Tryz.prog.built 31 []=some #[.slice none 0 0,.slice none 0 0,.slice none 0 0]:=rfl
theorem built_rdr (sv:ByteArray):Tryz.prog.built 79 [(0,.string sv)]=some #[.string sv,.bool false]:=rfl
set_option maxHeartbeats 16000000 in
theorem tParse_any (s:List UInt8) (w:World) (hs:s.length≤1048576):Calls Tryz.prog 17 #[.string (bsOf s)] w (ParX s w):=by
 have b0:=bl1 w (.cells #[.slice none 0 0,.slice none 0 0,.slice none 0 0] 31)
 have o0:=ownV_lit w 31 3 w.heap.size #[.slice none 0 0,.slice none 0 0,.slice none 0 0] 1 rfl (Nat.le_refl _) (by unfold maxLen;omega)
 have hz0:(w.alloc (.cells #[.slice none 0 0,.slice none 0 0,.slice none 0 0] 31)).heap.size=w.heap.size+1:=by simp
 have hsz:(bsOf s).size=s.length:=rfl
 by_cases hlong:16384 < s.length
 ·have HQ:Hid (parseQ s=(3,0,cft0)):=Lib.hid (by unfold parseQ;rw [if_pos hlong])
  have hli:(16384:Int) < (s.length:Int):=by omega
  have HO:=Lib.hid o0
  have HB:=Lib.hid b0
  unfold ParX
  rw [HQ.out]
  obtain ⟨n,hn⟩:∃ n,n=s.length:=⟨_,rfl⟩
  rw [← hn] at hli hsz
  generalize bsOf s=sv at hsz ⊢
  clear hs hlong HQ b0 o0 hz0 hn
  have hbd:=built_conf w
  go_enter Tryz.func17,Tryz.ntmps17
  go_upto_region 2 with fail
  generalize w.alloc (.cells #[.slice none 0 0,.slice none 0 0,.slice none 0 0] 31)=w1 at HO HB ⊢
  have c0:=row_facts HO.out 0 _ rfl
  have c1:=row_facts HO.out 1 _ rfl
  have c2:=row_facts HO.out 2 _ rfl
  obtain ⟨c0a,c0b⟩:=c0
  obtain ⟨c1a,c1b⟩:=c1
  obtain ⟨c2a,c2b⟩:=c2
  have HO2:Hid (OwnV 31 3 (((w1.setCell ⟨w.heap.size,0,none⟩ (.slice none 0 0)).setCell ⟨w.heap.size,1,none⟩ (.slice none 0 0)).setCell ⟨w.heap.size,2,none⟩ (.slice none 0 0)) w.heap.size (some ⟨w.heap.size,0,none⟩) 1 1 [.slice none 0 0,.slice none 0 0,.slice none 0 0]):=Lib.hid (((HO.out.set 0 _ (by show 0 < 3;omega)).set 1 _ (by show 1 < 3;omega)).set 2 _ (by show 2 < 3;omega))
  have HB2:Hid (Below w.heap.size w (((w1.setCell ⟨w.heap.size,0,none⟩ (.slice none 0 0)).setCell ⟨w.heap.size,1,none⟩ (.slice none 0 0)).setCell ⟨w.heap.size,2,none⟩ (.slice none 0 0))):=Lib.hid (((HB.out.setCell (p:=⟨w.heap.size,0,none⟩) (Nat.le_refl _) _).setCell (p:=⟨w.heap.size,1,none⟩) (Nat.le_refl _) _).setCell (p:=⟨w.heap.size,2,none⟩) (Nat.le_refl _) _)
  go_wp2_with fail
  refine bodyPost_ret (results_ctt rfl (ag_conf _) (sz_conf _) rfl HO2.out) rfl ?_
  exact ⟨HB2.out,cf0,rfl,CfR.zero _,Ctn.zero,OwnV.nil _ _ _ _,OwnV.nil _ _ _ _⟩
 ·have HLS:Hid (s.length≤16384):=Lib.hid (by omega)
  have hli:¬ (16384:Int) < (s.length:Int):=by omega
  have HQI:Hid (∀ i,linesQ 0 cft0 (splitF 10 s)=.inl i→parseQ s=(12,(i:Int),cft0)):=Lib.hid fun i h=>by unfold parseQ;rw [if_neg hlong,h]
  have HQR:Hid (∀ c,linesQ 0 cft0 (splitF 10 s)=.inr c→parseQ s=if (whereF c.P c.C c.T).1=0 then (0,0,c) else ((whereF c.P c.C c.T).1,0,cft0)):=Lib.hid fun c h=>by unfold parseQ;rw [if_neg hlong,h]
  obtain ⟨V,hV⟩:∃ V,V=linesQ 0 cft0 (splitF 10 s):=⟨_,rfl⟩
  rw [← hV] at HQI HQR
  have HV:=Lib.hid hV
  unfold ParX
  generalize parseQ s=PQ at HQI HQR ⊢
  obtain ⟨W1,hW1⟩:∃ W1,W1=w.alloc (.cells #[.slice none 0 0,.slice none 0 0,.slice none 0 0] 31):=⟨_,rfl⟩
  rw [← hW1] at b0 o0 hz0
  have b1:=bl1 W1 (.cells #[.slice none 0 0,.slice none 0 0,.slice none 0 0] 31)
  have o1:=ownV_lit W1 31 3 w.heap.size #[.slice none 0 0,.slice none 0 0,.slice none 0 0] 1 rfl b0.size (by unfold maxLen;omega)
  have hz1:(W1.alloc (.cells #[.slice none 0 0,.slice none 0 0,.slice none 0 0] 31)).heap.size=w.heap.size+1+1:=by simp [hz0]
  obtain ⟨W2,hW2⟩:∃ W2,W2=W1.alloc (.cells #[.slice none 0 0,.slice none 0 0,.slice none 0 0] 31):=⟨_,rfl⟩
  rw [← hW2] at b1 o1 hz1
  have b2:=bl1 W2 (.cells #[.string (bsOf s),.bool false] 79)
  have o2:=ownV_lit W2 79 2 w.heap.size #[.string (bsOf s),.bool false] 1 rfl (Nat.le_trans b0.size b1.size) (by unfold maxLen;omega)
  obtain ⟨W3,hW3⟩:∃ W3,W3=W2.alloc (.cells #[.string (bsOf s),.bool false] 79):=⟨_,rfl⟩
  rw [← hW3] at b2 o2
  rw [hz0] at o1
  rw [hz1] at o2
  have hcv:CvS w.heap.size (w.heap.size+1) cf0 W3:=⟨⟨OwnV.below o1 rfl b2,⟨rfl,OwnV.nil _ _ _ _⟩,⟨rfl,OwnV.nil _ _ _ _⟩,⟨rfl,OwnV.nil _ _ _ _⟩⟩,fun y hy=>(by cases hy),fun y hy=>(by cases hy),CfC.of (CfR.zero w)⟩
  have HPS:Hid (ParS w.heap.size (w.heap.size+1+1) (w.heap.size+1) w.heap.size (some s) cf0 w W3):=Lib.hid ⟨o2,hcv,OwnV.below (OwnV.below o0 rfl b1) rfl b2,by omega,(b0.trans (b1.mono b0.size)).trans (b2.mono (Nat.le_trans b0.size b1.size)),Nat.le_trans (Nat.le_trans b0.size b1.size) b2.size⟩
  subst hW3;subst hW2;subst hW1
  have hbd:=built_rdr (bsOf s)
  obtain ⟨n,hn⟩:∃ n,n=s.length:=⟨_,rfl⟩
  rw [← hn] at hli hsz
  clear hs hlong b0 o0 hz0 b1 o1 hz1 b2 o2 hcv hV
  generalize bsOf s=sv at HPS hbd hsz ⊢
  go_enter Tryz.func17,Tryz.ntmps17
  go_wp2_with fail
  generalize ((w.alloc (.cells #[.slice none 0 0,.slice none 0 0,.slice none 0 0] 31)).alloc (.cells #[.slice none 0 0,.slice none 0 0,.slice none 0 0] 31)).alloc (.cells #[.string sv,.bool false] 79)=Wz at HPS ⊢
  go_loopw [7,8] (fun a _ wr=>∃ (i:Nat) (sn:List UInt8) (c:Cft) (x:Cf),a=.int .i64 ((i+1:Nat):Int)∧ParS w.heap.size (w.heap.size+1+1) (w.heap.size+1) w.heap.size (some sn) x w wr∧Ctn x c∧V=linesQ i c (splitF 10 sn)∧x.n1+(x.n2+x.n3)≤i∧i+sn.length≤16384) (fun _ _ wr=>lenS wr (w.heap.size+1+1))
  case atStart=>exact ⟨0,s,cft0,cf0,rfl,HPS.out,Ctn.zero,HV.out,Nat.le_refl _,by have:=HLS.out;omega⟩
  case round =>
   obtain ⟨i,sn,c,x,rfl,hps,hcn,hv,hcnt,hln⟩:=hrel
   have HP:=Lib.hid hps
   have HC:=Lib.hid hcn
   have HV2:=Lib.hid hv
   have HCN:=Lib.hid hcnt
   have HLN:=Lib.hid hln
   have HMS:=Lib.hid (lenS_is hps.rd)
   obtain ⟨k,hk⟩:∃ k,k=i+1:=⟨_,rfl⟩
   rw [← hk]
   have HK:=Lib.hid hk
   clear hps hcn hv hcnt hln HPS HV hk
   by_cases hs0:sn=[]
   ·have HE:=Lib.hid (tend_nil HP.out.rd (by rw [Option.getD_some];exact hs0))
    have hV:V=.inr c:=by rw [HV2.out,hs0];exact linesQ_nil i c
    have HQ:=Lib.hid (HQR.out c hV)
    have hr:=HP.out.cv.r
    have HRT:=Lib.hid (cfright_any x.A1 x.A2 x.A3 x.n1 x.n2 x.n3 x.c1 x.c2 x.c3 x.P x.C x.T wr hr.pp hr.ch hr.tb (fun y hy=>(hr.pt y hy).1) hr.tt hr.k1)
    have hwf:=HC.out.whF hr.lens
    rw [hwf] at HRT
    obtain ⟨m0,m0f⟩:=row_facts HP.out.cv.s.cf 0 _ rfl
    obtain ⟨m1,m1f⟩:=row_facts HP.out.cv.s.cf 1 _ rfl
    obtain ⟨m2,m2f⟩:=row_facts HP.out.cv.s.cf 2 _ rfl
    clear hV hr hwf m0f m1f m2f hs0 HV2 HQR HQI
    by_cases hz:(whereF c.P c.C c.T).1=0
    ·rw [hz] at HRT
     rw [if_pos hz] at HQ
     clear hz
     go_wp2_with fail
     refine HE.out.mono ?_
     rintro e w1 ⟨rfl,rfl⟩
     go_wp2_with fail
     refine HRT.out.mono ?_
     rintro e w2 ⟨rfl,hb⟩
     have HP2:=Lib.hid (HP.out.on hb)
     clear hb HRT m0 m1 m2
     go_upto_region 16 with fail
     refine wp_region_lit (wpList_loadX rfl (.tmp 5) rfl rfl (ag_conf _) (sz_conf _) HP2.out.cv.s.cf (wpList_storeX (l:=[.slice x.A1 x.n1 x.c1,.slice x.A2 x.n2 x.c2,.slice x.A3 x.n3 x.c3]) rfl (.tmp 2) (.tmp 41) rfl rfl rfl (sz_conf _) HP2.out.re rfl ?_ fun w5 ho5 hg5=>?_))
     ·intro v hv
      simp only [List.mem_cons,List.not_mem_nil,or_false] at hv
      rcases hv with rfl | rfl | rfl <;> rfl
     have HCV:=Lib.hid (HP2.out.cv.res HP2.out.re HP2.out.nr hg5)
     have HO5:=Lib.hid ho5
     have HB5:Hid (Below w.heap.size w w5):=Lib.hid (HP2.out.be.trans (ogb_below hg5 (Nat.le_refl _) HP2.out.sz))
     clear ho5 hg5 HP2 HP
     go_wp2_with fail
     refine bodyPost_ret (results_ctt rfl (ag_conf _) (sz_conf _) rfl HO5.out) rfl ?_
     rw [HQ.out]
     exact ⟨HB5.out,x,rfl,HCV.out.r,HC.out,HCV.out.s.pp.own,HCV.out.s.tb.own⟩
    ·have HQZ:=Lib.hid hz
     rw [if_neg hz] at HQ
     generalize (whereF c.P c.C c.T).1=z at HRT HQ hz
     have i1:(z != 0)=true:=bne_iff_ne.2 hz
     clear hz
     go_wp2_with fail
     refine HE.out.mono ?_
     rintro e w1 ⟨rfl,rfl⟩
     go_wp2_with fail
     refine HRT.out.mono ?_
     rintro e w2 ⟨rfl,hb⟩
     have HP2:=Lib.hid (HP.out.on hb)
     clear hb HRT m0 m1 m2
     go_upto_region 15 with fail
     have hbc:=built_conf w2
     obtain ⟨c0a,c0b⟩:=row_facts HP2.out.re 0 _ rfl
     obtain ⟨c1a,c1b⟩:=row_facts HP2.out.re 1 _ rfl
     obtain ⟨c2a,c2b⟩:=row_facts HP2.out.re 2 _ rfl
     have HO2:Hid (OwnV 31 3 (((w2.setCell ⟨w.heap.size,0,none⟩ (.slice none 0 0)).setCell ⟨w.heap.size,1,none⟩ (.slice none 0 0)).setCell ⟨w.heap.size,2,none⟩ (.slice none 0 0)) w.heap.size (some ⟨w.heap.size,0,none⟩) 1 1 [.slice none 0 0,.slice none 0 0,.slice none 0 0]):=Lib.hid (((HP2.out.re.set 0 _ (by show 0 < 3;omega)).set 1 _ (by show 1 < 3;omega)).set 2 _ (by show 2 < 3;omega))
     have HB2:Hid (Below w.heap.size w (((w2.setCell ⟨w.heap.size,0,none⟩ (.slice none 0 0)).setCell ⟨w.heap.size,1,none⟩ (.slice none 0 0)).setCell ⟨w.heap.size,2,none⟩ (.slice none 0 0))):=Lib.hid (((HP2.out.be.setCell (p:=⟨w.heap.size,0,none⟩) (Nat.le_refl _) _).setCell (p:=⟨w.heap.size,1,none⟩) (Nat.le_refl _) _).setCell (p:=⟨w.heap.size,2,none⟩) (Nat.le_refl _) _)
     go_wp2_with fail
     refine bodyPost_ret (results_ctt rfl (ag_conf _) (sz_conf _) rfl HO2.out) rfl ?_
     rw [HQ.out]
     exact ⟨HB2.out,cf0,rfl,CfR.zero _,Ctn.zero,OwnV.nil _ _ _ _,OwnV.nil _ _ _ _⟩
   ·have HLT:=Lib.hid (nextL_lt hs0)
    have HE:=Lib.hid (by obtain ⟨a,b,e⟩:∃ a b,sn=a::b:=(match sn,hs0 with | a::b,_=>⟨a,b,rfl⟩);exact tend_cons (show RdrS w.heap.size (w.heap.size+1+1) (some (a::b)) _ from e▸HP.out.rd))
    have HU:=Lib.hid (tupto_any HP.out.rd (by rw [Option.getD_some];have:=HLN.out;omega) 10 10 rfl)
    rw [Option.getD_some,show (some sn).map (behindT (isB 10))=some (behindT (isB 10) sn) from rfl] at HU
    have HAL:Hid ((aheadT (isB 10) sn).length≤1048576):=Lib.hid (by have:=aheadT_le (isB 10) sn;have:=HLN.out;omega)
    have hmore:=linesQ_more i c sn
    rw [← HV2.out] at hmore
    have HTK:=Lib.hid fun W (hh:RdrS w.heap.size (w.heap.size+1+1) (some (behindT (isB 10) sn)) W)=>ttake_any hh 10 10 rfl
    rw [tk_next] at HTK
    have HMR:=Lib.hid hmore
    have hbd:=built_rdr (bsOf (aheadT (isB 10) sn))
    clear hs0 hmore HV2
    generalize nextL sn=sn2 at HLT HTK HMR
    generalize behindT (isB 10) sn=rs at HU HTK
    generalize aheadT (isB 10) sn=xs at HU HAL HMR hbd
    go_wp2_with fail
    refine HE.out.mono ?_
    rintro e w1 ⟨rfl,rfl⟩
    go_wp2_with fail
    refine HU.out.mono ?_
    rintro e w2 ⟨rfl,h2⟩
    have HP2:=Lib.hid (HP.out.step h2)
    clear h2 HU HE HP
    have hb3:=bl1 w2 (.cells #[.string (bsOf xs),.bool false] 79)
    have HP3:=Lib.hid (HP2.out.on hb3)
    have H1R:Hid (RdrS w.heap.size w2.heap.size (some xs) (w2.alloc (.cells #[.string (bsOf xs),.bool false] 79))):=Lib.hid (ownV_lit w2 79 2 w.heap.size #[.string (bsOf xs),.bool false] 1 rfl HP2.out.sz (by unfold maxLen;omega))
    have HGL:Hid (w.heap.size+1+1 < w2.heap.size):=Lib.hid HP2.out.rd.cells.2.2.2.2.2
    have HT:=Lib.hid (HTK.out _ HP3.out.rd)
    generalize ((some rs).bind (takeB 10)).isSome=tb at HT
    clear hb3 HTK
    generalize bsOf xs=xv at HP3 H1R hbd HT ⊢
    go_wp2_with fail
    refine HT.out.mono ?_
    rintro e w3 ⟨rfl,h3⟩
    have HP4:=Lib.hid (HP3.out.step h3)
    have H1R3:Hid (RdrS w.heap.size w2.heap.size (some xs) w3):=Lib.hid (OwnV.gbo H1R.out h3.gb (by intro e;injection e with e;dsimp only at e;have:=HGL.out;omega))
    clear h3 HT HP3 H1R hbd
    have HLI:=Lib.hid (tline_any H1R3.out HAL.out HP4.out.cv HP4.out.sz HC.out (by have:=HCN.out;have:=HLN.out;omega))
    go_wp2_with fail
    refine HLI.out.mono ?_
    rintro e w4 ⟨rfl,st',hst,hrd,hkl,hok⟩
    obtain ⟨p1,p2,p3,p4⟩:=HP4.out.line H1R3.out (by have:=HGL.out;omega) hkl
    have HD:=Lib.hid (tdone_any hrd)
    have HP1:=Lib.hid p1
    have HPR:=Lib.hid p2
    have HPB:=Lib.hid p3
    have HPZ:=Lib.hid p4
    clear p1 p2 p3 p4 hkl hrd HLI
    by_cases hdn:st'=some []
    ·have hls:∃ c',lineS c xs=some (c',[]):=by
      cases hq:lineS c xs with
      | none=>rw [hq] at hst;rw [hst] at hdn;cases hdn
      | some y =>
       rw [hq] at hst
       rw [hst] at hdn
       injection hdn with hdn
       exact ⟨y.1,by rw [← hdn]⟩
     obtain ⟨c',hls⟩:=hls
     obtain ⟨x',hcv,hcn,hcnt⟩:=hok c' [] hls
     have hV:V=linesQ (i+1) c' (splitF 10 sn2):=by rw [HMR.out,lineD_S,hls];rfl
     have HV3:=Lib.hid hV
     have HPS2:Hid (ParS w.heap.size (w.heap.size+1+1) (w.heap.size+1) w.heap.size (some sn2) x' w w4):=Lib.hid ⟨HP1.out,hcv,HPR.out,HP4.out.nr,HPB.out,HPZ.out⟩
     have HC2:=Lib.hid hcn
     have HN2:Hid (x'.n1+(x'.n2+x'.n3)≤i+1):=Lib.hid (by have:=HCN.out;omega)
     rw [decide_eq_true hdn] at HD
     have k1:(k:Int)+1=((k+1:Nat):Int):=by omega
     obtain ⟨kk,hkk⟩:∃ kk,kk=k+1:=⟨_,rfl⟩
     rw [← hkk] at k1
     have k2:IntKind.i64.wrap (kk:Int)=(kk:Int):=by rw [IntKind.wrap_i64];have:=HLN.out;have:=HK.out;omega
     have HKK:Hid (kk=i+1+1):=Lib.hid (by rw [hkk,HK.out])
     clear hdn hls hok hst hcv hcn hcnt hV HMR hkk
     go_wp2_with fail
     refine HD.out.mono ?_
     rintro e w5 ⟨rfl,rfl⟩
     go_wp2_with fail
     go_roundw
     case rel=>exact ⟨i+1,sn2,c',x',by rw [← HKK.out],HPS2.out,HC2.out,HV3.out,HN2.out,by have:=HLT.out;have:=HLN.out;omega⟩
     case measure=>rw [HMS.out,lenS_is HPS2.out.rd];exact HLT.out
    ·have hV:V=.inl (i+1):=by
      rw [HMR.out,lineD_S]
      cases hq:lineS c xs with
      | none=>rfl
      | some y =>
       rw [hq] at hst
       rw [hst] at hdn
       have:y.2≠[]:=fun e=>hdn (congrArg some e)
       show (match (if y.2=[] then some y.1 else none) with | none=>_ | some c'=>_)=_
       rw [if_neg this]
     have HQ:=Lib.hid (HQI.out (i+1) hV)
     rw [decide_eq_false hdn] at HD
     clear hdn hok hst hV HMR HQI HQR
     go_wp2_with fail
     refine HD.out.mono ?_
     rintro e w5 ⟨rfl,rfl⟩
     have hbc:=built_conf w4
     obtain ⟨c0a,c0b⟩:=row_facts HPR.out 0 _ rfl
     obtain ⟨c1a,c1b⟩:=row_facts HPR.out 1 _ rfl
     obtain ⟨c2a,c2b⟩:=row_facts HPR.out 2 _ rfl
     have HO2:Hid (OwnV 31 3 (((w4.setCell ⟨w.heap.size,0,none⟩ (.slice none 0 0)).setCell ⟨w.heap.size,1,none⟩ (.slice none 0 0)).setCell ⟨w.heap.size,2,none⟩ (.slice none 0 0)) w.heap.size (some ⟨w.heap.size,0,none⟩) 1 1 [.slice none 0 0,.slice none 0 0,.slice none 0 0]):=Lib.hid (((HPR.out.set 0 _ (by show 0 < 3;omega)).set 1 _ (by show 1 < 3;omega)).set 2 _ (by show 2 < 3;omega))
     have HB2:Hid (Below w.heap.size w (((w4.setCell ⟨w.heap.size,0,none⟩ (.slice none 0 0)).setCell ⟨w.heap.size,1,none⟩ (.slice none 0 0)).setCell ⟨w.heap.size,2,none⟩ (.slice none 0 0))):=Lib.hid (((HPB.out.setCell (p:=⟨w.heap.size,0,none⟩) (Nat.le_refl _) _).setCell (p:=⟨w.heap.size,1,none⟩) (Nat.le_refl _) _).setCell (p:=⟨w.heap.size,2,none⟩) (Nat.le_refl _) _)
     go_wp2_with fail
     refine bodyPost_ret (results_ctt rfl (ag_conf _) (sz_conf _) rfl HO2.out) rfl ?_
     rw [HQ.out]
     exact ⟨HB2.out,cf0,by rw [← HK.out];rfl,CfR.zero _,Ctn.zero,OwnV.nil _ _ _ _,OwnV.nil _ _ _ _⟩
end Go.Proofs.YtfmndmhjjbeokaaGreatDoor
namespace Go.Proofs.YtfmndmhjjbeokaaGreatDoor
set_option maxRecDepth 100000
open Go.RowKit Tab Txt
set_option linter.unusedSimpArgs false
set_option linter.unusedVariables false
def k13s1:List UInt8:=[115,40,119,48,58,49,44,105,50,41]
def k13s2:List UInt8:=[115,40,41]
def k13m4:List UInt8:=[35,32,97,32,109,111,100,117,108,101,10,112,97,114,116,32,97,32,48,32,48,32,115,116,32,48,49,50,48,48,32,48,58,49,44,52,58,50,10,10,116,97,98,108,101,32,114,50,40,119,97,58,51,41,10]
def k13m5:List UInt8:=[112,97,114,116,32,97,32,48,32,48,32,45,32,48,48,48,48,48,32,48,58,48,10,99,104,97,110,32,97,32,98,32,115,32,49,32,48,10]
def k13c:Cft:=⟨[(⟨bsOf [97],0,0,true,true,none,2,2,0,1,2,0,0⟩,[(0,1),(4,2)])],[],[ndT0 [⟨4,0,2⟩,⟨1,0,3⟩]]⟩
theorem k13_1:tabD k13s1=some [⟨3,0,2⟩,⟨1,0,1⟩,⟨2,0,2⟩]:=by kernel_rfl
theorem k13_2:tabD k13s2=none:=by kernel_rfl
theorem k13_4:linesQ 0 cft0 (splitF 10 k13m4)=.inr k13c:=by kernel_rfl
theorem k13_5:linesQ 0 cft0 (splitF 10 k13m5)=.inl 2:=by kernel_rfl
theorem wh_none:whereF [] [] []=(3,0):=by
 unfold whereF
 rw [if_neg (by decide)]
theorem k13_p3:parseQ []=(3,0,cft0):=by
 unfold parseQ
 rw [if_neg (by decide),linesQ_nil]
 show (if (whereF [] [] []).1=0 then ((0:Int),(0:Int),cft0) else ((whereF [] [] []).1,0,cft0))=(3,0,cft0)
 rw [wh_none]
 rfl
theorem k13_ok:whereF k13c.P k13c.C k13c.T=(0,-1):=by
 refine whereF_ok (by decide) (fun j hj=>?_) (fun j hj=>absurd hj (Nat.not_lt_zero _)) fun j hj=>?_
 ·obtain rfl:j=0:=by have:j < 1:=hj;omega
  kernel_rfl
 ·obtain rfl:j=0:=by have:j < 1:=hj;omega
  show tbW k13c.P k13c.C [⟨4,0,2⟩,⟨1,0,3⟩]=0
  have e:=ofF_tree (x:=⟨4,0,2⟩) (k:=.cons ⟨1,0,3⟩ .nil .nil) (by simp [F.ok,fine,kn,F.cnt])
  have e2:ofF [⟨4,0,2⟩,⟨1,0,3⟩]=(0,[⟨0,6⟩]):=e.trans (by kernel_rfl)
  have e3:holdsF (wordsL [⟨0,6⟩]) (k13c.P.map Prod.fst) k13c.C=0:=by kernel_rfl
  unfold tbW
  rw [e2]
  show (if (0:Int)=0 then (if ([(⟨0,6⟩:Rn)]).any (fun r=>decide ((k13c.P.length:Int)≤r.p))=true then 16 else holdsF (wordsL [⟨0,6⟩]) (k13c.P.map Prod.fst) k13c.C) else 0)=0
  rw [if_pos rfl,if_neg (by decide),e3]
theorem k13_p4:parseQ k13m4=(0,0,k13c):=by
 unfold parseQ
 rw [if_neg (by decide),k13_4]
 show (if (whereF k13c.P k13c.C k13c.T).1=0 then _ else _)=_
 rw [k13_ok,if_pos rfl]
theorem k13_p5:parseQ k13m5=(12,2,cft0):=by
 unfold parseQ
 rw [if_neg (by decide),k13_5]
 rfl
end Go.Proofs.YtfmndmhjjbeokaaGreatDoor
namespace Go.Proofs.YtfmndmhjjbeokaaGreatDoor
set_option maxRecDepth 100000
open Go.RowKit Tab Txt
set_option linter.unusedSimpArgs false
set_option linter.unusedVariables false
set_option maxHeartbeats 1000000 in
theorem tPrint_wrong (x:Cf) (z:Int) (hz:¬ z=0) (w:World) (h:∀ W,Below w.heap.size w W→Calls Tryz.prog 30 #[cfv x] W (Ans (.int .i64 z) W)):Calls Tryz.prog 11 #[cfv x] w (Ans (.string (bsOf [])) w):=by
 have hb:=bl1 w (.cells #[.slice x.A1 x.n1 x.c1,.slice x.A2 x.n2 x.c2,.slice x.A3 x.n3 x.c3] 31)
 have H:=Lib.hid (h _ hb)
 have HB:=Lib.hid hb
 have hf:∀ o v,(#[Value.slice x.A1 x.n1 x.c1,.slice x.A2 x.n2 x.c2,.slice x.A3 x.n3 x.c3]:Array Value)[o]? = some v→(w.alloc (.cells #[.slice x.A1 x.n1 x.c1,.slice x.A2 x.n2 x.c2,.slice x.A3 x.n3 x.c3] 31)).cell? ⟨w.heap.size,o,none⟩=some v:=fun o v hv=>(World.cell?_alloc_mark _ _ _ _ _).trans hv
 have m0:=hf 0 _ rfl
 have m1:=hf 1 _ rfl
 have m2:=hf 2 _ rfl
 have i1:(z != 0)=true:=bne_iff_ne.2 hz
 clear h hb hf hz
 unfold cfv at H ⊢
 go_enter Tryz.func11,Tryz.ntmps11
 go_wp2_with fail
 refine H.out.mono ?_
 rintro e w1 ⟨rfl,h1⟩
 clear m0 m1 m2
 go_wp2_with fail
 go_ret
 exact ⟨rfl,HB.out.trans (h1.mono HB.out.size)⟩
theorem right_none0 (w:World):Calls Tryz.prog 30 #[cfv cf0] w (Ans (.int .i64 3) w):=by
 have:=cfright_any none none none 0 0 0 0 0 0 [] [] [] w ⟨rfl,RdV.nil⟩ ⟨rfl,RdV.nil⟩ ⟨rfl,RdV.nil⟩ (fun x hx=>(by cases hx)) (fun x hx=>(by cases hx)) (Nat.le_refl _)
 rw [wh_none] at this
 exact this
theorem tPrint_none (w:World):Calls Tryz.prog 11 #[cfv cf0] w (Ans (.string (bsOf [])) w):=tPrint_wrong cf0 3 (by decide) w fun W _=>right_none0 W
theorem tNode_i5 (g:Nat) (w:World) (h:RdN w w.heap.size (some ⟨g,0,none⟩) 1 [⟨2,0,5⟩]) (ht:TabW w):Calls Tryz.prog 13 #[.slice (some ⟨g,0,none⟩) 1 1] w (Ans (.string (bsOf [105,53])) w):=by
 have hok:(F.cons (⟨2,0,5⟩:Nd) .nil .nil).ok:=by simp [F.ok,fine,kn,F.cnt]
 have hr:=right_tree _ 1 1 [⟨2,0,5⟩] ⟨2,0,5⟩ .nil w h (Nat.le_refl _) (by omega) hok rfl
 have:=tNode_tree _ 1 1 ⟨2,0,5⟩ .nil w h (Nat.le_refl _) (by omega) hok hr ht
 exact this
theorem k13_x {x:Cf} {w:World} {B:Nat} (hr:CfR w x) (hc:Ctn x k13c) (ho:OwnV 60 11 w B x.A1 x.n1 x.c1 (x.P.flatMap pcq)) (hp:OwnV 34 1 w B x.A3 x.n3 x.c3 (x.T.flatMap tcn)) :
  ∃ (g1 g3:Nat) (pa:Option Addr) (pc:Nat) (tA:Option Addr) (tc:Nat) (nm:ByteArray) (b p h0 h1 h3 h4:Int),x.A1=some ⟨g1,0,none⟩∧x.A3=some ⟨g3,0,none⟩∧x.n1=1∧x.n3=1 ∧
   OwnV 60 11 w B (some ⟨g1,0,none⟩) 1 x.c1 [.string nm,.int .i64 b,.int .i64 p,.bool true,.bool true,.slice pa 2 pc,.int .i64 h0,.int .i64 h1,.int .i64 2,.int .i64 h3,.int .i64 h4]∧OwnV 34 1 w B (some ⟨g3,0,none⟩) 1 x.c3 [.slice tA 2 tc]:=by
 have hlen:=hr.lens
 have htt:=hr.tt
 have e1:x.P.map stripP=[(⟨bsOf [97],0,0,true,true,none,2,2,0,1,2,0,0⟩,[(0,1),(4,2)])]:=hc.ep
 have e3:x.T.map (fun t=>ndT0 t.l)=[ndT0 [⟨4,0,2⟩,⟨1,0,3⟩]]:=hc.et
 have l1:x.P.length=1:=by have:=congrArg List.length e1;rwa [List.length_map] at this
 have l3:x.T.length=1:=by have:=congrArg List.length e3;rwa [List.length_map] at this
 obtain ⟨y,hy⟩:=List.length_eq_one_iff.1 l1
 obtain ⟨t,ht⟩:=List.length_eq_one_iff.1 l3
 have n1:x.n1=1:=by rw [← hr.pp.len,l1]
 have n3:x.n3=1:=by rw [← hr.tb.len,l3]
 rw [hy] at e1 ho
 rw [ht] at e3 hp
 rw [n1] at ho
 rw [n3] at hp
 obtain ⟨g1,hg1,_⟩:=OwnV.block ho (by omega)
 obtain ⟨g3,hg3,_⟩:=OwnV.block hp (by omega)
 rw [hg1] at ho
 rw [hg3] at hp
 have hpn:=hlen y (by rw [hy];simp)
 have htn:=(htt t (by rw [ht];simp)).rd.len
 injection e1 with e1
 injection e3 with e3
 obtain ⟨⟨nm,bu,pe,sc,st,pa,pn,pc,h0,h1,h2,h3,h4⟩,L⟩:=y
 unfold stripP at e1
 simp only [Prod.mk.injEq,PtV.mk.injEq] at e1
 obtain ⟨⟨-,-,-,rfl,rfl,-,-,-,-,-,rfl,-,-⟩,rfl⟩:=e1
 have hpn2:pn=2:=hpn.symm
 subst hpn2
 have htl:t.l=[⟨4,0,2⟩,⟨1,0,3⟩]:=by unfold ndT0 at e3;injection e3
 rw [htl] at htn
 have htn2:t.n=2:=htn.symm
 refine ⟨g1,g3,pa,pc,t.A,t.c,nm,bu,pe,h0,h1,h3,h4,hg1,hg3,n1,n3,ho,?_⟩
 have:tcn t=[.slice t.A 2 t.c]:=by unfold tcn;rw [htn2]
 rw [List.flatMap_cons,List.flatMap_nil,List.append_nil,this] at hp
 exact hp
set_option maxHeartbeats 8000000 in
theorem known13_any (w:World) (ht:TabW w):Calls Tryz.prog 16 #[] w (Ans (.bool true) w):=by
 have HT:=Lib.hid ht
 have H1:=Lib.hid fun W=>tTable_any k13s1 W (by decide)
 have H2:=Lib.hid fun W=>tTable_any k13s2 W (by decide)
 have H3:=Lib.hid fun W=>tParse_any [] W (by decide)
 have H4:=Lib.hid fun W=>tParse_any k13m4 W (by decide)
 have H5:=Lib.hid fun W=>tParse_any k13m5 W (by decide)
 rw [k13_1] at H1
 rw [k13_2] at H2
 unfold ParX at H3 H4 H5
 rw [k13_p3] at H3
 rw [k13_p4] at H4
 rw [k13_p5] at H5
 clear ht
 go_enter Tryz.func16,Tryz.ntmps16
 go_wp2_with fail
 refine (H1.out w).mono ?_
 rintro e w1 ⟨hb1,A1,c1,rfl,_⟩
 have B1:=Lib.hid hb1
 clear hb1
 go_wp2_with fail
 refine (H2.out w1).mono ?_
 rintro e w2 ⟨hb2,rfl⟩
 have B2:=Lib.hid (B1.out.trans (hb2.mono B1.out.size))
 clear hb2
 go_wp2_with fail
 refine (H3.out w2).mono ?_
 rintro e w3 ⟨hb3,x3,rfl,_⟩
 have B3:=Lib.hid (B2.out.trans (hb3.mono B2.out.size))
 have hbx:=bl1 w3 (.cells #[.slice x3.A1 x3.n1 x3.c1,.slice x3.A2 x3.n2 x3.c2,.slice x3.A3 x3.n3 x3.c3] 31)
 have B3x:=Lib.hid (B3.out.trans (hbx.mono B3.out.size))
 clear hb3 hbx
 unfold cfv
 go_wp2_with fail
 refine (H4.out _).mono ?_
 rintro e w4 ⟨hb4,x4,rfl,hr4,hc4,ho4,hp4⟩
 obtain ⟨g1,g3,pa,pc,tA,tc,nm,bu,pe,h0,h1,h3,h4,ea,eb,en1,en3,o1,o3⟩:=k13_x hr4 hc4 ho4 hp4
 clear hr4 hc4 ho4 hp4
 obtain ⟨X1,X2,X3,y1,y2,y3,z1,z2,z3,XP,XC,XT⟩:=x4
 dsimp only at ea eb en1 en3 o1 o3
 subst ea;subst eb;subst en1;subst en3
 have B4:=Lib.hid (B3x.out.trans (hb4.mono B3x.out.size))
 have hby:=bl1 w4 (.cells #[.slice (some ⟨g1,0,none⟩) 1 z1,.slice X2 y2 z2,.slice (some ⟨g3,0,none⟩) 1 z3] 31)
 have B4x:=Lib.hid (B4.out.trans (hby.mono B4.out.size))
 have o1b:=OwnV.below o1 rfl hby
 have o3b:=OwnV.below o3 rfl hby
 have hcf:(w4.alloc (.cells #[.slice (some ⟨g1,0,none⟩) 1 z1,.slice X2 y2 z2,.slice (some ⟨g3,0,none⟩) 1 z3] 31)).cell? ⟨w4.heap.size,0,none⟩=some (.slice (some ⟨g1,0,none⟩) (1:Nat) z1):=World.cell?_alloc_mark _ _ _ _ _
 have hcf2:(w4.alloc (.cells #[.slice (some ⟨g1,0,none⟩) 1 z1,.slice X2 y2 z2,.slice (some ⟨g3,0,none⟩) 1 z3] 31)).cell? ⟨w4.heap.size,2,none⟩=some (.slice (some ⟨g3,0,none⟩) (1:Nat) z3):=World.cell?_alloc_mark _ _ _ _ _
 have hlt4:w4.heap.size < (w4.alloc (.cells #[.slice (some ⟨g1,0,none⟩) 1 z1,.slice X2 y2 z2,.slice (some ⟨g3,0,none⟩) 1 z3] 31)).heap.size:=by simp
 have O1:=Lib.hid o1b
 have O3:=Lib.hid o3b
 have HCF:=Lib.hid hcf
 have HCF2:=Lib.hid hcf2
 have HLT4:=Lib.hid hlt4
 clear hb4 hby o1 o3 o1b o3b hcf hcf2 hlt4
 unfold cfv
 go_wp2_with fail
 generalize w4.alloc (.cells #[.slice (some ⟨g1,0,none⟩) 1 z1,.slice X2 y2 z2,.slice (some ⟨g3,0,none⟩) 1 z3] 31)=v4 at B4x O1 O3 HCF HCF2 HLT4 ⊢
 refine (H5.out v4).mono ?_
 rintro e w5 ⟨hb5,x5,rfl,_⟩
 have hbz:=bl1 w5 (.cells #[.slice x5.A1 x5.n1 x5.c1,.slice x5.A2 x5.n2 x5.c2,.slice x5.A3 x5.n3 x5.c3] 31)
 have hb6:=hb5.trans (hbz.mono hb5.size)
 have B5:=Lib.hid (B4x.out.trans (hb6.mono B4x.out.size))
 have p1:=OwnV.below O1.out rfl hb6
 have p3:=OwnV.below O3.out rfl hb6
 have HTB5:=Lib.hid (HT.out.on B5.out)
 have m0:=(hb6.cell (p:=⟨w4.heap.size,0,none⟩) HLT4.out).trans HCF.out
 have m2:=(hb6.cell (p:=⟨w4.heap.size,2,none⟩) HLT4.out).trans HCF2.out
 have c3:=World.ownsRow.cellAt p1 3 (by omega)
 have c4:=World.ownsRow.cellAt p1 4 (by omega)
 have c5:=World.ownsRow.cellAt p1 5 (by omega)
 have c8:=World.ownsRow.cellAt p1 8 (by omega)
 have d0:=World.ownsRow.cellAt p3 0 (by omega)
 have c3:_=some (Value.bool true):=c3
 have c4:_=some (Value.bool true):=c4
 have c5:_=some (Value.slice pa 2 pc):=c5
 have c8:_=some (Value.int .i64 2):=c8
 have d0:_=some (Value.slice tA 2 tc):=d0
 clear hb5 hbz hb6 p1 p3
 unfold cfv
 have hz5:(w5.alloc (.cells #[.slice x5.A1 x5.n1 x5.c1,.slice x5.A2 x5.n2 x5.c2,.slice x5.A3 x5.n3 x5.c3] 31)).heap.size=w5.heap.size+1:=by simp
 have hbn:=bl1 (w5.alloc (.cells #[.slice x5.A1 x5.n1 x5.c1,.slice x5.A2 x5.n2 x5.c2,.slice x5.A3 x5.n3 x5.c3] 31)) (.cells #[.int .i64 2,.int .i64 0,.int .i64 5] 54)
 have hrn:=rdV_new (w5.alloc (.cells #[.slice x5.A1 x5.n1 x5.c1,.slice x5.A2 x5.n2 x5.c2,.slice x5.A3 x5.n3 x5.c3] 31)) #[.int .i64 2,.int .i64 0,.int .i64 5] 54 (ns [⟨2,0,5⟩]) rfl
 rw [hz5] at hrn
 have HN5:=Lib.hid (tNode_i5 (w5.heap.size+1) _ ⟨rfl,hrn,fun z hz=>by rw [List.mem_singleton.1 hz];exact ⟨⟨by decide,by decide⟩,⟨by decide,by decide⟩,⟨by decide,by decide⟩⟩⟩ (HTB5.out.on hbn))
 have B6:=Lib.hid (B5.out.trans (hbn.mono B5.out.size))
 have q5:((bsOf [105,53]).toList == [105,53])=true:=by rw [word_dec _ _ (by kernel_rfl)];exact decide_eq_true rfl
 have q6:(bsOf []).toList.isEmpty=true:=by rw [bs_emp];exact decide_eq_true rfl
 clear hz5 hbn hrn
 go_wp2_with fail
 refine HN5.out.mono ?_
 rintro e w7 ⟨rfl,hb7⟩
 have B7:=Lib.hid (B6.out.trans (hb7.mono B6.out.size))
 clear hb7 HN5 m0 m2 c3 c4 c5 c8 d0
 generalize bsOf [105,53]=s5 at q5
 go_wp2_with fail
 refine (tPrint_none w7).mono ?_
 rintro e w8 ⟨rfl,hb8⟩
 generalize bsOf []=s6 at q6
 go_wp2_with fail
 go_ret
 exact ⟨rfl,B7.out.trans (hb8.mono B7.out.size)⟩
end Go.Proofs.YtfmndmhjjbeokaaGreatDoor
