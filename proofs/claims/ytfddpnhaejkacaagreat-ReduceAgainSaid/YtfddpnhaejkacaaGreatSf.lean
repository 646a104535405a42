import Derived.Test.YtfddpnhaejkacaaGreatSe
import Derived.Test.YtfddpnhaejkacaaGreatRk
set_option linter.unusedSimpArgs false
set_option linter.unusedVariables false
namespace Go.Proofs.YtfddpnhaejkacaaGreat
open Go.RowKit Tab
open Lib (hid)
set_option maxRecDepth 100000 in
set_option maxHeartbeats 2000000 in
theorem cpn_any (A:Option Addr) (n c:Nat) (t:List Nd) (w:World) (h:RdN w w.heap.size A n t) (hc:n≤c) (hn:n≤1048576) :
  Calls Tryz.prog 44 #[.slice A n c] w (fun e w'=>∃ A' c',e=.returned (.slice A' n c')∧OwnN w' w.heap.size A' n c' t∧Below w.heap.size w w'):=by
 have hlen:=h.len
 have HH:=hid h
 clear h
 go_enter Tryz.func44,Tryz.ntmps44
 go_wp2_with (at_builtin;go_loud (refine wpList_appV elN rfl (.tmp 4) (.tmp 5) rfl rfl w.heap.size none 0 0 [] rfl (OwnV.nil _ _ _ _) A n c (ns t) _ rfl HH.out.rd (by rw[ns_length,hlen]) (ns_one _) (by omega) (by unfold maxLen;omega) (Nat.le_refl _) n (Nat.zero_add _) (ns t) (List.nil_append _) ?_;intro A9 c9 w9 hw9 hb9 _))
 go_ret
 exact⟨A9,c9,rfl,⟨hlen,hw9,HH.out.bd⟩,hb9⟩
def Zer (w:World) (g:Nat):Prop:=∀(p:Addr) (v:Value),p.block=g→w.cell? p=some v→v=.int .i64 0∨v=.bool false
theorem zer_new (w:World) (t:TypeId):Zer (w.alloc (.cells #[.int .i64 0,.int .i64 0,.int .i64 0,.int .i64 0,.int .i64 0,.bool false] t)) w.heap.size:=by
 intro p v hp hv
 have e:(w.alloc (.cells #[.int .i64 0,.int .i64 0,.int .i64 0,.int .i64 0,.int .i64 0,.bool false] t)).heap[p.block]? = some (.cells #[.int .i64 0,.int .i64 0,.int .i64 0,.int .i64 0,.int .i64 0,.bool false] t):=by rw[hp];show (w.heap.push _)[w.heap.size]? = _;simp
 unfold World.cell? at hv
 rw[e] at hv
 simp only at hv
 split at hv
 ·cases hv
 ·have hm:=Array.mem_of_getElem? hv
  simp at hm
  exact hm
theorem Zer.on {w w':World} {g:Nat} (h:Zer w g) (hb:Below w.heap.size w w') (hg:g < w.heap.size):Zer w' g:=fun p v hp hv=>h p v hp (by rw[← hb.cell (by rw[hp];exact hg)];exact hv)
theorem Zer.rdn {w:World} {g B n:Nat} {A:Option Addr} {x:Nd} {k:List Nd} (h:Zer w g) (hr:RdN w B A n (x::k)) (hk:x.k≠0):∀ ad,A=some ad→ad.block≠g:=by
 intro ad e hb
 have hn:0 < n:=by have:=hr.len;simp at this;omega
 obtain⟨ad',y,e',_,hy,_,c0,_⟩:=hr.at_ hn
 simp at hy
 subst hy
 rw[e] at e'
 injection e' with e'
 subst e'
 have:=h _ _ (by rw[add_block];exact hb) c0
 rcases this with h1 | h1
 ·injection h1 with _ h1
  exact hk h1
 ·cases h1
theorem RdN.set6 {w:World} {g n:Nat} {A:Option Addr} {l:List Nd} (h:RdN w w.heap.size A n l) (hA:∀ ad,A=some ad→ad.block≠g) (v0 v1 v2 v3 v4 v5:Value):RdN (set6 w g v0 v1 v2 v3 v4 v5) (set6 w g v0 v1 v2 v3 v4 v5).heap.size A n l:=by
 refine⟨h.len,fun hn=>?_,h.bd⟩
 obtain⟨ad,e,hb,hc⟩:=h.rd hn
 refine⟨ad,e,by simpa [Go.Proofs.YtfddpnhaejkacaaGreat.set6] using hb,fun j v hj=>?_⟩
 rw[World.cell?_of_block (set6_oth (by rw[add_block];exact hA ad e) v0 v1 v2 v3 v4 v5)]
 exact hc j v hj
theorem rdn_none (w:World):RdN w w.heap.size none 0 []:=⟨rfl,fun h=>by simp[ns] at h,by simp⟩
theorem tabI_head {L:List Rn} (hF:Frm L L.length):∃ x k,tabI L.length (itemsI L)=x::k∧x.k≠0:=by
 obtain⟨x,k,e,hok,_⟩:=tabI_back hF
 refine⟨x,k.flat,e,fun h0=>?_⟩
 have hf:=hok
 simp only[F.ok] at hf
 have h1:fine x=true:=by first | exact hf.1 | exact hf.1.1
 unfold fine at h1
 rw[h0] at h1
 simp at h1
set_option maxRecDepth 100000 in
set_option maxHeartbeats 8000000 in
theorem ptbl_any (A1 A2 A3 A:Option Addr) (n1 n2 n3 n c1 c2 c3 c:Nat) (P:List PtV) (C:List ChV) (t:List Nd) (X:List Rn) (z:Int) (w:World) (hCf:CfW w w.heap.size A1 A2 n1 n2 P C) (hT:RdN w w.heap.size A n t)
  (q1:n1≤6) (q1c:n1≤c1) (q2:n2≤1048576) (hc:n≤c) (hn:n≤1048576) (hz:∀ x∈P,In64 x.per) (hF:z=0→Frm X X.length)
  (hO:∀ V,Below w.heap.size w V→Calls Tryz.prog 41 #[.slice A n c] V (OfG z X V)) :
  Calls Tryz.prog 16 #[.agg #[.slice A1 n1 c1,.slice A2 n2 c2,.slice A3 n3 c3],.slice A n c] w (TblW (tblF P C t X z).1 (tblF P C t X z).2.1 (tblF P C t X z).2.2 w):=by
 have hb0:=bl1 w (.cells #[.slice A1 n1 c1,.slice A2 n2 c2,.slice A3 n3 c3] 31)
 have hb1:=bl1 (w.alloc (.cells #[.slice A1 n1 c1,.slice A2 n2 c2,.slice A3 n3 c3] 31)) (.cells #[.int .i64 0,.int .i64 0,.int .i64 0,.int .i64 0,.int .i64 0,.bool false] 45)
 have hbox:=(box_vec w (.slice A1 n1 c1) (.slice A2 n2 c2) (.slice A3 n3 c3) 31).on hb1
 have hrep:Vec ((w.alloc (.cells #[.slice A1 n1 c1,.slice A2 n2 c2,.slice A3 n3 c3] 31)).alloc (.cells #[.int .i64 0,.int .i64 0,.int .i64 0,.int .i64 0,.int .i64 0,.bool false] 45)) (w.alloc (.cells #[.slice A1 n1 c1,.slice A2 n2 c2,.slice A3 n3 c3] 31)).heap.size 6 (fun j=>if j=5 then .bool false else .int .i64 0) :=
  Vec.lit _ _ _ 6 _ fun j hj=>by rcases(by omega:j=0∨j=1∨j=2∨j=3∨j=4∨j=5) with rfl | rfl | rfl | rfl | rfl | rfl <;> rfl
 have hzr:=zer_new (w.alloc (.cells #[.slice A1 n1 c1,.slice A2 n2 c2,.slice A3 n3 c3] 31)) 45
 have hg1:w.heap.size≤(w.alloc (.cells #[.slice A1 n1 c1,.slice A2 n2 c2,.slice A3 n3 c3] 31)).heap.size:=hb0.size
 have hsz:(w.alloc (.cells #[.slice A1 n1 c1,.slice A2 n2 c2,.slice A3 n3 c3] 31)).heap.size=w.heap.size+1:=by simp
 have hb2:=hb0.trans (hb1.mono hb0.size)
 have hl:=hT.len
 have HCF:=hid (hCf.on hb2)
 have HT:=hid (hT.on hb2)
 have HB0:=hid hb2
 have HZ:=hid hz
 have HF:=hid hF
 have HO:=hid hO
 obtain⟨R,hR⟩:∃ R,R=tblF P C t X z:=⟨_,rfl⟩
 rw[← hR]
 have HR:=hid hR
 rw[hsz] at hrep hg1 hzr
 clear hCf hT hb0 hb1 hb2 hz hF hO hR hsz
 go_enter Tryz.func16,Tryz.ntmps16
 go_upto_region 1 with fail
 generalize (w.alloc (.cells #[.slice A1 n1 c1,.slice A2 n2 c2,.slice A3 n3 c3] 31)).alloc (.cells #[.int .i64 0,.int .i64 0,.int .i64 0,.int .i64 0,.int .i64 0,.bool false] 45)=W at hbox hrep hzr HCF HT HB0 ⊢
 obtain⟨gc,hgc⟩:∃ gc,gc=w.heap.size:=⟨_,rfl⟩
 obtain⟨gr,hgr⟩:∃ gr,gr=w.heap.size+1:=⟨_,rfl⟩
 rw[← hgr]
 rw[← hgc] at hbox hg1 ⊢
 rw[← hgr] at hrep hzr
 have hg2:gc≤gr:=by omega
 have HG:=hid hg2
 have hg1:gc≤gr:=hg2
 have HRP:=hid fun V (hv:Below W.heap.size W V)=>hrep.on hv
 have HZR:=hid fun V (hv:Below W.heap.size W V)=>hzr.on hv hrep.lt
 have HBX:=hid fun V (hv:Below W.heap.size W V)=>(hbox.on hv).three
 have HTT:=hid fun V (hv:Below W.heap.size W V)=>HT.out.on hv
 have HCC:=hid fun V (hv:Below W.heap.size W V)=>HCF.out.on hv
 have HGC:=hid hgc
 have HGL:=hid hrep.lt
 clear hbox hrep hgr hgc hg2 hzr
 go_wp2_with fail
 refine(HO.out W HB0.out).mono ?_
 rintro e w1 ⟨A5,m5,c5,rfl,hc5,hr5,hb5⟩
 have HK1:=hid hb5
 have HR5:=hid fun h V (hv:Below w1.heap.size w1 V)=>(hr5 h).on hv
 clear hr5 hb5
 rcases Decidable.em (z=0) with rfl | hz0
 ·have hf:=HF.out rfl
  have hle:=hf.le
  have htk:=hf.tk
  have hpos:=hf.pos
  have hr1:=HR5.out rfl w1 (Below.refl _ _)
  have hm:=hr1.len
  subst hm
  have HRX:=hid fun V (hv:Below w1.heap.size w1 V)=>HR5.out rfl V hv
  have HFX:=hid hf
  have HHO:=hid (bholds_any A1 A2 A3 A5 n1 n2 n3 X.length c1 c2 c3 c5 P C X w1 (HCC.out w1 HK1.out).p (HCC.out w1 HK1.out).c hr1 (by omega) q2 hc5 (by omega) (by omega) HZ.out)
  obtain⟨m0,m1,m2⟩:=HBX.out w1 HK1.out
  obtain⟨hd,hhd⟩:∃ hd,hd=holdsF (wordsL X) P C:=⟨_,rfl⟩
  rw[← hhd] at HHO
  have HHD:=hid hhd
  clear hf hr1 hhd HR5
  go_wp2_with fail
  refine HHO.out.mono ?_
  rintro e w2 ⟨rfl,hb2⟩
  have HQ2:=hid hb2
  have HK2:=hid (HK1.out.trans (hb2.mono HK1.out.size))
  clear hb2 m0 m1 m2
  rcases Decidable.em (hd=0) with rfl | hd0
  ·have HRD:=hid (preds_any A1 A2 A3 A5 n1 n2 n3 X.length c1 c2 c3 c5 P C X w2 ⟨HCC.out w2 HK2.out,HRX.out w2 HQ2.out,q1,q1c,q2,hc5,HZ.out,HFX.out⟩)
   have hrd:=redF_redd (P:=P) (C:=C) X.length X HFX.out (Nat.le_refl _)
   have hf6:=hrd.frm
   have hle6:=hf6.le
   obtain⟨Y,hY⟩:∃ Y,Y=redF P C X.length X:=⟨_,rfl⟩
   have hR2:R=if t.length < (tabI Y.1.length (itemsI Y.1)).length then (t,⟨0,X.length,X.length,t.length,t.length,true⟩,0) else (tabI Y.1.length (itemsI Y.1),⟨Y.2,Y.1.length,X.length,(tabI Y.1.length (itemsI Y.1)).length,t.length,false⟩,0):=by
    rw[HR.out]
    unfold tblF
    rw[if_neg (by simp),if_neg (by rw[← HHD.out];simp),hY]
   rw[← hY] at HRD hf6 hle6
   have HF6:=hid hf6
   have HR2:=hid hR2
   have HTH:=hid (tabI_head hf6)
   obtain⟨m0,m1,m2⟩:=HBX.out w2 HK2.out
   clear hrd hf6 hY hR2
   go_wp2_with fail
   refine HRD.out.mono ?_
   rintro e w3 ⟨A6,c6,rfl,hr6,hc6,hb6⟩
   have HK3:=hid (HK2.out.trans (hb6.mono HK2.out.size))
   have HTB:=hid (table_any6 A6 Y.1.length c6 Y.1 w3 hr6 hc6 HF6.out)
   clear hb6 hr6 m0 m1 m2 HRD
   obtain⟨O,hO⟩:∃ O,O=tabI Y.1.length (itemsI Y.1):=⟨_,rfl⟩
   rw[← hO] at HTB HR2 HTH
   clear hO
   go_wp2_with fail
   refine HTB.out.mono ?_
   rintro e w4 ⟨A7,m7,c7,rfl,hr7,hc7,hb7⟩
   have hm7:=hr7.len
   subst hm7
   have HK4:=hid (HK3.out.trans (hb7.mono HK3.out.size))
   have HO7:=hid hr7
   have HAP:Hid (∀ ad,A7=some ad→ad.block≠gr):=hid (by
    obtain⟨x,k,e,hk⟩:=HTH.out
    have h7:=HO7.out
    rw[e] at h7
    exact(HZR.out w4 HK4.out).rdn h7 hk)
   clear hb7 hr7 HTB
   by_cases hlt:n < O.length
   ·have hdl:decide (n < O.length)=true:=decide_eq_true hlt
    have hR3:R=(t,⟨0,X.length,X.length,n,n,true⟩,0):=by rw[HR2.out,if_pos (by rw[hl];exact hlt),hl]
    have HR3:=hid hR3
    have HCN:=hid (cpn_any A n c t w4 (HTT.out w4 HK4.out) hc hn)
    clear hR3
    go_wp2_with fail
    refine HCN.out.mono ?_
    rintro e w9 ⟨A9,c9,rfl,ho9,hb9⟩
    have HQQ:=hid (HK4.out.trans (hb9.mono HK4.out.size))
    have HO9:=hid ho9
    clear ho9 hb9 HCN
    have hv:=HRP.out w9 HQQ.out
    have r0:w9.cell? ⟨gr,0,none⟩=some (.int .i64 0):=hv.cell 0 (by omega)
    have r1:w9.cell? ⟨gr,1,none⟩=some (.int .i64 0):=hv.cell 1 (by omega)
    have r2:w9.cell? ⟨gr,2,none⟩=some (.int .i64 0):=hv.cell 2 (by omega)
    have r3:w9.cell? ⟨gr,3,none⟩=some (.int .i64 0):=hv.cell 3 (by omega)
    have r4:w9.cell? ⟨gr,4,none⟩=some (.int .i64 0):=hv.cell 4 (by omega)
    have r5:w9.cell? ⟨gr,5,none⟩=some (.bool false):=hv.cell 5 (by omega)
    have s0:=hv.thaw 0
    have s1:=hv.thaw 1
    have s2:=hv.thaw 2
    have s3:=hv.thaw 3
    have s4:=hv.thaw 4
    have s5:=hv.thaw 5
    obtain⟨d0,d1,d2,d3,d4,d5⟩:=set6_cells hv (.int .i64 0) (.int .i64 X.length) (.int .i64 X.length) (.int .i64 n) (.int .i64 n) (.bool true)
    have D0:=hid d0
    have D1:=hid d1
    have D2:=hid d2
    have D3:=hid d3
    have D4:=hid d4
    have D5:=hid d5
    have HE:=hid (set6_bel (w:=w9) hg1 (.int .i64 0) (.int .i64 X.length) (.int .i64 X.length) (.int .i64 n) (.int .i64 n) (.bool true))
    clear d0 d1 d2 d3 d4 d5 hv
    go_wp2_with fail
    rw[HR3.out]
    refine bodyPost_ret (results_run6 rfl rfl D0.out D1.out D2.out D3.out D4.out D5.out) rfl ⟨A9,c9,by rw[hl];rfl,?_,?_,?_⟩
    ·rw[hl]
     exact HO9.out.rdn.set6 (fun ad e=>by
      have h1:=(HO9.out.own.obk_ge (b:=ad.block) (by rw[e];rfl)).1
      have h2:=HGL.out
      have h3:=HK4.out.size
      omega) _ _ _ _ _ _
    ·rw[hl]
     exact HO9.out.own.cap
    ·have h2:=HE.out
     rw[HGC.out] at h2
     exact(HB0.out.trans (HQQ.out.mono HB0.out.size)).trans h2
   ·have hdl:decide (n < O.length)=false:=decide_eq_false hlt
    have hR3:R=(O,⟨Y.2,Y.1.length,X.length,O.length,n,false⟩,0):=by rw[HR2.out,if_neg (by rw[hl];exact hlt),hl]
    have HR3:=hid hR3
    have HQQ:=hid HK4.out
    clear hR3
    have hv:=HRP.out w4 HQQ.out
    have r0:w4.cell? ⟨gr,0,none⟩=some (.int .i64 0):=hv.cell 0 (by omega)
    have r1:w4.cell? ⟨gr,1,none⟩=some (.int .i64 0):=hv.cell 1 (by omega)
    have r2:w4.cell? ⟨gr,2,none⟩=some (.int .i64 0):=hv.cell 2 (by omega)
    have r3:w4.cell? ⟨gr,3,none⟩=some (.int .i64 0):=hv.cell 3 (by omega)
    have r4:w4.cell? ⟨gr,4,none⟩=some (.int .i64 0):=hv.cell 4 (by omega)
    have r5:w4.cell? ⟨gr,5,none⟩=some (.bool false):=hv.cell 5 (by omega)
    have s0:=hv.thaw 0
    have s1:=hv.thaw 1
    have s2:=hv.thaw 2
    have s3:=hv.thaw 3
    have s4:=hv.thaw 4
    have s5:=hv.thaw 5
    obtain⟨d0,d1,d2,d3,d4,d5⟩:=set6_cells hv (.int .i64 Y.2) (.int .i64 Y.1.length) (.int .i64 X.length) (.int .i64 O.length) (.int .i64 n) (.bool false)
    have D0:=hid d0
    have D1:=hid d1
    have D2:=hid d2
    have D3:=hid d3
    have D4:=hid d4
    have D5:=hid d5
    have HE:=hid (set6_bel (w:=w4) hg1 (.int .i64 Y.2) (.int .i64 Y.1.length) (.int .i64 X.length) (.int .i64 O.length) (.int .i64 n) (.bool false))
    clear d0 d1 d2 d3 d4 d5 hv
    go_wp2_with fail
    rw[HR3.out]
    refine bodyPost_ret (results_run6 rfl rfl D0.out D1.out D2.out D3.out D4.out D5.out) rfl ⟨A7,c7,rfl,HO7.out.set6 HAP.out _ _ _ _ _ _,hc7,?_⟩
    have h2:=HE.out
    rw[HGC.out] at h2
    exact(HB0.out.trans (HK4.out.mono HB0.out.size)).trans h2
  ·have hR2:R=([],⟨0,0,0,0,0,false⟩,hd):=by
    rw[HR.out]
    unfold tblF
    rw[if_neg (by simp),if_pos (by rw[← HHD.out];exact hd0),HHD.out]
   have HR2:=hid hR2
   have HQQ:=hid HK2.out
   clear hR2
   have hz1:(hd == 0)=false:=beq_eq_false_iff_ne.2 hd0
   have hz3:(hd != 0)=true:=by simp[hd0]
   have hv:=HRP.out w2 HQQ.out
   have r0:w2.cell? ⟨gr,0,none⟩=some (.int .i64 0):=hv.cell 0 (by omega)
   have r1:w2.cell? ⟨gr,1,none⟩=some (.int .i64 0):=hv.cell 1 (by omega)
   have r2:w2.cell? ⟨gr,2,none⟩=some (.int .i64 0):=hv.cell 2 (by omega)
   have r3:w2.cell? ⟨gr,3,none⟩=some (.int .i64 0):=hv.cell 3 (by omega)
   have r4:w2.cell? ⟨gr,4,none⟩=some (.int .i64 0):=hv.cell 4 (by omega)
   have r5:w2.cell? ⟨gr,5,none⟩=some (.bool false):=hv.cell 5 (by omega)
   have s0:=hv.thaw 0
   have s1:=hv.thaw 1
   have s2:=hv.thaw 2
   have s3:=hv.thaw 3
   have s4:=hv.thaw 4
   have s5:=hv.thaw 5
   obtain⟨d0,d1,d2,d3,d4,d5⟩:=set6_cells hv (.int .i64 0) (.int .i64 0) (.int .i64 0) (.int .i64 0) (.int .i64 0) (.bool false)
   have D0:=hid d0
   have D1:=hid d1
   have D2:=hid d2
   have D3:=hid d3
   have D4:=hid d4
   have D5:=hid d5
   have HE:=hid (set6_bel (w:=w2) hg1 (.int .i64 0) (.int .i64 0) (.int .i64 0) (.int .i64 0) (.int .i64 0) (.bool false))
   clear d0 d1 d2 d3 d4 d5 hv
   go_wp2_with fail
   rw[HR2.out]
   refine bodyPost_ret (results_run6 rfl rfl D0.out D1.out D2.out D3.out D4.out D5.out) rfl ⟨none,0,rfl,rdn_none _,Nat.le_refl _,?_⟩
   have h2:=HE.out
   rw[HGC.out] at h2
   exact(HB0.out.trans (HK2.out.mono HB0.out.size)).trans h2
 ·have hR2:R=([],⟨0,0,0,0,0,false⟩,z):=by
   rw[HR.out]
   unfold tblF
   rw[if_pos hz0]
  have HR2:=hid hR2
  have HQQ:=hid HK1.out
  clear hR2
  have hz1:(z == 0)=false:=beq_eq_false_iff_ne.2 hz0
  have hz3:(z != 0)=true:=by simp[hz0]
  have hv:=HRP.out w1 HQQ.out
  have r0:w1.cell? ⟨gr,0,none⟩=some (.int .i64 0):=hv.cell 0 (by omega)
  have r1:w1.cell? ⟨gr,1,none⟩=some (.int .i64 0):=hv.cell 1 (by omega)
  have r2:w1.cell? ⟨gr,2,none⟩=some (.int .i64 0):=hv.cell 2 (by omega)
  have r3:w1.cell? ⟨gr,3,none⟩=some (.int .i64 0):=hv.cell 3 (by omega)
  have r4:w1.cell? ⟨gr,4,none⟩=some (.int .i64 0):=hv.cell 4 (by omega)
  have r5:w1.cell? ⟨gr,5,none⟩=some (.bool false):=hv.cell 5 (by omega)
  have s0:=hv.thaw 0
  have s1:=hv.thaw 1
  have s2:=hv.thaw 2
  have s3:=hv.thaw 3
  have s4:=hv.thaw 4
  have s5:=hv.thaw 5
  obtain⟨d0,d1,d2,d3,d4,d5⟩:=set6_cells hv (.int .i64 0) (.int .i64 0) (.int .i64 0) (.int .i64 0) (.int .i64 0) (.bool false)
  have D0:=hid d0
  have D1:=hid d1
  have D2:=hid d2
  have D3:=hid d3
  have D4:=hid d4
  have D5:=hid d5
  have HE:=hid (set6_bel (w:=w1) hg1 (.int .i64 0) (.int .i64 0) (.int .i64 0) (.int .i64 0) (.int .i64 0) (.bool false))
  clear d0 d1 d2 d3 d4 d5 hv
  go_wp2_with fail
  rw[HR2.out]
  refine bodyPost_ret (results_run6 rfl rfl D0.out D1.out D2.out D3.out D4.out D5.out) rfl ⟨none,0,rfl,rdn_none _,Nat.le_refl _,?_⟩
  have h2:=HE.out
  rw[HGC.out] at h2
  exact(HB0.out.trans (HK1.out.mono HB0.out.size)).trans h2
end Go.Proofs.YtfddpnhaejkacaaGreat
