import Derived.Test.YtfddpnhaejkacaaGreatSe
import Derived.Test.YtfddpnhaejkacaaGreatLow7
set_option linter.unusedSimpArgs false
set_option linter.unusedVariables false
namespace Go.Proofs.YtfddpnhaejkacaaGreat
open Go.RowKit Tab
open Lib (hid)
theorem fnM_nil (w:World):(Go.binOp .eql 81 (.func (.func 68) #[.func (.func 63) #[] #[]] #[]) .nilFunc).run Tryz.prog w=.ok (.bool false) w:=by kernel_rfl
theorem fnD_nil (w:World):(Go.binOp .eql 81 (.func (.func 68) #[.func (.func 54) #[] #[]] #[]) .nilFunc).run Tryz.prog w=.ok (.bool false) w:=by kernel_rfl
def PRow (M:List Rn) (mb:Bool) (v:Value) (w:World):Prop:=∃ A c,v=.tuple #[.slice A M.length c,.bool mb]∧RdR w w.heap.size A M.length M∧M.length≤c
def PSl (M:List Rn) (v:Value) (w:World):Prop:=∃ A c,v=.slice A M.length c∧RdR w w.heap.size A M.length M∧M.length≤c
theorem PRow.on {M:List Rn} {mb:Bool} {v:Value} {w w':World} (h:PRow M mb v w) (hb:Below w.heap.size w w'):PRow M mb v w':=by
 obtain⟨A,c,e,h1,h2⟩:=h
 exact⟨A,c,e,h1.on hb,h2⟩
theorem PSl.on {M:List Rn} {v:Value} {w w':World} (h:PSl M v w) (hb:Below w.heap.size w w'):PSl M v w':=by
 obtain⟨A,c,e,h1,h2⟩:=h
 exact⟨A,c,e,h1.on hb,h2⟩
def PVz (gp cp k:Nat) (pv cfg sl:Value) (M:List Rn) (mb:Bool) (opn:Nat) (vl:Value) (w:World):Prop:=match opn with
 | 0=>vl=.slice (some ⟨gp,0,none⟩) 2 cp
 | 1=>vl=.pointer (some ⟨gp,k,none⟩)
 | 2=>vl=pv
 | 3=>vl=cfg
 | 4=>vl=sl
 | 5=>PRow M mb vl w
 | 6=>PRow M mb vl w
 | 7=>PSl M vl w
 | 8=>vl=.bool mb
 | 9=>PSl M vl w
 | 10=>vl=.bool mb
 | _=>True
theorem PVz.on {gp cp k:Nat} {pv cfg sl:Value} {M:List Rn} {mb:Bool} {w w':World} (hb:Below w.heap.size w w') (j:Nat) (v:Value) (h:PVz gp cp k pv cfg sl M mb j v w):PVz gp cp k pv cfg sl M mb j v w':=by
 unfold PVz at h ⊢
 split at h <;> first | exact h | exact PRow.on h hb | exact PSl.on h hb
set_option maxRecDepth 100000 in
set_option maxHeartbeats 2000000 in
theorem lpasses_any (A1 A2 A3 A:Option Addr) (n1 n2 n3 n c1 c2 c3 c:Nat) (P:List PtV) (C:List ChV) (L:List Rn) (w:World) (hI:RedIn w A1 A2 A n1 n2 n c1 c P C L) :
  Calls Tryz.prog 12 #[.agg #[.slice A1 n1 c1,.slice A2 n2 c2,.slice A3 n3 c3],.slice A n c] w (Ans (.bool true) w):=by
 have hb0:=bl1 w (.cells #[.slice A1 n1 c1,.slice A2 n2 c2,.slice A3 n3 c3] 31)
 have hbox:=box_vec w (.slice A1 n1 c1) (.slice A2 n2 c2) (.slice A3 n3 c3) 31
 have hf:=hI.frm
 have hln:=hI.row.len
 have HIN:=hid (hI.on hb0)
 have HB0:=hid hb0
 have HF:=hid hf
 have HMF:Hid ((tidy L).length≤1048576):=hid (by have h1:=tidy_le L;have h2:=hf.le;omega)
 have HDF:Hid ((drwR P C L).length≤1048576):=hid (by have h1:=(drwR_frm (P:=P) (C:=C) (L:=L) (by rw[hln];exact hf)).le;omega)
 clear hI hb0 hf hln
 go_enter Tryz.func12,Tryz.ntmps12
 go_upto_region 1 with fail
 generalize w.alloc (.cells #[.slice A1 n1 c1,.slice A2 n2 c2,.slice A3 n3 c3] 31)=W at hbox HIN HB0 ⊢
 obtain⟨gc,hgc⟩:∃ gc,gc=w.heap.size:=⟨_,rfl⟩
 rw[← hgc] at hbox ⊢
 clear hgc
 have HBX:=hid fun V (hv:Below W.heap.size W V)=>(hbox.on hv).three
 have HWM:=hid fun V (hv:Below W.heap.size W V)=>wmerge_any A1 A2 A3 A n1 n2 n3 n c1 c2 c3 c L V (HIN.out.on hv).row HIN.out.cap (by have:=HF.out.le;omega) (by have:=HF.out.tk;omega)
 have HWD:=hid fun V (hv:Below W.heap.size W V)=>wdraw_any A1 A2 A3 A n1 n2 n3 n c1 c2 c3 c P C L V (HIN.out.on hv).cf (HIN.out.on hv).row (by have:=HIN.out.q1;omega) HIN.out.q2 HIN.out.cap (by have:=HF.out.le;omega) (by have:=HF.out.tk;omega) HIN.out.per
 have HRM:=hid fun V (hv:Below W.heap.size W V)=>(HIN.out.on hv).rmerge
 have HRD:=hid fun V (hv:Below W.heap.size W V)=>(HIN.out.on hv).rdraw A3 n3 c2 c3
 generalize tidy L=M at HWM HRM HMF
 generalize mergeB L=mb at HWM HRM
 generalize drwR P C L=Y at HWD HRD HDF
 generalize drwB P C L=db at HWD HRD
 clear hbox
 go_wp2_with fail
 refine(passes_any W).mono ?_
 rintro e w1 ⟨gp,cp,rfl,hcp,hg1,hg2,hp0,hp1,hb1⟩
 have HK1:=hid hb1
 have HP:Hid (∀ V,Below w1.heap.size w1 V→V.cell? ⟨gp,0,none⟩=some (.func (.func 68) #[.func (.func 63) #[] #[]] #[])∧V.cell? ⟨gp,1,none⟩=some (.func (.func 68) #[.func (.func 54) #[] #[]] #[])):=hid fun V hv=>⟨(hv.cell (p:=⟨gp,0,none⟩) hg2).trans hp0,(hv.cell (p:=⟨gp,1,none⟩) hg2).trans hp1⟩
 clear hb1 hp0 hp1 hg1 hg2
 obtain⟨p0,p1⟩:=HP.out w1 (Below.refl _ _)
 have hn0:=fnM_nil w1
 have hn1:=fnD_nil w1
 obtain⟨m0,m1,m2⟩:=HBX.out w1 HK1.out
 go_wp2_with fail
 have HQ1:=hid (Below.refl w1.heap.size w1)
 refine Rgs.region (by kernel_rfl) (by kernel_rfl) (PVz gp cp 0 (.func (.func 68) #[.func (.func 63) #[] #[]] #[]) (.agg #[.slice A1 n1 c1,.slice A2 n2 c2,.slice A3 n3 c3]) (.slice A n c) M mb) (fun _ _ w'=>Below w1.heap.size w1 w') (Below.refl _ _).drew (Rgs.steps_of ?_) ?_
 ·refine⟨?_,?_,?_,?_,?_,?_,?_,?_,?_,?_,?_,trivial⟩ <;> intro a wx live S E D C h0 hk hW
  ·have e5:a.eval (.tmp 5)=.slice (some ⟨gp,0,none⟩) 2 cp:=E 5 rfl
   exact Rgs.val rfl (Reg.wanted_free rfl) (.slice (some ⟨gp,0,none⟩) 2 cp) (by have c:=Reg.consts a;generalize a.eval=ρ at *;simp[execOp,go_sem,c.1,c.2,e5]) rfl hW
  ·have d0:a.eval (.tmp 31)=.slice (some ⟨gp,0,none⟩) 2 cp:=D 0 rfl _ _ rfl rfl
   exact Rgs.val rfl (Reg.wanted_free rfl) (.pointer (some ⟨gp,0,none⟩)) (by have c:=Reg.consts a;generalize a.eval=ρ at *;simp[execOp,go_sem,c.1,c.2,d0]) rfl hW
  ·have d1:a.eval (.tmp 32)=.pointer (some ⟨gp,0,none⟩):=D 1 rfl _ _ rfl rfl
   have hp:=(HP.out wx (HQ1.out.trans (hW.mono HQ1.out.size))).1
   exact Rgs.val rfl (Reg.wanted_free rfl) (.func (.func 68) #[.func (.func 63) #[] #[]] #[]) (by have c:=Reg.consts a;generalize a.eval=ρ at *;simp[execOp,go_sem,c.1,c.2,d1,hp]) rfl hW
  ·have e2:a.eval (.tmp 2)=.pointer (some ⟨gc,0,none⟩):=E 2 rfl
   obtain⟨m0,m1,m2⟩:=HBX.out wx (HK1.out.trans (hW.mono HK1.out.size))
   exact Rgs.val rfl (Reg.wanted_free rfl) (.agg #[.slice A1 n1 c1,.slice A2 n2 c2,.slice A3 n3 c3]) (by have c:=Reg.consts a;generalize a.eval=ρ at *;simp[execOp,go_sem,c.1,c.2,e2,m0,m1,m2]) rfl hW
  ·have e1:a.eval (.tmp 1)=.slice A n c:=E 1 rfl
   exact Rgs.val rfl (Reg.wanted_free rfl) (.slice A n c) (by have c:=Reg.consts a;generalize a.eval=ρ at *;simp[execOp,go_sem,c.1,c.2,e1]) rfl hW
  ·have d2:a.eval (.tmp 33)=.func (.func 68) #[.func (.func 63) #[] #[]] #[]:=D 2 rfl _ _ rfl rfl
   have d3:a.eval (.tmp 34)=.agg #[.slice A1 n1 c1,.slice A2 n2 c2,.slice A3 n3 c3]:=D 3 rfl _ _ rfl rfl
   have d4:a.eval (.tmp 35)=.slice A n c:=D 4 rfl _ _ rfl rfl
   refine Rgs.call rfl (Reg.wanted_free rfl) 68 #[.func (.func 63) #[] #[],.agg #[.slice A1 n1 c1,.slice A2 n2 c2,.slice A3 n3 c3],.slice A n c] (by have c:=Reg.consts a;generalize a.eval=ρ at *;simp[execOp,go_sem,c.1,c.2,d2,d3,d4]) ?_
   refine(HWM.out wx (HK1.out.trans (hW.mono HK1.out.size))).mono ?_
   rintro e wy ⟨A5,c5,rfl,hr5,hc5,hb5⟩
   exact⟨_,rfl,⟨A5,c5,rfl,hr5,hc5⟩,hW.trans (hb5.mono hW.size),fun j v _ hv=>PVz.on hb5 j v hv⟩
  ·obtain⟨A5,c5,e5,hr,hc⟩:PRow M mb (a.eval (.tmp 36)) wx:=D 5 rfl _ _ rfl rfl
   exact Rgs.val rfl (Reg.wanted_free rfl) (.tuple #[.slice A5 M.length c5,.bool mb]) (by have c:=Reg.consts a;generalize a.eval=ρ at *;simp[execOp,go_sem,c.1,c.2,e5]) ⟨A5,c5,rfl,hr,hc⟩ hW
  ·obtain⟨A5,c5,e5,hr,hc⟩:PRow M mb (a.eval (.tmp 30)) wx:=D 6 rfl _ _ rfl rfl
   exact Rgs.val rfl (Reg.wanted_free rfl) (.slice A5 M.length c5) (by have c:=Reg.consts a;generalize a.eval=ρ at *;simp[execOp,go_sem,c.1,c.2,e5]) ⟨A5,c5,rfl,hr,hc⟩ hW
  ·obtain⟨A5,c5,e5,hr,hc⟩:PRow M mb (a.eval (.tmp 30)) wx:=D 6 rfl _ _ rfl rfl
   exact Rgs.val rfl (Reg.wanted_free rfl) (.bool mb) (by have c:=Reg.consts a;generalize a.eval=ρ at *;simp[execOp,go_sem,c.1,c.2,e5]) rfl hW
  ·obtain⟨A5,c5,e5,hr,hc⟩:PSl M (a.eval (.tmp 37)) wx:=D 7 rfl _ _ rfl rfl
   exact Rgs.val rfl (Reg.wanted_free rfl) (.slice A5 M.length c5) (by have c:=Reg.consts a;generalize a.eval=ρ at *;simp[execOp,go_sem,c.1,c.2,e5]) ⟨A5,c5,rfl,hr,hc⟩ hW
  ·have d8:a.eval (.tmp 38)=.bool mb:=D 8 rfl _ _ rfl rfl
   exact Rgs.val rfl (Reg.wanted_free rfl) (.bool mb) (by have c:=Reg.consts a;generalize a.eval=ρ at *;simp[execOp,go_sem,c.1,c.2,d8]) rfl hW
 ·intro a w2 live hs hd E D Hl hW
  obtain⟨A5,c5,e6,hr5,hc5⟩:PSl M (a.eval (.tmp 6)) w2:=by
   obtain⟨v,hv,he⟩:=D 9 _ rfl
   rw[he 6 rfl]
   exact hv
  have e7:a.eval (.tmp 7)=.bool mb:=by
   obtain⟨v,hv,he⟩:=D 10 _ rfl
   exact(he 7 rfl).trans hv
  rw[Rgs.act_ws a _ _ hs hd E [31,32,33,34,35,36,30,37,38,6,7] (by kernel_rfl)]
  simp only[List.foldl,List.setIfInBounds_toArray,List.set_cons_succ,List.set_cons_zero,e6,e7]
  have HB5:=hid hW
  have HR5:=hid hr5
  clear E D Hl hW e6 e7 hr5 p0 p1 m0 m1 m2 hn0 hn1
  generalize a.eval=ρ
  clear a hs hd
  have HK2:=hid (HK1.out.trans (HB5.out.mono HK1.out.size))
  have HT:=hid (HRM.out w2 HK2.out)
  go_wp2_with fail
  refine HT.out.mono ?_
  rintro e w3 ⟨A6,c6,rfl,hr6,hc6,hb6⟩
  have HR5':=hid (HR5.out.on hb6)
  have HR6:=hid hr6
  have HK3:=hid (HK2.out.trans (hb6.mono HK2.out.size))
  have HQ1':=hid (HB5.out.trans (hb6.mono HB5.out.size))
  clear hr6 hb6 HT HR5 HQ1
  have HQ1:=HQ1'
  go_wp2_with fail
  refine Rgs.region (by kernel_rfl) (by kernel_rfl) (PVz gp cp 1 (.func (.func 68) #[.func (.func 54) #[] #[]] #[]) (.agg #[.slice A1 n1 c1,.slice A2 n2 c2,.slice A3 n3 c3]) (.slice A n c) Y db) (fun _ _ w'=>Below w3.heap.size w3 w') (Below.refl _ _).drew (Rgs.steps_of ?_) ?_
  ·refine⟨?_,?_,?_,?_,?_,?_,?_,?_,?_,?_,?_,trivial⟩ <;> intro a wx live S E D C h0 hk hW
   ·have e5:a.eval (.tmp 5)=.slice (some ⟨gp,0,none⟩) 2 cp:=E 5 rfl
    exact Rgs.val rfl (Reg.wanted_free rfl) (.slice (some ⟨gp,0,none⟩) 2 cp) (by have c:=Reg.consts a;generalize a.eval=ρ at *;simp[execOp,go_sem,c.1,c.2,e5]) rfl hW
   ·have d0:a.eval (.tmp 45)=.slice (some ⟨gp,0,none⟩) 2 cp:=D 0 rfl _ _ rfl rfl
    exact Rgs.val rfl (Reg.wanted_free rfl) (.pointer (some ⟨gp,1,none⟩)) (by have c:=Reg.consts a;generalize a.eval=ρ at *;simp[execOp,go_sem,c.1,c.2,d0]) rfl hW
   ·have d1:a.eval (.tmp 46)=.pointer (some ⟨gp,1,none⟩):=D 1 rfl _ _ rfl rfl
    have hp:=(HP.out wx (HQ1.out.trans (hW.mono HQ1.out.size))).2
    exact Rgs.val rfl (Reg.wanted_free rfl) (.func (.func 68) #[.func (.func 54) #[] #[]] #[]) (by have c:=Reg.consts a;generalize a.eval=ρ at *;simp[execOp,go_sem,c.1,c.2,d1,hp]) rfl hW
   ·have e2:a.eval (.tmp 2)=.pointer (some ⟨gc,0,none⟩):=E 2 rfl
    obtain⟨m0,m1,m2⟩:=HBX.out wx (HK3.out.trans (hW.mono HK3.out.size))
    exact Rgs.val rfl (Reg.wanted_free rfl) (.agg #[.slice A1 n1 c1,.slice A2 n2 c2,.slice A3 n3 c3]) (by have c:=Reg.consts a;generalize a.eval=ρ at *;simp[execOp,go_sem,c.1,c.2,e2,m0,m1,m2]) rfl hW
   ·have e1:a.eval (.tmp 1)=.slice A n c:=E 1 rfl
    exact Rgs.val rfl (Reg.wanted_free rfl) (.slice A n c) (by have c:=Reg.consts a;generalize a.eval=ρ at *;simp[execOp,go_sem,c.1,c.2,e1]) rfl hW
   ·have d2:a.eval (.tmp 47)=.func (.func 68) #[.func (.func 54) #[] #[]] #[]:=D 2 rfl _ _ rfl rfl
    have d3:a.eval (.tmp 48)=.agg #[.slice A1 n1 c1,.slice A2 n2 c2,.slice A3 n3 c3]:=D 3 rfl _ _ rfl rfl
    have d4:a.eval (.tmp 49)=.slice A n c:=D 4 rfl _ _ rfl rfl
    refine Rgs.call rfl (Reg.wanted_free rfl) 68 #[.func (.func 54) #[] #[],.agg #[.slice A1 n1 c1,.slice A2 n2 c2,.slice A3 n3 c3],.slice A n c] (by have c:=Reg.consts a;generalize a.eval=ρ at *;simp[execOp,go_sem,c.1,c.2,d2,d3,d4]) ?_
    refine(HWD.out wx (HK3.out.trans (hW.mono HK3.out.size))).mono ?_
    rintro e wy ⟨A5,c5,rfl,hr5,hc5,hb5⟩
    exact⟨_,rfl,⟨A5,c5,rfl,hr5,hc5⟩,hW.trans (hb5.mono hW.size),fun j v _ hv=>PVz.on hb5 j v hv⟩
   ·obtain⟨A5,c5,e5,hr,hc⟩:PRow Y db (a.eval (.tmp 50)) wx:=D 5 rfl _ _ rfl rfl
    exact Rgs.val rfl (Reg.wanted_free rfl) (.tuple #[.slice A5 Y.length c5,.bool db]) (by have c:=Reg.consts a;generalize a.eval=ρ at *;simp[execOp,go_sem,c.1,c.2,e5]) ⟨A5,c5,rfl,hr,hc⟩ hW
   ·obtain⟨A5,c5,e5,hr,hc⟩:PRow Y db (a.eval (.tmp 44)) wx:=D 6 rfl _ _ rfl rfl
    exact Rgs.val rfl (Reg.wanted_free rfl) (.slice A5 Y.length c5) (by have c:=Reg.consts a;generalize a.eval=ρ at *;simp[execOp,go_sem,c.1,c.2,e5]) ⟨A5,c5,rfl,hr,hc⟩ hW
   ·obtain⟨A5,c5,e5,hr,hc⟩:PRow Y db (a.eval (.tmp 44)) wx:=D 6 rfl _ _ rfl rfl
    exact Rgs.val rfl (Reg.wanted_free rfl) (.bool db) (by have c:=Reg.consts a;generalize a.eval=ρ at *;simp[execOp,go_sem,c.1,c.2,e5]) rfl hW
   ·obtain⟨A5,c5,e5,hr,hc⟩:PSl Y (a.eval (.tmp 51)) wx:=D 7 rfl _ _ rfl rfl
    exact Rgs.val rfl (Reg.wanted_free rfl) (.slice A5 Y.length c5) (by have c:=Reg.consts a;generalize a.eval=ρ at *;simp[execOp,go_sem,c.1,c.2,e5]) ⟨A5,c5,rfl,hr,hc⟩ hW
   ·have d8:a.eval (.tmp 52)=.bool db:=D 8 rfl _ _ rfl rfl
    exact Rgs.val rfl (Reg.wanted_free rfl) (.bool db) (by have c:=Reg.consts a;generalize a.eval=ρ at *;simp[execOp,go_sem,c.1,c.2,d8]) rfl hW
  ·intro a w4 live hs hd E D Hl hW
   obtain⟨A7,c7,e6,hr7,hc7⟩:PSl Y (a.eval (.tmp 10)) w4:=by
    obtain⟨v,hv,he⟩:=D 9 _ rfl
    rw[he 10 rfl]
    exact hv
   have e7:a.eval (.tmp 11)=.bool db:=by
    obtain⟨v,hv,he⟩:=D 10 _ rfl
    exact(he 11 rfl).trans hv
   rw[Rgs.act_ws a _ _ hs hd E [45,46,47,48,49,50,44,51,52,10,11] (by kernel_rfl)]
   simp only[List.foldl,List.setIfInBounds_toArray,List.set_cons_succ,List.set_cons_zero,e6,e7]
   have HB7:=hid hW
   have HR7:=hid hr7
   clear E D Hl hW e6 e7 hr7
   generalize a.eval=ρ
   clear a hs hd
   have HK4:=hid (HK3.out.trans (HB7.out.mono HK3.out.size))
   have HR5:=hid (HR5'.out.on HB7.out)
   have HR6':=hid (HR6.out.on HB7.out)
   have HT:=hid (HRD.out w4 HK4.out)
   obtain⟨m0,m1,m2⟩:=HBX.out w4 HK4.out
   clear HR6 HR5'
   go_wp2_with fail
   refine HT.out.mono ?_
   rintro e w5 ⟨A8,c8,rfl,hr8,hc8,hb8⟩
   have HK5:=hid (HK4.out.trans (hb8.mono HK4.out.size))
   have HSM:=hid (samex_self A5 A6 M.length c5 c6 M w5 (HR5.out.on hb8) (HR6'.out.on hb8) HMF.out)
   have HR8:=hid hr8
   have HR9:=hid (HR7.out.on hb8)
   clear m0 m1 m2 hr8 hb8 HT
   have hbb1:(mb == mb)=true:=beq_self_eq_true _
   have hbb2:(db == db)=true:=beq_self_eq_true _
   go_wp2_with fail
   refine HSM.out.mono ?_
   rintro e w6 ⟨rfl,hb9⟩
   have HK6:=hid (HK5.out.trans (hb9.mono HK5.out.size))
   have HSY:=hid (samex_self A7 A8 Y.length c7 c8 Y w6 (HR9.out.on hb9) (HR8.out.on hb9) HDF.out)
   clear hb9 HSM
   go_wp2_with fail
   refine HSY.out.mono ?_
   rintro e w7 ⟨rfl,hb9⟩
   have HFF:=hid (HB0.out.trans ((HK6.out.trans (hb9.mono HK6.out.size)).mono HB0.out.size))
   clear hb9 HSY
   go_wp2_with fail
   go_ret
   exact Ans.mk rfl HFF.out
end Go.Proofs.YtfddpnhaejkacaaGreat
