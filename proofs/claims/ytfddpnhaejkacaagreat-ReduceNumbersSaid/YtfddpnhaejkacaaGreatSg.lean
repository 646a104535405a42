import Derived.Test.YtfddpnhaejkacaaGreatSf
import Derived.Test.YtfddpnhaejkacaaGreatSo
set_option linter.unusedSimpArgs false
set_option linter.unusedVariables false
namespace Go.Proofs.YtfddpnhaejkacaaGreat
open Go.RowKit Tab
open Lib (hid)
def zQ:PtV:=⟨⟨#[]⟩,0,0,false,false,none,0,0,0,0,0,0,0⟩
def P11:List PtV:=[zQ,zQ]
def L11:List Rn:=[⟨0,1⟩,⟨1,2⟩,⟨0,3⟩]
def M11:List Rn:=[⟨0,4⟩,⟨1,2⟩]
theorem elPtS:Elt 27 68 11 104 (.agg #[.string ⟨#[]⟩,.int .i64 0,.int .i64 0,.bool false,.bool false,.slice none 0 0,.int .i64 0,.int .i64 0,.int .i64 0,.int .i64 0,.int .i64 0]):=⟨Tryz.underlying27,by kernel_rfl,rfl,by omega⟩
theorem run_makeQ (m:Nat) (hm:m≤1024) (W:World):(Instr.makeSlice 27 (.int .i64 (m:Int)) (.int .i64 (m:Int))).run Tryz.prog W=.ok (.slice (some ⟨W.heap.size,0,none⟩) m m) (W.alloc (.cells (madeCells #[.string ⟨#[]⟩,.int .i64 0,.int .i64 0,.bool false,.bool false,.slice none 0 0,.int .i64 0,.int .i64 0,.int .i64 0,.int .i64 0,.int .i64 0] (m*11)) 68)):=by
 obtain⟨i,hi,hz,hs,hby⟩:=info_parts elPtS.hi
 have hr:=run_make (P:=Tryz.prog) W 27 68 i _ elPtS.ht hi hz .i64 .i64 m m (by omega) (by omega) (by rw[hby];omega) (by omega)
 rw[hs] at hr
 simp only[Int.toNat_natCast] at hr
 exact hr
theorem make11 (W:World):(Instr.makeSlice 27 (.int .i64 2) (.int .i64 2)).run Tryz.prog W=.ok (.slice (some ⟨W.heap.size,0,none⟩) 2 2) (W.alloc (.cells (madeCells #[.string ⟨#[]⟩,.int .i64 0,.int .i64 0,.bool false,.bool false,.slice none 0 0,.int .i64 0,.int .i64 0,.int .i64 0,.int .i64 0,.int .i64 0] 22) 68)):=run_makeQ 2 (by omega) W
theorem made11:(madeCells #[.string ⟨#[]⟩,.int .i64 0,.int .i64 0,.bool false,.bool false,.slice none 0 0,.int .i64 0,.int .i64 0,.int .i64 0,.int .i64 0,.int .i64 0] 22).toList=P11.flatMap pcl:=by kernel_rfl
theorem k11_1:tblF P11 [] [⟨1,0,5⟩] [⟨0,5⟩] 0=([⟨1,0,5⟩],⟨0,1,1,1,1,false⟩,0):=by kernel_rfl
theorem k11_2:tblF P11 [] [] [] 12=([],⟨0,0,0,0,0,false⟩,12):=by kernel_rfl
theorem k11_3:redF P11 [] 3 L11=(M11,1):=by kernel_rfl
theorem k11_4:mergeB L11=false:=by kernel_rfl
theorem k11_5:drwB P11 [] M11=false:=by kernel_rfl
theorem k11_6:drwB P11 [] L11=true:=by kernel_rfl
theorem k11_7:validF P11 [] L11 M11=true:=by kernel_rfl
theorem k11_8:tidy L11=L11:=by kernel_rfl
theorem per11:∀ x∈P11,In64 x.per:=fun x hx=>by
 have:x=zQ:=by simpa [P11] using hx
 subst this
 unfold In64
 decide
theorem frmL11:Frm L11 3:=⟨by omega,by omega,by decide,fun r hr=>by
 simp[L11] at hr
 rcases hr with rfl | rfl | rfl <;> simp⟩
theorem frmM11:Frm M11 2:=⟨by omega,by omega,by decide,fun r hr=>by
 simp[M11] at hr
 rcases hr with rfl | rfl <;> simp⟩
structure Cf11 (g:Nat) (w:World):Prop where
 cf:CfW w w.heap.size (some ⟨g,0,none⟩) none 2 0 P11 []
theorem Cf11.on {g:Nat} {w w':World} (h:Cf11 g w) (hb:Below w.heap.size w w'):Cf11 g w':=⟨h.cf.on hb⟩
section
variable {g:Nat} {w:World}
theorem t11_1 (h:Cf11 g w) {A:Option Addr} (hr:RdN w w.heap.size A 1 [⟨1,0,5⟩]):Calls Tryz.prog 16 #[.agg #[.slice (some ⟨g,0,none⟩) 2 2,.slice none 0 0,.slice none 0 0],.slice A 1 1] w
  (fun e w'=>∃ A' c,e=.returned (.tuple #[.slice A' 1 c,.agg #[.int .i64 0,.int .i64 1,.int .i64 1,.int .i64 1,.int .i64 1,.bool false],.int .i64 0])∧Below w.heap.size w w'):=by
 have hok:(F.cons (⟨1,0,5⟩:Nd) .nil .nil).ok:=by simp[F.ok,fine,F.cnt,kn]
 have h1:=ptbl_any (some ⟨g,0,none⟩) none none A 2 0 0 1 2 0 0 1 P11 [] [⟨1,0,5⟩] [⟨0,5⟩] 0 w h.cf hr (by omega) (by omega) (by omega) (by omega) (by omega) per11
  (fun _=>⟨by decide,by decide,by decide,fun r hr=>by simp at hr;subst hr;simp⟩) (fun V hv=>by
   have h3:=of_any A 1 1 ⟨1,0,5⟩ .nil V (hr.on hv) (Nat.le_refl _) hok (by omega)
   exact h3)
 rw[k11_1] at h1
 refine h1.mono ?_
 rintro e w' ⟨A',c,rfl,_,_,hb⟩
 exact⟨A',c,rfl,hb⟩
theorem t11_2 (h:Cf11 g w):Calls Tryz.prog 16 #[.agg #[.slice (some ⟨g,0,none⟩) 2 2,.slice none 0 0,.slice none 0 0],.slice none 0 0] w
  (fun e w'=>∃ A' c,e=.returned (.tuple #[.slice A' 0 c,.agg #[.int .i64 0,.int .i64 0,.int .i64 0,.int .i64 0,.int .i64 0,.bool false],.int .i64 12])∧Below w.heap.size w w'):=by
 have hr:∀ V:World,RdN V V.heap.size none 0 []:=fun V=>rdn_none V
 have h1:=ptbl_any (some ⟨g,0,none⟩) none none none 2 0 0 0 2 0 0 0 P11 [] [] [] 12 w h.cf (hr w) (by omega) (by omega) (by omega) (by omega) (by omega) per11
  (fun h=>by omega) (fun V hv=>(of_wrong none 0 0 V 12 (right_none none 0 0 [] V (hr V) (Nat.le_refl _) (by omega) rfl) (by omega)).mono fun _ _ k=>ofg_bad (by omega) k)
 rw[k11_2] at h1
 refine h1.mono ?_
 rintro e w' ⟨A',c,rfl,_,_,hb⟩
 exact⟨A',c,rfl,hb⟩
theorem t11_3 (h:Cf11 g w) {A:Option Addr} (hr:RdR w w.heap.size A 3 L11):Calls Tryz.prog 33 #[.agg #[.slice (some ⟨g,0,none⟩) 2 2,.slice none 0 0,.slice none 0 0],.slice A 3 3] w
  (fun e w'=>∃ A' c,e=.returned (.tuple #[.slice A' 2 c,.int .i64 1])∧RdR w' w'.heap.size A' 2 M11∧2≤c∧Below w.heap.size w w'):=by
 have h1:=preds_any (some ⟨g,0,none⟩) none none A 2 0 0 3 2 0 0 3 P11 [] L11 w ⟨h.cf,hr,by omega,by omega,by omega,by omega,per11,frmL11⟩
 rw[k11_3] at h1
 refine h1.mono ?_
 rintro e w' ⟨A',c,rfl,hr',hc,hb⟩
 exact⟨A',c,rfl,hr',hc,hb⟩
theorem t11_4 {A:Option Addr} (hr:RdR w w.heap.size A 3 L11):Calls Tryz.prog 35 #[.agg #[.slice (some ⟨g,0,none⟩) 2 2,.slice none 0 0,.slice none 0 0],.slice A 3 3] w
  (fun e w'=>∃ A' c,e=.returned (.tuple #[.slice A' 3 c,.bool false])∧Below w.heap.size w w'):=by
 have h1:=pmerge_any (some ⟨g,0,none⟩) none none A 2 0 0 3 2 0 0 3 L11 w hr (by omega) (by omega) (by decide)
 rw[k11_4,k11_8] at h1
 refine h1.mono ?_
 rintro e w' ⟨A',c,rfl,_,_,hb⟩
 exact⟨A',c,rfl,hb⟩
theorem t11_5 (h:Cf11 g w) {A:Option Addr} {c:Nat} (hr:RdR w w.heap.size A 2 M11) (hc:2≤c):Calls Tryz.prog 27 #[.agg #[.slice (some ⟨g,0,none⟩) 2 2,.slice none 0 0,.slice none 0 0],.slice A 2 c] w (Ans (.bool true) w):=by
 have h1:=stuck_any (some ⟨g,0,none⟩) none none A 2 0 0 2 2 0 0 c P11 [] M11 w h.cf hr (by omega) (by omega) hc (by omega) (by decide) per11
 rw[k11_5] at h1
 exact h1
theorem t11_6 (h:Cf11 g w) {A:Option Addr} (hr:RdR w w.heap.size A 3 L11):Calls Tryz.prog 27 #[.agg #[.slice (some ⟨g,0,none⟩) 2 2,.slice none 0 0,.slice none 0 0],.slice A 3 3] w (Ans (.bool false) w):=by
 have h1:=stuck_any (some ⟨g,0,none⟩) none none A 2 0 0 3 2 0 0 3 P11 [] L11 w h.cf hr (by omega) (by omega) (by omega) (by omega) (by decide) per11
 rw[k11_6] at h1
 exact h1
theorem t11_7 (h:Cf11 g w) {A B:Option Addr} {c:Nat} (hr:RdR w w.heap.size A 3 L11) (hm:RdR w w.heap.size B 2 M11) (hc:2≤c):Calls Tryz.prog 29 #[.agg #[.slice (some ⟨g,0,none⟩) 2 2,.slice none 0 0,.slice none 0 0],.slice A 3 3,.slice B 2 c] w (Ans (.bool true) w):=by
 have h1:=valid_any (some ⟨g,0,none⟩) none none A B 2 0 0 3 2 2 0 0 3 c P11 [] L11 M11 w h.cf hr hm (by omega) (by omega) (by omega) (by omega) hc (by omega) (by decide) per11 frmM11
 rw[k11_7] at h1
 exact h1
end
set_option maxRecDepth 100000 in
set_option maxHeartbeats 4000000 in
theorem known11_any (w:World):Calls Tryz.prog 15 #[] w (Ans (.bool true) w):=by
 have hmk:=make11 w
 obtain⟨Z,hZ⟩:∃ Z,Z=madeCells #[.string ⟨#[]⟩,.int .i64 0,.int .i64 0,.bool false,.bool false,.slice none 0 0,.int .i64 0,.int .i64 0,.int .i64 0,.int .i64 0,.int .i64 0] 22:=⟨_,rfl⟩
 have hZl:Z.toList=P11.flatMap pcl:=by rw[hZ];exact made11
 rw[← hZ] at hmk
 have hP:RdB pcl ((w.alloc (.cells Z 68)).alloc (.cells #[.slice (some ⟨w.heap.size,0,none⟩) 2 2,.slice none 0 0,.slice none 0 0] 31)) ((w.alloc (.cells Z 68)).alloc (.cells #[.slice (some ⟨w.heap.size,0,none⟩) 2 2,.slice none 0 0,.slice none 0 0] 31)).heap.size (some ⟨w.heap.size,0,none⟩) 2 P11 :=
  RdB.on (⟨rfl,rdV_new w Z 68 _ hZl⟩:RdB pcl (w.alloc (.cells Z 68)) (w.alloc (.cells Z 68)).heap.size (some ⟨w.heap.size,0,none⟩) 2 P11) (bl1 _ _)
 have hb0:Below w.heap.size w ((w.alloc (.cells Z 68)).alloc (.cells #[.slice (some ⟨w.heap.size,0,none⟩) 2 2,.slice none 0 0,.slice none 0 0] 31)):=(bl1 w _).alloc (by simp) _
 have hbox:=box_vec (w.alloc (.cells Z 68)) (.slice (some ⟨w.heap.size,0,none⟩) 2 2) (.slice none 0 0) (.slice none 0 0) 31
 have e:(w.alloc (.cells Z 68)).heap.size=w.heap.size+1:=by simp
 rw[e] at hbox
 have HCF:=hid (Cf11.mk ⟨hP,⟨rfl,RdV.nil⟩⟩)
 have HB0:=hid hb0
 clear hZ hP hb0 hZl e
 go_enter Tryz.func15,Tryz.ntmps15
 go_upto_region 2 with fail
 generalize (w.alloc (.cells Z 68)).alloc (.cells #[.slice (some ⟨w.heap.size,0,none⟩) 2 2,.slice none 0 0,.slice none 0 0] 31)=W at hbox HCF HB0 ⊢
 generalize w.heap.size+1=gc at hbox ⊢
 obtain⟨gp,hgp⟩:∃ gp,gp=w.heap.size:=⟨_,rfl⟩
 rw[← hgp] at hbox HCF ⊢
 have HBX:=hid fun V (hv:Below W.heap.size W V)=>(hbox.on hv).three
 clear hbox hmk hgp
 have hb1:=bl1 W (.cells #[.int .i64 1,.int .i64 0,.int .i64 5] 83)
 have hr1:RdN (W.alloc (.cells #[.int .i64 1,.int .i64 0,.int .i64 5] 83)) (W.alloc (.cells #[.int .i64 1,.int .i64 0,.int .i64 5] 83)).heap.size (some ⟨W.heap.size,0,none⟩) 1 [⟨1,0,5⟩] :=
  (OwnN.lit W W.heap.size #[.int .i64 1,.int .i64 0,.int .i64 5] [⟨1,0,5⟩] 1 rfl rfl (Nat.le_refl _) (by omega) (by intro x hx;simp at hx;subst hx;exact ndIn_mk (by omega) (by omega) (by omega))).rdn
 have HK1:=hid hb1
 have HR1:=hid hr1
 clear hb1 hr1
 go_upto_region 3 with fail
 generalize W.alloc (.cells #[.int .i64 1,.int .i64 0,.int .i64 5] 83)=w1 at HK1 HR1 ⊢
 generalize W.heap.size=g1 at HR1 ⊢
 have HT:=hid (t11_1 (HCF.out.on HK1.out) HR1.out)
 obtain⟨m0,m1,m2⟩:=HBX.out w1 HK1.out
 go_wp2_with fail
 refine HT.out.mono ?_
 rintro e w2 ⟨A2,c2,rfl,hb2⟩
 have HK2:=hid (HK1.out.trans (hb2.mono HK1.out.size))
 clear HT hb2 m0 m1 m2
 go_upto_region 4 with fail
 have hv:=Vec.lit w2 #[.int .i64 0,.int .i64 1,.int .i64 1,.int .i64 1,.int .i64 1,.bool false] 45 6 (fun j=>if j=0 then .int .i64 0 else if j=5 then .bool false else .int .i64 1) (fun j hj=>by rcases(by omega:j=0∨j=1∨j=2∨j=3∨j=4∨j=5) with rfl | rfl | rfl | rfl | rfl | rfl <;> rfl)
 have HV:=hid hv
 have HK3:=hid (HK2.out.trans ((bl1 w2 (.cells #[.int .i64 0,.int .i64 1,.int .i64 1,.int .i64 1,.int .i64 1,.bool false] 45)).mono HK2.out.size))
 clear hv
 generalize w2.alloc (.cells #[.int .i64 0,.int .i64 1,.int .i64 1,.int .i64 1,.int .i64 1,.bool false] 45)=w3 at HV HK3 ⊢
 generalize w2.heap.size=gr at HV ⊢
 have HT:=hid (t11_2 (HCF.out.on HK3.out))
 obtain⟨m0,m1,m2⟩:=HBX.out w3 HK3.out
 go_wp2_with fail
 refine HT.out.mono ?_
 rintro e w4 ⟨A4,c4,rfl,hb4⟩
 have HV4:=hid (HV.out.on hb4)
 have HK4:=hid (HK3.out.trans (hb4.mono HK3.out.size))
 clear HT hb4 m0 m1 m2
 go_upto_region 5 with fail
 have hb5:=bl1 w4 (.cells #[.int .i64 0,.int .i64 0,.int .i64 0,.int .i64 0,.int .i64 0,.bool false] 45)
 have HV5:=hid (HV4.out.on hb5)
 have HK5:=hid (HK4.out.trans (hb5.mono HK4.out.size))
 clear hb5
 generalize w4.alloc (.cells #[.int .i64 0,.int .i64 0,.int .i64 0,.int .i64 0,.int .i64 0,.bool false] 45)=w5 at HV5 HK5 ⊢
 generalize w4.heap.size=gz
 go_upto_region 6 with fail
 have hb6:=bl1 w5 (.cells #[.int .i64 0,.int .i64 1,.int .i64 1,.int .i64 2,.int .i64 0,.int .i64 3] 75)
 have hrl:RdR (w5.alloc (.cells #[.int .i64 0,.int .i64 1,.int .i64 1,.int .i64 2,.int .i64 0,.int .i64 3] 75)) (w5.alloc (.cells #[.int .i64 0,.int .i64 1,.int .i64 1,.int .i64 2,.int .i64 0,.int .i64 3] 75)).heap.size (some ⟨w5.heap.size,0,none⟩) 3 L11:=⟨rfl,rdV_new w5 _ _ _ rfl⟩
 have HV6:=hid (HV5.out.on hb6)
 have HK6:=hid (HK5.out.trans (hb6.mono HK5.out.size))
 have HRL:=hid hrl
 clear hb6 hrl
 generalize w5.alloc (.cells #[.int .i64 0,.int .i64 1,.int .i64 1,.int .i64 2,.int .i64 0,.int .i64 3] 75)=w6 at HV6 HK6 HRL ⊢
 generalize w5.heap.size=gl at HRL ⊢
 have HT:=hid (t11_3 (HCF.out.on HK6.out) HRL.out)
 obtain⟨m0,m1,m2⟩:=HBX.out w6 HK6.out
 go_wp2_with fail
 refine HT.out.mono ?_
 rintro e w7 ⟨A7,c7,rfl,hr7,hc7,hb7⟩
 have HV7:=hid (HV6.out.on hb7)
 have HK7:=hid (HK6.out.trans (hb7.mono HK6.out.size))
 have HR7:=hid hr7
 have HL7:=hid (HRL.out.on hb7)
 clear HT hb7 m0 m1 m2 hr7
 have HT:=hid (t11_4 (g:=gp) HL7.out)
 obtain⟨m0,m1,m2⟩:=HBX.out w7 HK7.out
 go_wp2_with fail
 refine HT.out.mono ?_
 rintro e w8 ⟨A8,c8,rfl,hb8⟩
 have HV8:=hid (HV7.out.on hb8)
 have HK8:=hid (HK7.out.trans (hb8.mono HK7.out.size))
 have HR8:=hid (HR7.out.on hb8)
 have HL8:=hid (HL7.out.on hb8)
 clear HT hb8 m0 m1 m2
 have HT:=hid (t11_5 (HCF.out.on HK8.out) HR8.out hc7)
 obtain⟨m0,m1,m2⟩:=HBX.out w8 HK8.out
 have f1:w8.cell? ⟨gr,1,none⟩=some (.int .i64 1):=(HV8.out.cell 1 (by omega)).trans rfl
 have f4:w8.cell? ⟨gr,4,none⟩=some (.int .i64 1):=(HV8.out.cell 4 (by omega)).trans rfl
 have f5:w8.cell? ⟨gr,5,none⟩=some (.bool false):=(HV8.out.cell 5 (by omega)).trans rfl
 go_wp2_with fail
 refine HT.out.mono ?_
 rintro e w9 ⟨rfl,hb9⟩
 have HK9:=hid (HK8.out.trans (hb9.mono HK8.out.size))
 have HR9:=hid (HR8.out.on hb9)
 have HL9:=hid (HL8.out.on hb9)
 clear HT hb9 m0 m1 m2 f1 f4 f5
 have HT:=hid (t11_6 (HCF.out.on HK9.out) HL9.out)
 obtain⟨m0,m1,m2⟩:=HBX.out w9 HK9.out
 go_wp2_with fail
 refine HT.out.mono ?_
 rintro e x1 ⟨rfl,hb9⟩
 have KK1:=hid (HK9.out.trans (hb9.mono HK9.out.size))
 have HT:=hid (t11_7 (HCF.out.on KK1.out) (HL9.out.on hb9) (HR9.out.on hb9) hc7)
 clear hb9 m0 m1 m2
 obtain⟨m0,m1,m2⟩:=HBX.out x1 KK1.out
 go_wp2_with fail
 refine HT.out.mono ?_
 rintro e x2 ⟨rfl,hb9⟩
 have KK2:=hid (KK1.out.trans (hb9.mono KK1.out.size))
 clear HT hb9 m0 m1 m2
 go_wp2_with fail
 refine(passes_any x2).mono ?_
 rintro e x3 ⟨gq,cq,rfl,_,_,_,_,_,hb9⟩
 have HFF:=hid (HB0.out.trans ((KK2.out.trans (hb9.mono KK2.out.size)).mono HB0.out.size))
 clear hb9
 go_wp2_with fail
 go_ret
 exact Ans.mk rfl HFF.out
theorem reduceW:ReduceW 41 where
 merge A1 A2 A3 A n1 n2 n3 n c1 c2 c3 c P C L w h:=pmerge_any A1 A2 A3 A n1 n2 n3 n c1 c2 c3 c L w h.row h.cap (by have:=h.frm.le;omega) (by have:=h.frm.tk;omega)
 draw A1 A2 A3 A n1 n2 n3 n c1 c2 c3 c P C L w h:=pdraw_any A1 A2 A3 A n1 n2 n3 n c1 c2 c3 c P C L w h.cf h.row (by have:=h.q1;omega) h.q2 h.cap (by have:=h.frm.le;omega) (by have:=h.frm.tk;omega) h.per
 stuck A1 A2 A3 A n1 n2 n3 n c1 c2 c3 c P C L w h:=stuck_any A1 A2 A3 A n1 n2 n3 n c1 c2 c3 c P C L w h.cf h.row (by have:=h.q1;omega) h.q2 h.cap (by have:=h.frm.le;omega) (by have:=h.frm.tk;omega) h.per
 valid A1 A2 A3 A B n1 n2 n3 n m c1 c2 c3 c d P C L X w h hX hd hF:=valid_any A1 A2 A3 A B n1 n2 n3 n m c1 c2 c3 c d P C L X w h.cf h.row hX h.q1 h.n1c h.q2 h.cap hd (by have:=h.frm.le;omega) (by have:=h.frm.tk;omega) h.per hF
 runs A1 A2 A3 A n1 n2 n3 n c1 c2 c3 c P C L w h:=preds_any A1 A2 A3 A n1 n2 n3 n c1 c2 c3 c P C L w h
 table A1 A2 A3 A n1 n2 n3 n c1 c2 c3 c P C t X z w hCf hT q1 q1c q2 hc hn hz hF hO:=ptbl_any A1 A2 A3 A n1 n2 n3 n c1 c2 c3 c P C t X z w hCf hT q1 q1c q2 hc hn hz hF hO
 known:=known11_any
end Go.Proofs.YtfddpnhaejkacaaGreat
