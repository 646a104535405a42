import Derived.Test.YtfmndmhjjbeokaaGreatDoorLow48
import Derived.Test.YtfmndmhjjbeokaaGreatDoorLow36
import Derived.Test.YtfmndmhjjbeokaaGreatDoorLow40
namespace Go.Proofs.YtfmndmhjjbeokaaGreatDoor
set_option maxRecDepth 100000
open Go.RowKit Tab Txt
set_option linter.unusedSimpArgs false
set_option linter.unusedVariables false
theorem tln_any {B g n c:Nat} {L:List (List UInt8)} {w:World} (h:OwnV 9 1 w B (some ⟨g,0,none⟩) n c (L.flatMap sc)) (hn:L.length=n) (hN:n≤1048576) (hlen:(joinB 32 L).length≤1048576) :
  Calls Tryz.prog 33 #[.slice (some ⟨g,0,none⟩) n c] w (Ans (.string (bsOf (joinB 32 L++[10]))) w):=by
 have HJ:=Lib.hid (tjoin_any 32 h hn hN (by omega))
 have ad:=sadd (joinB 32 L) [10] (by show _+1≤_;omega)
 have e32:bsOf [32]=⟨#[32]⟩:=rfl
 have e10:bsOf [10]=⟨#[10]⟩:=rfl
 rw [e32] at HJ
 rw [e10] at ad
 generalize bsOf (joinB 32 L++[10])=s2 at ad ⊢
 generalize bsOf (joinB 32 L)=s1 at ad HJ
 clear h
 go_enter Tryz.func33,Tryz.ntmps33
 go_wp2_with fail
 refine HJ.out.mono ?_
 rintro e w1 ⟨rfl,hb⟩
 go_wp2_with fail
 go_ret
 exact Ans.mk rfl hb
set_option maxHeartbeats 400000 in
theorem tflag_any (x:PtV) (w:World):Calls Tryz.prog 59 #[pv x] w (Ans (.string (bsOf (flagT x.sched x.stop))) w):=by
 obtain ⟨nm,bu,pe,sc,st,pa,pn,pc,h0,h1,h2,h3,h4⟩:=x
 have hb:=bl1 w (.cells #[.string nm,.int .i64 bu,.int .i64 pe,.bool sc,.bool st,.slice pa pn pc,.int .i64 h0,.int .i64 h1,.int .i64 h2,.int .i64 h3,.int .i64 h4] 60)
 have n3:(w.alloc (.cells #[.string nm,.int .i64 bu,.int .i64 pe,.bool sc,.bool st,.slice pa pn pc,.int .i64 h0,.int .i64 h1,.int .i64 h2,.int .i64 h3,.int .i64 h4] 60)).cell? ⟨w.heap.size,3,none⟩=some (.bool sc):=World.cell?_alloc_mark _ _ _ _ _
 have n4:(w.alloc (.cells #[.string nm,.int .i64 bu,.int .i64 pe,.bool sc,.bool st,.slice pa pn pc,.int .i64 h0,.int .i64 h1,.int .i64 h2,.int .i64 h3,.int .i64 h4] 60)).cell? ⟨w.heap.size,4,none⟩=some (.bool st):=World.cell?_alloc_mark _ _ _ _ _
 have HB:=Lib.hid hb
 dsimp only
 clear hb
 go_enter Tryz.func59,Tryz.ntmps59
 go_upto_region 1 with fail
 generalize w.alloc (.cells #[.string nm,.int .i64 bu,.int .i64 pe,.bool sc,.bool st,.slice pa pn pc,.int .i64 h0,.int .i64 h1,.int .i64 h2,.int .i64 h3,.int .i64 h4] 60)=W at n3 n4 HB ⊢
 generalize w.heap.size=gx at n3 n4 ⊢
 cases sc <;> cases st
 all_goals
  go_wp2_with fail
  go_ret
  exact Ans.mk rfl HB.out
theorem five_run (x:PtV) {i:Nat} (hi:i < 5) (W:World):(Instr.index 58 (.agg #[.int .i64 x.h0,.int .i64 x.h1,.int .i64 x.h2,.int .i64 x.h3,.int .i64 x.h4]) (.int .i64 (i:Int))).run Tryz.prog W=.ok (.int .i64 (hv5 x i)) W:=by
 match i,hi with
 | 0,_=>go_simp;rfl
 | 1,_=>go_simp;rfl
 | 2,_=>go_simp;rfl
 | 3,_=>go_simp;rfl
 | 4,_=>go_simp;rfl
set_option maxHeartbeats 1000000 in
theorem theal_any (x:PtV) (hx:∀ j,0≤hv5 x j∧hv5 x j≤2) (w:World) (ht:TabW w):Calls Tryz.prog 60 #[.agg #[.int .i64 x.h0,.int .i64 x.h1,.int .i64 x.h2,.int .i64 x.h3,.int .i64 x.h4]] w (Ans (.string (bsOf (healT x))) w):=by
 have HX:=Lib.hid hx
 have HT:=Lib.hid ht
 have HA:=Lib.hid (healU_all x)
 have HS:=Lib.hid fun k=>healU_succ x k
 have hb:=bl1 w (.cells #[.int .i64 x.h0,.int .i64 x.h1,.int .i64 x.h2,.int .i64 x.h3,.int .i64 x.h4] 58)
 have ho:=ownV_lit w 58 5 w.heap.size #[.int .i64 x.h0,.int .i64 x.h1,.int .i64 x.h2,.int .i64 x.h3,.int .i64 x.h4] 1 rfl (Nat.le_refl _) (by unfold maxLen;omega)
 have HB:=Lib.hid hb
 have HO:=Lib.hid ho
 have HL:Hid (∀ k,k≤5→(healU x k).length≤k*5):=Lib.hid (by
  intro k
  induction k with
  | zero=>intro _;simp [healU]
  | succ k ih =>
   intro hk
   have h1:=ih (by omega)
   have h2:=num_few (n:=(hv5 x k).toNat) (by have:=hx k;omega)
   rw [healU_succ,List.length_append]
   omega)
 clear hb ho hx ht
 go_enter Tryz.func60,Tryz.ntmps60
 go_wp2_with fail
 generalize w.alloc (.cells #[.int .i64 x.h0,.int .i64 x.h1,.int .i64 x.h2,.int .i64 x.h3,.int .i64 x.h4] 58)=wz at HB ⊢
 go_loopw [3,7] (fun o q wr=>∃ i:Nat,i≤5∧q=.int .i64 i∧o=.string (bsOf (healU x i))∧Below w.heap.size w wr) (fun _ q _=>5 - (intOf q).toNat)
 case atStart=>exact ⟨0,by omega,rfl,rfl,HB.out⟩
 case round =>
  obtain ⟨i,hi,rfl,rfl,hbr⟩:=hrel
  have HBR:=Lib.hid hbr
  clear hbr
  by_cases hlt:i < 5
  ·have hlti:(i:Int) < 5:=by omega
   have h5:=HX.out i
   obtain ⟨v,hv⟩:∃ v:Nat,hv5 x i=v:=⟨(hv5 x i).toNat,by omega⟩
   have hg:=five_run x hlt wr
   rw [hv] at hg
   have HN:=Lib.hid (tnumi_any v (by omega) wr (HT.out.on HBR.out))
   have hs:=HS.out i
   rw [hv,Int.toNat_natCast] at hs
   have ad:=sadd (healU x i) (numB v) (by have:=HL.out i (by omega);have:=num_few (n:=v) (by omega);omega)
   rw [← hs] at ad
   obtain ⟨s2,hs2⟩:∃ s,s=bsOf (healU x (i+1)):=⟨_,rfl⟩
   rw [← hs2] at ad
   have HS2:=Lib.hid hs2
   clear hs2
   generalize bsOf (healU x i)=s1 at ad ⊢
   generalize bsOf (numB v)=sn at ad HN
   clear hs hv h5
   go_wp2_with fail
   refine HN.out.mono ?_
   rintro e w1 ⟨rfl,hb1⟩
   have HB1:=Lib.hid (HBR.out.trans (hb1.mono HBR.out.size))
   go_wp2_with fail
   go_roundw
   case rel=>exact ⟨i+1,by omega,by go_num,congrArg Value.string HS2.out,HB1.out⟩
   case measure=>simp [intOf];omega
  ·have hlti:¬ (i:Int) < 5:=by omega
   obtain rfl:i=5:=by omega
   rw [HA.out]
   go_wp2_with fail
   go_ret
   exact Ans.mk rfl HBR.out
end Go.Proofs.YtfmndmhjjbeokaaGreatDoor
namespace Go.Proofs.YtfmndmhjjbeokaaGreatDoor
set_option maxRecDepth 100000
open Go.RowKit Tab Txt
set_option linter.unusedSimpArgs false
set_option linter.unusedVariables false
structure StB (k:Nat) (W0:World) (p:Addr) (v:Value) (live:Nat→Bool) (a:Act) (w:World):Prop where
 off:live k=false→Below W0.heap.size W0 w
 on:live k=true→∃ w1,Below W0.heap.size W0 w1∧w=w1.setCell p v
theorem StB.start (k:Nat) (W0:World) (p:Addr) (v:Value) (a:Act):StB k W0 p v (fun _=>false) a W0.drew:=⟨fun _=>(Below.refl _ _).drew,fun h=>(by cases h)⟩
theorem StB.upd {k:Nat} {W0:World} {p:Addr} {v:Value} {live:Nat→Bool} {a:Act} {w w':World} (h:StB k W0 p v live a w) (hl:live k=false) (hb:Below w.heap.size w w') (i:Nat) (hi:i≠k) (d:Option Tmp) (x:Value):StB k W0 p v (Rgs.upd live i) (a.put d x) w':=by
 have e:Rgs.upd live i k=live k:=by unfold Rgs.upd;simp [Ne.symm hi]
 have h1:=h.off hl
 exact ⟨fun _=>h1.trans (hb.mono h1.size),fun e2=>by rw [e,hl] at e2;cases e2⟩
theorem StB.put {k:Nat} {W0:World} {p:Addr} {v:Value} {live:Nat→Bool} {a a':Act} {w:World} (h:StB k W0 p v live a w) (hl:live k=false):StB k W0 p v (Rgs.upd live k) a' (w.setCell p v) :=
 ⟨fun e=>absurd e (by rw [Rgs.upd_self];decide),fun _=>⟨w,h.off hl,rfl⟩⟩
set_option maxHeartbeats 4000000 in
theorem tprw_any (A:Option Addr) (n c:Nat) (L:List (Int×Int)) (w:World) (h:RdB prc w w.heap.size A n L) (hn:n≤64) (hc:n≤c) (hp:∀ q∈L,prcF q=true) (ht:TabW w) :
  Calls Tryz.prog 61 #[.slice A n c] w (Ans (.string (bsOf (joinB 44 (L.map procT)))) w):=by
 have PRR:=Lib.hid h
 have HP:=Lib.hid hp
 have HT:=Lib.hid ht
 have hll:(L.map procT).length=n:=by rw [List.length_map];exact h.len
 have HLL:=Lib.hid hll
 have HMK:Hid ((Instr.makeSlice 39 (.int .i64 (n:Int)) (.int .i64 (n:Int))).run Tryz.prog w=.ok (.slice (some ⟨w.heap.size,0,none⟩) n n) (w.alloc (.cells (madeCells #[.string ⟨#[]⟩] n) 9))):=Lib.hid (run_makeSt n (by omega) w)
 have HBM:=Lib.hid (bl1 w (.cells (madeCells #[.string ⟨#[]⟩] n) 9))
 have hom:=ownV_lit w 9 1 w.heap.size (madeCells #[.string ⟨#[]⟩] n) n (by simp [size_madeCells]) (Nat.le_refl _) (by unfold maxLen;omega)
 rw [made_strs] at hom
 have HOM:=Lib.hid hom
 have hmk:=HMK.out
 clear hom h hp ht hll
 go_enter Tryz.func61,Tryz.ntmps61
 go_wp2_with fail
 generalize w.alloc (.cells (madeCells #[.string ⟨#[]⟩] n) 9)=wm at HBM HOM ⊢
 obtain ⟨gs,hgs⟩:∃ g,g=w.heap.size:=⟨_,rfl⟩
 rw [← hgs] at HOM ⊢
 have HGS:=Lib.hid hgs
 clear hmk HMK hgs
 go_loopw [11] (fun s wr=>∃ i:Nat,i≤n∧s=.int .i64 i∧OwnV 9 1 wr gs (some ⟨gs,0,none⟩) n n (stRow (L.map procT) n i)∧Below w.heap.size w wr) (fun s _=>n - (intOf s).toNat)
 case atStart=>exact ⟨0,by omega,rfl,by rw [stRow_0];exact HOM.out,HBM.out⟩
 case round =>
  obtain ⟨i,hi,rfl,ho,hb⟩:=hrel
  clear HOM HBM
  by_cases hlt:i < n
  ·obtain ⟨ap,q,rfl,hap,hq,e0,ek⟩:=(PRR.out.on hb).at_ prc_len (by omega) hlt
   have hqm:(L.map procT)[i]? = some (procT q):=by rw [List.getElem?_map,hq];rfl
   have HQ:=Lib.hid hqm
   have e0:=e0 _ rfl
   have e1:=ek 1 _ (by omega) rfl
   have qi:=HP.out q (List.mem_of_getElem? hq)
   obtain ⟨qe',qp'⟩:=q
   dsimp only at e0 e1 qi
   unfold prcF at qi
   simp only [Bool.and_eq_true,decide_eq_true_eq] at qi
   obtain ⟨qe,h1⟩:=Int.eq_ofNat_of_zero_le (show 0≤qe' by omega)
   obtain ⟨qp,h2⟩:=Int.eq_ofNat_of_zero_le (show 0≤qp' by omega)
   subst h1;subst h2
   have QI:Hid (qe < 100000∧qp < 100000):=Lib.hid (by omega)
   have hbx:=bl1 wr (.cells #[.int .i64 (qe:Int),.int .i64 (qp:Int)] 62)
   have hby:=hb.trans (hbx.mono hb.size)
   have f:∀ o v,(#[Value.int .i64 (qe:Int),.int .i64 (qp:Int)]:Array Value)[o]? = some v→(wr.alloc (.cells #[.int .i64 (qe:Int),.int .i64 (qp:Int)] 62)).cell? ⟨wr.heap.size,o,none⟩=some v:=fun o v hv=>(World.cell?_alloc_mark _ _ _ _ _).trans hv
   have hgy:wr.heap.size < (wr.alloc (.cells #[.int .i64 (qe:Int),.int .i64 (qp:Int)] 62)).heap.size:=by simp
   have HO8:=Lib.hid (OwnV.below ho rfl hbx)
   clear ek hap hq hbx qi hb hqm ho
   go_upto_region 5 with fail
   generalize wr.alloc (.cells #[.int .i64 (qe:Int),.int .i64 (qp:Int)] 62)=w8 at hby f hgy HO8 ⊢
   generalize wr.heap.size=gy at f hgy ⊢
   have HB8:=Lib.hid hby
   have HFY:=Lib.hid fun V (hv:Below w8.heap.size w8 V) o v hq=>(hv.cell (p:=⟨gy,o,none⟩) hgy).trans (f o v hq)
   have HCL:Hid (∀ V,Below w8.heap.size w8 V→V.cell? ⟨gs,i,none⟩=some (((stRow (L.map procT) n i)[i]?).getD (.string ⟨#[]⟩))∧V.frozen? ⟨gs,i,none⟩=false):=Lib.hid fun V hv=>by
    have ho:=OwnV.below HO8.out rfl hv
    have hl:=ho.1
    refine ⟨?_,World.ownsRow.frozenAt ho i⟩
    have h1:=World.ownsRow.cellAt ho i (by omega)
    have h2:i < (stRow (L.map procT) n i).length:=by omega
    rw [h1,List.getElem?_eq_getElem h2]
    rfl
   have HNE:=Lib.hid fun V (hv:Below w8.heap.size w8 V)=>tnumi_any qe (by have:=QI.out;omega) V (HT.out.on (HB8.out.trans (hv.mono HB8.out.size)))
   have HNP:=Lib.hid fun V (hv:Below w8.heap.size w8 V)=>tnumi_any qp (by have:=QI.out;omega) V (HT.out.on (HB8.out.trans (hv.mono HB8.out.size)))
   obtain ⟨sa,hsa⟩:∃ s,s=bsOf (numB qe):=⟨_,rfl⟩
   obtain ⟨sc1,hsc⟩:∃ s,s=bsOf (numB qp):=⟨_,rfl⟩
   obtain ⟨sb,hsb⟩:∃ s,s=bsOf (numB qe++[58]):=⟨_,rfl⟩
   obtain ⟨sd,hsd⟩:∃ s,s=bsOf ((numB qe++[58])++numB qp):=⟨_,rfl⟩
   have l1:=num_few (n:=qe) QI.out.1
   have l2:=num_few (n:=qp) QI.out.2
   have ad1:∀ W,(Op.stringOp .add sa ⟨#[58]⟩).run Tryz.prog W=.ok (.string sb) W:=by rw [hsa,hsb];exact sadd (numB qe) [58] (by show _+1≤_;omega)
   have ad2:∀ W,(Op.stringOp .add sb sc1).run Tryz.prog W=.ok (.string sd) W:=by rw [hsb,hsc,hsd];exact sadd _ _ (by rw [List.length_append];show _+1+_≤_;omega)
   have HSD:Hid (sd=bsOf (procT ((qe:Int),(qp:Int)))):=Lib.hid (by rw [hsd];unfold procT;simp)
   rw [← hsa] at HNE
   rw [← hsc] at HNP
   clear hby hgy f e0 e1 hsa hsb hsc hsd l1 l2
   refine Rgs.region (by kernel_rfl) (by kernel_rfl) (fun (opn:Nat) (vl:Value) (wv:World)=>match opn with
     | 0=>vl=.slice (some ⟨gs,0,none⟩) n n
     | 1=>vl=.int .i64 (i:Int)
     | 2=>vl=.pointer (some ⟨gy,0,none⟩)
     | 3=>vl=.int .i64 (qe:Int)
     | 4=>vl=.string sa
     | 5=>vl=.string sb
     | 6=>vl=.pointer (some ⟨gy,1,none⟩)
     | 7=>vl=.int .i64 (qp:Int)
     | 8=>vl=.string sc1
     | 9=>vl=.string sd
     | 10=>vl=.pointer (some ⟨gs,i,none⟩)
     | 11=>True
     | _=>True) (StB 11 w8 ⟨gs,i,none⟩ (.string sd)) (StB.start _ _ _ _ _) (Rgs.steps_of ?_) ?_
   ·refine ⟨?_,?_,?_,?_,?_,?_,?_,?_,?_,?_,?_,?_,trivial⟩
    ·intro a w1 live S E D C h0 hk hX
     have l10:=Reg.not_live C h0 (j:=10) rfl rfl
     have l11:=Reg.not_live C l10 (j:=11) rfl rfl
     have hW:=hX.off l11
     have e3:a.eval (.tmp 3)=.slice (some ⟨gs,0,none⟩) n n:=E 3 rfl
     exact Rgs.val rfl (Reg.wanted_free rfl) (.slice (some ⟨gs,0,none⟩) n n) (by have c:=Reg.consts a;generalize a.eval=ρ at *;simp [execOp,go_sem,c.1,c.2,e3]) rfl (hX.upd l11 (Below.refl _ _) 0 (by decide) _ _)
    ·intro a w1 live S E D C h0 hk hX
     have l10:=Reg.not_live C h0 (j:=10) rfl rfl
     have l11:=Reg.not_live C l10 (j:=11) rfl rfl
     have hW:=hX.off l11
     have e4:a.eval (.tmp 4)=.int .i64 (i:Int):=E 4 rfl
     exact Rgs.val rfl (Reg.wanted_free rfl) (.int .i64 (i:Int)) (by have c:=Reg.consts a;generalize a.eval=ρ at *;simp [execOp,go_sem,c.1,c.2,e4]) rfl (hX.upd l11 (Below.refl _ _) 1 (by decide) _ _)
    ·intro a w1 live S E D C h0 hk hX
     have l3:=Reg.not_live C h0 (j:=3) rfl rfl
     have l4:=Reg.not_live C l3 (j:=4) rfl rfl
     have l5:=Reg.not_live C l4 (j:=5) rfl rfl
     have l9:=Reg.not_live C l5 (j:=9) rfl rfl
     have l11:=Reg.not_live C l9 (j:=11) rfl rfl
     have hW:=hX.off l11
     have e5:a.eval (.tmp 5)=.pointer (some ⟨gy,0,none⟩):=E 5 rfl
     exact Rgs.val rfl (Reg.wanted_free rfl) (.pointer (some ⟨gy,0,none⟩)) (by have c:=Reg.consts a;generalize a.eval=ρ at *;simp [execOp,go_sem,c.1,c.2,e5]) rfl (hX.upd l11 (Below.refl _ _) 2 (by decide) _ _)
    ·intro a w1 live S E D C h0 hk hX
     have l4:=Reg.not_live C h0 (j:=4) rfl rfl
     have l5:=Reg.not_live C l4 (j:=5) rfl rfl
     have l9:=Reg.not_live C l5 (j:=9) rfl rfl
     have l11:=Reg.not_live C l9 (j:=11) rfl rfl
     have hW:=hX.off l11
     have d2:a.eval (.tmp 18)=.pointer (some ⟨gy,0,none⟩):=D 2 rfl _ _ rfl rfl
     have hc0:=HFY.out w1 hW 0 _ rfl
     exact Rgs.val rfl (Reg.wanted_free rfl) (.int .i64 (qe:Int)) (by have c:=Reg.consts a;generalize a.eval=ρ at *;simp [execOp,go_sem,c.1,c.2,d2,hc0]) rfl (hX.upd l11 (Below.refl _ _) 3 (by decide) _ _)
    ·intro a w1 live S E D C h0 hk hX
     have l5:=Reg.not_live C h0 (j:=5) rfl rfl
     have l9:=Reg.not_live C l5 (j:=9) rfl rfl
     have l11:=Reg.not_live C l9 (j:=11) rfl rfl
     have hW:=hX.off l11
     have d3:a.eval (.tmp 19)=.int .i64 (qe:Int):=D 3 rfl _ _ rfl rfl
     refine Rgs.call rfl (Reg.wanted_free rfl) 37 #[.int .i64 (qe:Int)] (by have c:=Reg.consts a;generalize a.eval=ρ at *;simp [execOp,go_sem,c.1,c.2,d3]) ?_
     refine (HNE.out w1 hW).mono ?_
     rintro e w5 ⟨rfl,hb5⟩
     exact ⟨_,rfl,rfl,(hX.upd l11 hb5 4 (by decide) _ _),fun jq vq _ hq=>hq⟩
    ·intro a w1 live S E D C h0 hk hX
     have l9:=Reg.not_live C h0 (j:=9) rfl rfl
     have l11:=Reg.not_live C l9 (j:=11) rfl rfl
     have hW:=hX.off l11
     have d4:a.eval (.tmp 20)=.string sa:=D 4 rfl _ _ rfl rfl
     exact Rgs.val rfl (Reg.wanted_free rfl) (.string sb) (by have c:=Reg.consts a;generalize a.eval=ρ at *;simp [execOp,go_sem,c.1,c.2,d4,ad1]) rfl (hX.upd l11 (Below.refl _ _) 5 (by decide) _ _)
    ·intro a w1 live S E D C h0 hk hX
     have l7:=Reg.not_live C h0 (j:=7) rfl rfl
     have l8:=Reg.not_live C l7 (j:=8) rfl rfl
     have l9:=Reg.not_live C l8 (j:=9) rfl rfl
     have l11:=Reg.not_live C l9 (j:=11) rfl rfl
     have hW:=hX.off l11
     have e5:a.eval (.tmp 5)=.pointer (some ⟨gy,0,none⟩):=E 5 rfl
     exact Rgs.val rfl (Reg.wanted_free rfl) (.pointer (some ⟨gy,1,none⟩)) (by have c:=Reg.consts a;generalize a.eval=ρ at *;simp [execOp,go_sem,c.1,c.2,e5]) rfl (hX.upd l11 (Below.refl _ _) 6 (by decide) _ _)
    ·intro a w1 live S E D C h0 hk hX
     have l8:=Reg.not_live C h0 (j:=8) rfl rfl
     have l9:=Reg.not_live C l8 (j:=9) rfl rfl
     have l11:=Reg.not_live C l9 (j:=11) rfl rfl
     have hW:=hX.off l11
     have d6:a.eval (.tmp 22)=.pointer (some ⟨gy,1,none⟩):=D 6 rfl _ _ rfl rfl
     have hc0:=HFY.out w1 hW 1 _ rfl
     exact Rgs.val rfl (Reg.wanted_free rfl) (.int .i64 (qp:Int)) (by have c:=Reg.consts a;generalize a.eval=ρ at *;simp [execOp,go_sem,c.1,c.2,d6,hc0]) rfl (hX.upd l11 (Below.refl _ _) 7 (by decide) _ _)
    ·intro a w1 live S E D C h0 hk hX
     have l9:=Reg.not_live C h0 (j:=9) rfl rfl
     have l11:=Reg.not_live C l9 (j:=11) rfl rfl
     have hW:=hX.off l11
     have d7:a.eval (.tmp 23)=.int .i64 (qp:Int):=D 7 rfl _ _ rfl rfl
     refine Rgs.call rfl (Reg.wanted_free rfl) 37 #[.int .i64 (qp:Int)] (by have c:=Reg.consts a;generalize a.eval=ρ at *;simp [execOp,go_sem,c.1,c.2,d7]) ?_
     refine (HNP.out w1 hW).mono ?_
     rintro e w5 ⟨rfl,hb5⟩
     exact ⟨_,rfl,rfl,(hX.upd l11 hb5 8 (by decide) _ _),fun jq vq _ hq=>hq⟩
    ·intro a w1 live S E D C h0 hk hX
     have l11:=Reg.not_live C h0 (j:=11) rfl rfl
     have hW:=hX.off l11
     have d5:a.eval (.tmp 21)=.string sb:=D 5 rfl _ _ rfl rfl
     have d8:a.eval (.tmp 24)=.string sc1:=D 8 rfl _ _ rfl rfl
     exact Rgs.val rfl (Reg.wanted_free rfl) (.string sd) (by have c:=Reg.consts a;generalize a.eval=ρ at *;simp [execOp,go_sem,c.1,c.2,d5,d8,ad2]) rfl (hX.upd l11 (Below.refl _ _) 9 (by decide) _ _)
    ·intro a w1 live S E D C h0 hk hX
     have l11:=Reg.not_live C h0 (j:=11) rfl rfl
     have hW:=hX.off l11
     have d0:a.eval (.tmp 16)=.slice (some ⟨gs,0,none⟩) n n:=D 0 rfl _ _ rfl rfl
     have d1:a.eval (.tmp 17)=.int .i64 (i:Int):=D 1 rfl _ _ rfl rfl
     have ead:=mk_add gs i
     have hni:¬ n≤i:=by omega
     exact Rgs.val rfl (Reg.wanted_free rfl) (.pointer (some ⟨gs,i,none⟩)) (by have c:=Reg.consts a;generalize a.eval=ρ at *;simp [execOp,go_sem,c.1,c.2,d0,d1,ead,hni]) rfl (hX.upd l11 (Below.refl _ _) 10 (by decide) _ _)
    ·intro a w1 live S E D C h0 hk hX
     have hW:=hX.off h0
     have d10:a.eval (.tmp 26)=.pointer (some ⟨gs,i,none⟩):=D 10 rfl _ _ rfl rfl
     have d9:a.eval (.tmp 25)=.string sd:=D 9 rfl _ _ rfl rfl
     have hc0:=(HCL.out w1 hW).1
     have hfz:=(HCL.out w1 hW).2
     exact Rgs.store rfl (Reg.wanted_free rfl) (w1.setCell ⟨gs,i,none⟩ (.string sd)) (by have c:=Reg.consts a;generalize a.eval=ρ at *;simp [execOp,go_sem,c.1,c.2,d10,d9,hc0,hfz]) trivial (hX.put h0) (fun j v _ h=>h)
   ·intro a w4 live hs hd E D Hl hX
    rw [Rgs.act_ws a _ _ hs hd E [16,17,18,19,20,21,22,23,24,25,26] (by kernel_rfl)]
    simp only [List.foldl,List.setIfInBounds_toArray,List.set_cons_succ,List.set_cons_zero]
    obtain ⟨wq,hbq,rfl⟩:=hX.on (Hl 11 (by decide))
    have HX5:=Lib.hid hbq
    clear hbq E D Hl hX
    generalize a.eval=ρ
    clear a hs hd
    have hb1:=HX5.out
    have ho1:=OwnV.below HO8.out rfl hb1
    have HO9:=Lib.hid (OwnV.set ho1 i (.string sd) (by rw [ho1.1];omega))
    have HB9:=Lib.hid ((HB8.out.trans (hb1.mono HB8.out.size)).setCell (p:=⟨gs,i,none⟩) (Nat.le_of_eq HGS.out.symm) (.string sd))
    clear hb1 ho1 HX5 HO8 HB8
    go_wp2_with fail
    go_roundw
    case rel=>exact ⟨i+1,by omega,by go_num,by rw [← stRow_set (by omega) HQ.out,← HSD.out];exact HO9.out,HB9.out⟩
    case measure=>simp [intOf];omega
  ·have hli:¬ (i:Int) < (n:Int):=by omega
   obtain rfl:i=n:=by omega
   rw [stRow_all HLL.out] at ho
   have e44:bsOf [44]=⟨#[44]⟩:=rfl
   have HJ:=Lib.hid (tjoin_any 44 ho HLL.out (by omega) (by
    have h1:∀ M:List (Int×Int),(∀ q∈M,prcF q=true)→(joinB 44 (M.map procT)).length≤M.length*12:=fun M hM=>by
     cases M with
     | nil=>exact Nat.zero_le _
     | cons q M =>
      have h1:=(procsU_join q M).2
      have h2:=procsU_len (q::M) false hM
      rw [h1,List.length_cons] at h2
      omega
    have h2:=h1 L HP.out
    have h3:=HLL.out
    rw [List.length_map] at h3
    omega))
   rw [e44] at HJ
   have HB:=Lib.hid hb
   clear ho hb
   go_wp2_with fail
   refine HJ.out.mono ?_
   rintro e w3 ⟨rfl,hb3⟩
   go_wp2_with fail
   go_ret
   exact Ans.mk rfl (HB.out.trans (hb3.mono HB.out.size))
end Go.Proofs.YtfmndmhjjbeokaaGreatDoor
namespace Go.Proofs.YtfmndmhjjbeokaaGreatDoor
set_option maxRecDepth 100000
open Go.RowKit Tab Txt
set_option linter.unusedSimpArgs false
set_option linter.unusedVariables false
set_option maxHeartbeats 4000000 in
theorem tpartw_any (y:Pq) (w:World) (hy:PrIn y) (hpr:RdB prc w w.heap.size y.1.pa y.1.pn y.2) (hpc:y.1.pn≤y.1.pc) (ht:TabW w) :
  Calls Tryz.prog 31 #[pv y.1] w (Ans (.string (bsOf (partL y))) w):=by
 have HLN:=Lib.hid (partL_len hy hpr.len)
 have PI:=Lib.hid hy
 have PR:=Lib.hid hpr
 have HT:=Lib.hid ht
 have hbud:=hy.bud
 have hper:=hy.per
 have hfew:=hy.few
 have HPL:Hid (partL y=joinB 32 (partW y)++[10]):=Lib.hid rfl
 obtain ⟨⟨nm,bud,per,sc1,st,pa,pn,pc,y0,y1,y2,y3,y4⟩,L⟩:=y
 dsimp only at hbud hper hfew hpc
 obtain ⟨bu,h1⟩:=Int.eq_ofNat_of_zero_le hbud.1
 obtain ⟨pe,h2⟩:=Int.eq_ofNat_of_zero_le hper.1
 subst h1;subst h2
 have BU:Hid (bu≤4096∧pe≤4096∧pn≤3∧pn≤pc):=Lib.hid (by omega)
 have hb:=bl1 w (.cells #[.string nm,.int .i64 (bu:Int),.int .i64 (pe:Int),.bool sc1,.bool st,.slice pa pn pc,.int .i64 y0,.int .i64 y1,.int .i64 y2,.int .i64 y3,.int .i64 y4] 60)
 have f0:∀ o v,(#[Value.string nm,.int .i64 (bu:Int),.int .i64 (pe:Int),.bool sc1,.bool st,.slice pa pn pc,.int .i64 y0,.int .i64 y1,.int .i64 y2,.int .i64 y3,.int .i64 y4]:Array Value)[o]? = some v→(w.alloc (.cells #[.string nm,.int .i64 (bu:Int),.int .i64 (pe:Int),.bool sc1,.bool st,.slice pa pn pc,.int .i64 y0,.int .i64 y1,.int .i64 y2,.int .i64 y3,.int .i64 y4] 60)).cell? ⟨w.heap.size,o,none⟩=some v:=fun o v hv=>(World.cell?_alloc_mark _ _ _ _ _).trans hv
 have hgx:w.heap.size < (w.alloc (.cells #[.string nm,.int .i64 (bu:Int),.int .i64 (pe:Int),.bool sc1,.bool st,.slice pa pn pc,.int .i64 y0,.int .i64 y1,.int .i64 y2,.int .i64 y3,.int .i64 y4] 60)).heap.size:=by simp
 dsimp only
 clear hy hpr ht hbud hper hfew hpc
 go_enter Tryz.func31,Tryz.ntmps31
 go_upto_region 1 with fail
 generalize w.alloc (.cells #[.string nm,.int .i64 (bu:Int),.int .i64 (pe:Int),.bool sc1,.bool st,.slice pa pn pc,.int .i64 y0,.int .i64 y1,.int .i64 y2,.int .i64 y3,.int .i64 y4] 60)=w8 at hb f0 hgx ⊢
 generalize w.heap.size=gx at f0 hgx ⊢
 have HB8:=Lib.hid hb
 have HF:=Lib.hid fun V (hv:Below w8.heap.size w8 V) o v hq=>(hv.cell (p:=⟨gx,o,none⟩) hgx).trans (f0 o v hq)
 have HON:Hid (∀ V,Below w8.heap.size w8 V→Below w.heap.size w V):=Lib.hid fun V hv=>HB8.out.trans (hv.mono HB8.out.size)
 obtain ⟨s1,hs1⟩:∃ s,s=bsOf (numB bu):=⟨_,rfl⟩
 obtain ⟨s2,hs2⟩:∃ s,s=bsOf (numB pe):=⟨_,rfl⟩
 obtain ⟨s3,hs3⟩:∃ s,s=bsOf (flagT sc1 st):=⟨_,rfl⟩
 obtain ⟨s4,hs4⟩:∃ s,s=bsOf (healT ⟨nm,(bu:Int),(pe:Int),sc1,st,pa,pn,pc,y0,y1,y2,y3,y4⟩):=⟨_,rfl⟩
 obtain ⟨s5,hs5⟩:∃ s,s=bsOf (joinB 44 (L.map procT)):=⟨_,rfl⟩
 obtain ⟨s6,hs6⟩:∃ s,s=bsOf (partL (⟨nm,(bu:Int),(pe:Int),sc1,st,pa,pn,pc,y0,y1,y2,y3,y4⟩,L)):=⟨_,rfl⟩
 have HN1:=Lib.hid fun V (hv:Below w8.heap.size w8 V)=>tnuml_any bu (by have:=BU.out;omega) V (HT.out.on (HON.out V hv))
 have HN2:=Lib.hid fun V (hv:Below w8.heap.size w8 V)=>tnuml_any pe (by have:=BU.out;omega) V (HT.out.on (HON.out V hv))
 have HN3:=Lib.hid fun V (hv:Below w8.heap.size w8 V)=>tflag_any ⟨nm,(bu:Int),(pe:Int),sc1,st,pa,pn,pc,y0,y1,y2,y3,y4⟩ V
 have HN4:=Lib.hid fun V (hv:Below w8.heap.size w8 V)=>theal_any ⟨nm,(bu:Int),(pe:Int),sc1,st,pa,pn,pc,y0,y1,y2,y3,y4⟩ PI.out.hl V (HT.out.on (HON.out V hv))
 have HN5:=Lib.hid fun V (hv:Below w8.heap.size w8 V)=>tprw_any pa pn pc L V (PR.out.on (HON.out V hv)) (by have:=BU.out;omega) BU.out.2.2.2 PI.out.pr (HT.out.on (HON.out V hv))
 have HROW:Hid ([Value.string ⟨#[112,97,114,116]⟩,.string nm,.string s1,.string s2,.string s3,.string s4,.string s5]=(partW (⟨nm,(bu:Int),(pe:Int),sc1,st,pa,pn,pc,y0,y1,y2,y3,y4⟩,L)).flatMap sc):=Lib.hid (by rw [hs1,hs2,hs3,hs4,hs5];rfl)
 have HN6:=Lib.hid fun V gl (ho:OwnV 9 1 V w8.heap.size (some ⟨gl,0,none⟩) 7 7 [Value.string ⟨#[112,97,114,116]⟩,.string nm,.string s1,.string s2,.string s3,.string s4,.string s5])=>tln_any (n:=7) (c:=7) (L:=partW (⟨nm,(bu:Int),(pe:Int),sc1,st,pa,pn,pc,y0,y1,y2,y3,y4⟩,L)) (by rw [← HROW.out];exact ho) rfl (by omega) (by have h:=HLN.out;rw [HPL.out,List.length_append] at h;omega)
 rw [← HPL.out,← hs6] at HN6
 rw [← hs1] at HN1
 rw [← hs2] at HN2
 dsimp only at HN3 HN4
 rw [← hs3] at HN3
 rw [← hs4] at HN4
 rw [← hs5] at HN5
 have HS6:=Lib.hid hs6
 clear hb f0 hgx hs1 hs2 hs3 hs4 hs5 hs6 HROW HPL HLN
 refine Rgs.region (by kernel_rfl) (by kernel_rfl) (fun (opn:Nat) (vl:Value) (wv:World)=>match opn with
   | 0=>vl=.pointer (some ⟨gx,0,none⟩)
   | 1=>vl=.string nm
   | 2=>vl=.pointer (some ⟨gx,1,none⟩)
   | 3=>vl=.int .i64 (bu:Int)
   | 4=>vl=.string s1
   | 5=>vl=.pointer (some ⟨gx,2,none⟩)
   | 6=>vl=.int .i64 (pe:Int)
   | 7=>vl=.string s2
   | 8=>vl=pv ⟨nm,(bu:Int),(pe:Int),sc1,st,pa,pn,pc,y0,y1,y2,y3,y4⟩
   | 9=>vl=.string s3
   | 10=>vl=.pointer (some ⟨gx,6,none⟩)
   | 11=>vl=.agg #[.int .i64 y0,.int .i64 y1,.int .i64 y2,.int .i64 y3,.int .i64 y4]
   | 12=>vl=.string s4
   | 13=>vl=.pointer (some ⟨gx,5,none⟩)
   | 14=>vl=.slice pa pn pc
   | 15=>vl=.string s5
   | 16=>∃ gq,vl=.slice (some ⟨gq,0,none⟩) (7:Nat) 7∧OwnV 9 1 wv w8.heap.size (some ⟨gq,0,none⟩) 7 7 [.string ⟨#[112,97,114,116]⟩,.string nm,.string s1,.string s2,.string s3,.string s4,.string s5]
   | 17=>vl=.string s6
   | 18=>vl=.string s6
   | _=>True) (fun _ _ wv=>Below w8.heap.size w8 wv) (Below.refl _ _).drew (Rgs.steps_of ?_) ?_
 ·refine ⟨?_,?_,?_,?_,?_,?_,?_,?_,?_,?_,?_,?_,?_,?_,?_,?_,?_,?_,?_,trivial⟩
  ·intro a w1 live S E D C h0 hk hX
   have hW:=hX
   have e1:a.eval (.tmp 1)=.pointer (some ⟨gx,0,none⟩):=E 1 rfl
   exact Rgs.val rfl (Reg.wanted_free rfl) (.pointer (some ⟨gx,0,none⟩)) (by have c:=Reg.consts a;generalize a.eval=ρ at *;simp [execOp,go_sem,c.1,c.2,e1]) rfl hW
  ·intro a w1 live S E D C h0 hk hX
   have hW:=hX
   have d0:a.eval (.tmp 3)=.pointer (some ⟨gx,0,none⟩):=D 0 rfl _ _ rfl rfl
   have hc0:=HF.out w1 hW 0 _ rfl
   have hc1:=HF.out w1 hW 1 _ rfl
   have hc2:=HF.out w1 hW 2 _ rfl
   have hc3:=HF.out w1 hW 3 _ rfl
   have hc4:=HF.out w1 hW 4 _ rfl
   have hc5:=HF.out w1 hW 5 _ rfl
   have hc6:=HF.out w1 hW 6 _ rfl
   have hc7:=HF.out w1 hW 7 _ rfl
   have hc8:=HF.out w1 hW 8 _ rfl
   have hc9:=HF.out w1 hW 9 _ rfl
   have hc10:=HF.out w1 hW 10 _ rfl
   exact Rgs.val rfl (Reg.wanted_free rfl) (.string nm) (by have c:=Reg.consts a;generalize a.eval=ρ at *;simp [execOp,go_sem,c.1,c.2,d0,hc0,hc1,hc2,hc3,hc4,hc5,hc6,hc7,hc8,hc9,hc10]) rfl hW
  ·intro a w1 live S E D C h0 hk hX
   have hW:=hX
   have e1:a.eval (.tmp 1)=.pointer (some ⟨gx,0,none⟩):=E 1 rfl
   exact Rgs.val rfl (Reg.wanted_free rfl) (.pointer (some ⟨gx,1,none⟩)) (by have c:=Reg.consts a;generalize a.eval=ρ at *;simp [execOp,go_sem,c.1,c.2,e1]) rfl hW
  ·intro a w1 live S E D C h0 hk hX
   have hW:=hX
   have d2:a.eval (.tmp 5)=.pointer (some ⟨gx,1,none⟩):=D 2 rfl _ _ rfl rfl
   have hc0:=HF.out w1 hW 1 _ rfl
   exact Rgs.val rfl (Reg.wanted_free rfl) (.int .i64 (bu:Int)) (by have c:=Reg.consts a;generalize a.eval=ρ at *;simp [execOp,go_sem,c.1,c.2,d2,hc0]) rfl hW
  ·intro a w1 live S E D C h0 hk hX
   have hW:=hX
   have d3:a.eval (.tmp 6)=.int .i64 (bu:Int):=D 3 rfl _ _ rfl rfl
   refine Rgs.call rfl (Reg.wanted_free rfl) 58 #[.int .i64 (bu:Int)] (by have c:=Reg.consts a;generalize a.eval=ρ at *;simp [execOp,go_sem,c.1,c.2,d3]) ?_
   refine (HN1.out w1 hW).mono ?_
   rintro e w5 ⟨rfl,hb5⟩
   exact ⟨_,rfl,rfl,(hW.trans (hb5.mono hW.size)),fun jq vq _ hq=>by
    revert hq
    match jq with
    | 16=>exact fun ⟨gq,e1,e2⟩=>⟨gq,e1,OwnV.below e2 rfl hb5⟩
    | 0 | 1 | 2 | 3 | 4 | 5 | 6 | 7 | 8 | 9 | 10 | 11 | 12 | 13 | 14 | 15 | 17 | 18 | _+19=>exact fun hq=>hq⟩
  ·intro a w1 live S E D C h0 hk hX
   have hW:=hX
   have e1:a.eval (.tmp 1)=.pointer (some ⟨gx,0,none⟩):=E 1 rfl
   exact Rgs.val rfl (Reg.wanted_free rfl) (.pointer (some ⟨gx,2,none⟩)) (by have c:=Reg.consts a;generalize a.eval=ρ at *;simp [execOp,go_sem,c.1,c.2,e1]) rfl hW
  ·intro a w1 live S E D C h0 hk hX
   have hW:=hX
   have d5:a.eval (.tmp 8)=.pointer (some ⟨gx,2,none⟩):=D 5 rfl _ _ rfl rfl
   have hc0:=HF.out w1 hW 2 _ rfl
   exact Rgs.val rfl (Reg.wanted_free rfl) (.int .i64 (pe:Int)) (by have c:=Reg.consts a;generalize a.eval=ρ at *;simp [execOp,go_sem,c.1,c.2,d5,hc0]) rfl hW
  ·intro a w1 live S E D C h0 hk hX
   have hW:=hX
   have d6:a.eval (.tmp 9)=.int .i64 (pe:Int):=D 6 rfl _ _ rfl rfl
   refine Rgs.call rfl (Reg.wanted_free rfl) 58 #[.int .i64 (pe:Int)] (by have c:=Reg.consts a;generalize a.eval=ρ at *;simp [execOp,go_sem,c.1,c.2,d6]) ?_
   refine (HN2.out w1 hW).mono ?_
   rintro e w5 ⟨rfl,hb5⟩
   exact ⟨_,rfl,rfl,(hW.trans (hb5.mono hW.size)),fun jq vq _ hq=>by
    revert hq
    match jq with
    | 16=>exact fun ⟨gq,e1,e2⟩=>⟨gq,e1,OwnV.below e2 rfl hb5⟩
    | 0 | 1 | 2 | 3 | 4 | 5 | 6 | 7 | 8 | 9 | 10 | 11 | 12 | 13 | 14 | 15 | 17 | 18 | _+19=>exact fun hq=>hq⟩
  ·intro a w1 live S E D C h0 hk hX
   have hW:=hX
   have e1:a.eval (.tmp 1)=.pointer (some ⟨gx,0,none⟩):=E 1 rfl
   have hc0:=HF.out w1 hW 0 _ rfl
   have hc1:=HF.out w1 hW 1 _ rfl
   have hc2:=HF.out w1 hW 2 _ rfl
   have hc3:=HF.out w1 hW 3 _ rfl
   have hc4:=HF.out w1 hW 4 _ rfl
   have hc5:=HF.out w1 hW 5 _ rfl
   have hc6:=HF.out w1 hW 6 _ rfl
   have hc7:=HF.out w1 hW 7 _ rfl
   have hc8:=HF.out w1 hW 8 _ rfl
   have hc9:=HF.out w1 hW 9 _ rfl
   have hc10:=HF.out w1 hW 10 _ rfl
   exact Rgs.val rfl (Reg.wanted_free rfl) (pv ⟨nm,(bu:Int),(pe:Int),sc1,st,pa,pn,pc,y0,y1,y2,y3,y4⟩) (by have c:=Reg.consts a;generalize a.eval=ρ at *;simp [execOp,go_sem,c.1,c.2,e1,hc0,hc1,hc2,hc3,hc4,hc5,hc6,hc7,hc8,hc9,hc10]) rfl hW
  ·intro a w1 live S E D C h0 hk hX
   have hW:=hX
   have d8:a.eval (.tmp 11)=pv ⟨nm,(bu:Int),(pe:Int),sc1,st,pa,pn,pc,y0,y1,y2,y3,y4⟩:=D 8 rfl _ _ rfl rfl
   refine Rgs.call rfl (Reg.wanted_free rfl) 59 #[pv ⟨nm,(bu:Int),(pe:Int),sc1,st,pa,pn,pc,y0,y1,y2,y3,y4⟩] (by have c:=Reg.consts a;generalize a.eval=ρ at *;simp [execOp,go_sem,c.1,c.2,d8]) ?_
   refine (HN3.out w1 hW).mono ?_
   rintro e w5 ⟨rfl,hb5⟩
   exact ⟨_,rfl,rfl,(hW.trans (hb5.mono hW.size)),fun jq vq _ hq=>by
    revert hq
    match jq with
    | 16=>exact fun ⟨gq,e1,e2⟩=>⟨gq,e1,OwnV.below e2 rfl hb5⟩
    | 0 | 1 | 2 | 3 | 4 | 5 | 6 | 7 | 8 | 9 | 10 | 11 | 12 | 13 | 14 | 15 | 17 | 18 | _+19=>exact fun hq=>hq⟩
  ·intro a w1 live S E D C h0 hk hX
   have hW:=hX
   have e1:a.eval (.tmp 1)=.pointer (some ⟨gx,0,none⟩):=E 1 rfl
   exact Rgs.val rfl (Reg.wanted_free rfl) (.pointer (some ⟨gx,6,none⟩)) (by have c:=Reg.consts a;generalize a.eval=ρ at *;simp [execOp,go_sem,c.1,c.2,e1]) rfl hW
  ·intro a w1 live S E D C h0 hk hX
   have hW:=hX
   have d10:a.eval (.tmp 13)=.pointer (some ⟨gx,6,none⟩):=D 10 rfl _ _ rfl rfl
   have hc0:=HF.out w1 hW 6 _ rfl
   have hc1:=HF.out w1 hW 7 _ rfl
   have hc2:=HF.out w1 hW 8 _ rfl
   have hc3:=HF.out w1 hW 9 _ rfl
   have hc4:=HF.out w1 hW 10 _ rfl
   exact Rgs.val rfl (Reg.wanted_free rfl) (.agg #[.int .i64 y0,.int .i64 y1,.int .i64 y2,.int .i64 y3,.int .i64 y4]) (by have c:=Reg.consts a;generalize a.eval=ρ at *;simp [execOp,go_sem,c.1,c.2,d10,hc0,hc1,hc2,hc3,hc4]) rfl hW
  ·intro a w1 live S E D C h0 hk hX
   have hW:=hX
   have d11:a.eval (.tmp 14)=.agg #[.int .i64 y0,.int .i64 y1,.int .i64 y2,.int .i64 y3,.int .i64 y4]:=D 11 rfl _ _ rfl rfl
   refine Rgs.call rfl (Reg.wanted_free rfl) 60 #[.agg #[.int .i64 y0,.int .i64 y1,.int .i64 y2,.int .i64 y3,.int .i64 y4]] (by have c:=Reg.consts a;generalize a.eval=ρ at *;simp [execOp,go_sem,c.1,c.2,d11]) ?_
   refine (HN4.out w1 hW).mono ?_
   rintro e w5 ⟨rfl,hb5⟩
   exact ⟨_,rfl,rfl,(hW.trans (hb5.mono hW.size)),fun jq vq _ hq=>by
    revert hq
    match jq with
    | 16=>exact fun ⟨gq,e1,e2⟩=>⟨gq,e1,OwnV.below e2 rfl hb5⟩
    | 0 | 1 | 2 | 3 | 4 | 5 | 6 | 7 | 8 | 9 | 10 | 11 | 12 | 13 | 14 | 15 | 17 | 18 | _+19=>exact fun hq=>hq⟩
  ·intro a w1 live S E D C h0 hk hX
   have hW:=hX
   have e1:a.eval (.tmp 1)=.pointer (some ⟨gx,0,none⟩):=E 1 rfl
   exact Rgs.val rfl (Reg.wanted_free rfl) (.pointer (some ⟨gx,5,none⟩)) (by have c:=Reg.consts a;generalize a.eval=ρ at *;simp [execOp,go_sem,c.1,c.2,e1]) rfl hW
  ·intro a w1 live S E D C h0 hk hX
   have hW:=hX
   have d13:a.eval (.tmp 16)=.pointer (some ⟨gx,5,none⟩):=D 13 rfl _ _ rfl rfl
   have hc0:=HF.out w1 hW 5 _ rfl
   exact Rgs.val rfl (Reg.wanted_free rfl) (.slice pa pn pc) (by have c:=Reg.consts a;generalize a.eval=ρ at *;simp [execOp,go_sem,c.1,c.2,d13,hc0]) rfl hW
  ·intro a w1 live S E D C h0 hk hX
   have hW:=hX
   have d14:a.eval (.tmp 17)=.slice pa pn pc:=D 14 rfl _ _ rfl rfl
   refine Rgs.call rfl (Reg.wanted_free rfl) 61 #[.slice pa pn pc] (by have c:=Reg.consts a;generalize a.eval=ρ at *;simp [execOp,go_sem,c.1,c.2,d14]) ?_
   refine (HN5.out w1 hW).mono ?_
   rintro e w5 ⟨rfl,hb5⟩
   exact ⟨_,rfl,rfl,(hW.trans (hb5.mono hW.size)),fun jq vq _ hq=>by
    revert hq
    match jq with
    | 16=>exact fun ⟨gq,e1,e2⟩=>⟨gq,e1,OwnV.below e2 rfl hb5⟩
    | 0 | 1 | 2 | 3 | 4 | 5 | 6 | 7 | 8 | 9 | 10 | 11 | 12 | 13 | 14 | 15 | 17 | 18 | _+19=>exact fun hq=>hq⟩
  ·intro a w1 live S E D C h0 hk hX
   have hW:=hX
   have d1:a.eval (.tmp 4)=.string nm:=D 1 rfl _ _ rfl rfl
   have d4:a.eval (.tmp 7)=.string s1:=D 4 rfl _ _ rfl rfl
   have d7:a.eval (.tmp 10)=.string s2:=D 7 rfl _ _ rfl rfl
   have d9:a.eval (.tmp 12)=.string s3:=D 9 rfl _ _ rfl rfl
   have d12:a.eval (.tmp 15)=.string s4:=D 12 rfl _ _ rfl rfl
   have d15:a.eval (.tmp 18)=.string s5:=D 15 rfl _ _ rfl rfl
   have hb5:=bl1 w1 (.cells #[.string ⟨#[112,97,114,116]⟩,.string nm,.string s1,.string s2,.string s3,.string s4,.string s5] 9)
   refine Rgs.grow rfl (Reg.wanted_free rfl) (.slice (some ⟨w1.heap.size,0,none⟩) (7:Nat) 7) (w1.alloc (.cells #[.string ⟨#[112,97,114,116]⟩,.string nm,.string s1,.string s2,.string s3,.string s4,.string s5] 9)) (by have c:=Reg.consts a;generalize a.eval=ρ at *;simp [execOp,go_sem,c.1,c.2,d1,d4,d7,d9,d12,d15]) ⟨w1.heap.size,rfl,ownV_lit w1 9 1 w8.heap.size #[.string ⟨#[112,97,114,116]⟩,.string nm,.string s1,.string s2,.string s3,.string s4,.string s5] 7 rfl hW.size (by unfold maxLen;omega)⟩ (hW.trans (hb5.mono hW.size)) (fun jq vq _ hq=>by
    revert hq
    match jq with
    | 16=>exact fun ⟨gq,e1,e2⟩=>⟨gq,e1,OwnV.below e2 rfl hb5⟩
    | 0 | 1 | 2 | 3 | 4 | 5 | 6 | 7 | 8 | 9 | 10 | 11 | 12 | 13 | 14 | 15 | 17 | 18 | _+19=>exact fun hq=>hq)
  ·intro a w1 live S E D C h0 hk hX
   have hW:=hX
   obtain ⟨gl,dl,ho⟩:=D 16 rfl _ _ rfl rfl
   refine Rgs.call rfl (Reg.wanted_free rfl) 33 #[.slice (some ⟨gl,0,none⟩) (7:Nat) 7] (by have c:=Reg.consts a;generalize a.eval=ρ at *;simp [execOp,go_sem,c.1,c.2,dl]) ?_
   refine (HN6.out w1 gl ho).mono ?_
   rintro e w5 ⟨rfl,hb5⟩
   exact ⟨_,rfl,rfl,(hW.trans (hb5.mono hW.size)),fun jq vq _ hq=>by
    revert hq
    match jq with
    | 16=>exact fun ⟨gq,e1,e2⟩=>⟨gq,e1,OwnV.below e2 rfl hb5⟩
    | 0 | 1 | 2 | 3 | 4 | 5 | 6 | 7 | 8 | 9 | 10 | 11 | 12 | 13 | 14 | 15 | 17 | 18 | _+19=>exact fun hq=>hq⟩
  ·intro a w1 live S E D C h0 hk hX
   have hW:=hX
   have d17:a.eval (.tmp 20)=.string s6:=D 17 rfl _ _ rfl rfl
   exact Rgs.val rfl (Reg.wanted_free rfl) (.string s6) (by have c:=Reg.consts a;generalize a.eval=ρ at *;simp [execOp,go_sem,c.1,c.2,d17]) rfl hW
 ·intro a w4 live hs hd E D Hl hX
  have e2:a.eval (.tmp 2)=.string s6:=by
   obtain ⟨v,hv,he⟩:=D 18 _ rfl
   exact (he 2 rfl).trans hv
  rw [Rgs.act_ws a _ _ hs hd E [3,4,5,6,7,8,9,10,11,12,13,14,15,16,17,18,19,20,2] (by kernel_rfl)]
  simp only [List.foldl,List.setIfInBounds_toArray,List.set_cons_succ,List.set_cons_zero,e2]
  have HX5:=Lib.hid hX
  clear E D Hl hX e2
  generalize a.eval=ρ
  clear a hs hd
  go_wp2_with fail
  go_ret
  exact Ans.mk (congrArg Value.string HS6.out.symm) (HB8.out.trans (HX5.out.mono HB8.out.size))
end Go.Proofs.YtfmndmhjjbeokaaGreatDoor
