import Derived.Test.YtfmndmhjjbeokaaGreatDoorLow35
import Derived.Test.YtfmndmhjjbeokaaGreatDoorLow23
import Derived.Test.YtfmndmhjjbeokaaGreatDoorLow2
namespace Go.Proofs.YtfmndmhjjbeokaaGreatDoor
set_option maxRecDepth 100000
open Go.RowKit Tab Txt
set_option linter.unusedSimpArgs false
set_option linter.unusedVariables false
theorem healI_0 (st:Option (List UInt8)):healI (st.bind (healS 5)) [] st:=by
 unfold healI
 cases st with
 | none=>rfl
 | some s =>
  show healS 5 s=(healS 5 s).map fun x=>([]++x.1,x.2)
  cases healS 5 s with
  | none=>rfl
  | some y=>rfl
theorem healI_end {R:Option (List Int×List UInt8)} {l:List Int} {st:Option (List UInt8)} (h:healI R l st) (hl:l.length=5):Got R l st:=by
 unfold healI at h
 rw [hl] at h
 cases st with
 | none=>exact got_no h
 | some s=>exact got_yes (by rw [h];show some (l++[],s)=_;rw [List.append_nil])
def fiv (l:List Int):List Value:=hzV l++List.replicate (5 - l.length) (.int .i64 0)
theorem fiv_set {l:List Int} (h:l.length < 5) (x:Int):(fiv l).set l.length (.int .i64 x)=fiv (l++[x]):=by
 unfold fiv hzV
 rw [List.set_append_right _ _ (by rw [List.length_map];exact Nat.le_refl _),List.length_map,Nat.sub_self,List.length_append,List.map_append]
 obtain ⟨k,hk⟩:∃ k,5 - l.length=k+1:=⟨4 - l.length,by omega⟩
 rw [hk,show 5 - (l.length+[x].length)=k by simp only [List.length_cons,List.length_nil];omega,List.replicate_succ,List.set_cons_zero,List.append_assoc]
 rfl
theorem fiv_zero {l:List Int} (h:l.length < 5):fiv l=fiv (l++[0]):=by
 unfold fiv hzV
 obtain ⟨k,hk⟩:∃ k,5 - l.length=k+1:=⟨4 - l.length,by omega⟩
 rw [List.length_append,List.map_append,hk,show 5 - (l.length+[(0:Int)].length)=k by simp only [List.length_cons,List.length_nil];omega,List.replicate_succ,List.append_assoc]
 rfl
theorem five_of {l:List Int} (h:l.length=5):∃ a b c d e,l=[a,b,c,d,e]:=by
 match l,h with
 | [a,b,c,d,e],_=>exact ⟨a,b,c,d,e,rfl⟩
theorem sz_five (w:World):(sizeOf 58).run Tryz.prog w=.ok 5 w:=by go_simp
theorem ag_five (w:World):(isAgg 58).run Tryz.prog w=.ok true w:=by go_simp
theorem results_own1 {fn:Func} {p:Tmp} {T n:Nat} (h:fn.results=#[.cell p T]) {tmps:Array Value} {w:World} {B g:Nat} {l:List Value} (e:(isAgg T).run Tryz.prog w=.ok true w) (e2:(sizeOf T).run Tryz.prog w=.ok n w) (hp:tmps.getD p undef=.pointer (some ⟨g,0,none⟩)) (ho:OwnV T n w B (some ⟨g,0,none⟩) 1 1 l):(results fn tmps).run Tryz.prog w=.ok (.agg l.toArray) w:=by
 have e3:(asAddr (.pointer (some ⟨g,0,none⟩))).run Tryz.prog w=.ok ⟨g,0,none⟩ w:=rfl
 rw [results_cell1 h,hp,e3,Result.andThen_ok,loadVar_own e e2 ho]
theorem ogb_own {w w2:World} {g gx:Nat} {k:Nat} {v:Value} (h:w.grownBy w2 (some g)) (hx:w.heap.size≤gx):w.grownBy (w2.setCell ⟨gx,k,none⟩ v) (some g) :=
 ogb_bel2 h ((Below.refl _ _).setCell (p:=⟨gx,k,none⟩) hx v)
set_option maxHeartbeats 4000000 in
theorem thealth_any {B g:Nat} {st:Option (List UInt8)} {w:World} (h:RdrS B g st w):Calls Tryz.prog 111 #[.pointer (some ⟨g,0,none⟩)] w (HealX B g (st.bind (healS 5)) w):=by
 have HI:=Lib.hid (healI_0 st)
 have b1:=bl1 w (.cells #[.int .i64 0,.int .i64 0,.int .i64 0,.int .i64 0,.int .i64 0] 58)
 have o1:=ownV_lit w 58 5 w.heap.size #[.int .i64 0,.int .i64 0,.int .i64 0,.int .i64 0,.int .i64 0] 1 rfl (Nat.le_refl _) (by unfold maxLen;omega)
 have b2:=bl1 (w.alloc (.cells #[.int .i64 0,.int .i64 0,.int .i64 0,.int .i64 0,.int .i64 0] 58)) (.cells #[.int .i64 0,.int .i64 0,.int .i64 0,.int .i64 0,.int .i64 0] 58)
 have o2:=ownV_lit (w.alloc (.cells #[.int .i64 0,.int .i64 0,.int .i64 0,.int .i64 0,.int .i64 0] 58)) 58 5 w.heap.size #[.int .i64 0,.int .i64 0,.int .i64 0,.int .i64 0,.int .i64 0] 1 rfl b1.size (by unfold maxLen;omega)
 have o1b:=OwnV.below o1 rfl b2
 have hr2:RdrS B g st ((w.alloc (.cells #[.int .i64 0,.int .i64 0,.int .i64 0,.int .i64 0,.int .i64 0] 58)).alloc (.cells #[.int .i64 0,.int .i64 0,.int .i64 0,.int .i64 0,.int .i64 0] 58)):=OwnV.below (OwnV.below h rfl b1) rfl b2
 have H2:Hid (Rpo B g st w ((w.alloc (.cells #[.int .i64 0,.int .i64 0,.int .i64 0,.int .i64 0,.int .i64 0] 58)).alloc (.cells #[.int .i64 0,.int .i64 0,.int .i64 0,.int .i64 0,.int .i64 0] 58))):=Lib.hid ⟨hr2,ogb_bel (b1.trans (b2.mono b1.size))⟩
 have O1:=Lib.hid o1b
 have O2:=Lib.hid o2
 have HGS:Hid (g < w.heap.size):=Lib.hid h.cells.2.2.2.2.2
 have hz:(w.alloc (.cells #[.int .i64 0,.int .i64 0,.int .i64 0,.int .i64 0,.int .i64 0] 58)).heap.size=w.heap.size+1:=by simp
 rw [hz] at O2
 generalize st.bind (healS 5)=R at HI ⊢
 clear h b1 o1 b2 o2 o1b hr2 hz
 go_enter Tryz.func111,Tryz.ntmps111
 go_wp2_with fail
 have HA:Hid (obk (some (⟨w.heap.size,0,none⟩:Addr))=some w.heap.size):=Lib.hid rfl
 have HA2:Hid (obk (some (⟨w.heap.size+1,0,none⟩:Addr))=some (w.heap.size+1)):=Lib.hid rfl
 generalize (w.alloc (.cells #[.int .i64 0,.int .i64 0,.int .i64 0,.int .i64 0,.int .i64 0] 58)).alloc (.cells #[.int .i64 0,.int .i64 0,.int .i64 0,.int .i64 0,.int .i64 0] 58)=wz at H2 O1 O2 ⊢
 go_loopw [4,5] (fun _ q wr=>∃ (l:List Int) (sn:Option (List UInt8)) (L1:List Value),l.length≤5∧q=.int .i64 (l.length:Nat)∧healI R l sn∧Rpo B g sn w wr∧OwnV 58 5 wr w.heap.size (some ⟨w.heap.size,0,none⟩) 1 1 L1∧OwnV 58 5 wr w.heap.size (some ⟨w.heap.size+1,0,none⟩) 1 1 (fiv l)) (fun _ q _=>5 - (intOf q).toNat)
 case atStart=>exact ⟨[],st,_,by decide,rfl,HI.out,H2.out,O1.out,O2.out⟩
 case round =>
  obtain ⟨l,sn,L1,hl,rfl,hi,hr,ho1,ho2⟩:=hrel
  have HI2:=Lib.hid hi
  have HR:=Lib.hid hr
  have HO1:=Lib.hid ho1
  have HO2:=Lib.hid ho2
  clear hi hr ho1 ho2 H2 O1 O2 HI
  by_cases hlt:l.length < 5
  ·have hli:((l.length:Nat):Int) < 5:=by omega
   have HNX:=Lib.hid (tnext_any HR.out.rd)
   by_cases hs:sn.getD []=[]
   ·have HI5:=Lib.hid (healI_fail HI2.out hlt hs 0)
    have e1:nxV sn=0:=by
     cases sn with
     | none=>rfl
     | some s=>rw [show s=[] from hs];rfl
    rw [e1] at HNX
    clear hs e1
    go_wp2_with fail
    refine HNX.out.mono ?_
    rintro e w1 ⟨rfl,h1⟩
    have H1:=Lib.hid (HR.out.trans h1)
    have HQ1:=Lib.hid (OwnV.gbo HO1.out h1.gb (by rw [HA.out];intro e;injection e with e;have:=HGS.out;omega))
    have HQ2:=Lib.hid (OwnV.gbo HO2.out h1.gb (by rw [HA2.out];intro e;injection e with e;have:=HGS.out;omega))
    have HF:=Lib.hid (tfail_any h1.rd)
    clear h1 HO1 HO2 HR
    go_wp2_with fail
    refine HF.out.mono ?_
    rintro e w2 ⟨rfl,h2⟩
    have H2:=Lib.hid (H1.out.trans h2)
    have HR1:=Lib.hid (OwnV.gbo HQ1.out h2.gb (by rw [HA.out];intro e;injection e with e;have:=HGS.out;omega))
    have HR2:Hid (OwnV 58 5 w2 w.heap.size (some ⟨w.heap.size+1,0,none⟩) 1 1 (fiv (l++[0]))):=Lib.hid (by rw [← fiv_zero hlt];exact OwnV.gbo HQ2.out h2.gb (by rw [HA2.out];intro e;injection e with e;have:=HGS.out;omega))
    clear h2 HF HQ1 HQ2 H1
    go_wp2_with fail
    go_roundw
    case rel=>exact ⟨l++[0],none,L1,by rw [List.length_append];show l.length+1≤5;omega,by rw [List.length_append];go_num,HI5.out,H2.out,HR1.out,HR2.out⟩
    case measure=>simp [intOf];omega
   ·obtain ⟨c,r,rfl⟩:∃ c r,sn=some (c::r):=by
     cases sn with
     | none=>exact absurd rfl hs
     | some s =>
      cases s with
      | nil=>exact absurd rfl hs
      | cons c r=>exact ⟨c,r,rfl⟩
    have hnn:=healI_next HI2.out hlt
    have HD1:=Lib.hid hnn.1
    have HD2:=Lib.hid hnn.2
    rw [show nxV (some (c::r))=(c.toNat:Int) from rfl,show nxS (some (c::r))=some r from rfl] at HNX
    clear hnn hs HI2
    by_cases h48:c.toNat=48
    ·have HI5:Hid (healI R (l++[0]) (some r)):=Lib.hid (by have:=HD1.out (by unfold dgS;rw [h48];rfl);rw [h48] at this;exact this)
     rw [h48] at HNX
     clear h48 HD1 HD2
     go_wp2_with fail
     refine HNX.out.mono ?_
     rintro e w1 ⟨rfl,h1⟩
     have H1:=Lib.hid (HR.out.trans h1)
     have o1:=OwnV.gbo HO1.out h1.gb (by rw [HA.out];intro e;injection e with e;have:=HGS.out;omega)
     have o2:=OwnV.gbo HO2.out h1.gb (by rw [HA2.out];intro e;injection e with e;have:=HGS.out;omega)
     obtain ⟨z0,c1⟩:∃ v,w1.cell? ⟨w.heap.size+1,l.length,none⟩=some v:=⟨_,(World.ownsRow.cellAt o2 l.length (by omega)).trans (List.getElem?_eq_getElem (by rw [o2.1];omega))⟩
     have c2:=World.ownsRow.frozenAt o2 l.length
     have HS1:Hid (OwnV 58 5 (w1.setCell ⟨w.heap.size+1,l.length,none⟩ (.int .i64 0)) w.heap.size (some ⟨w.heap.size,0,none⟩) 1 1 L1):=Lib.hid (OwnV.other o1 _ _ (by intro k e;injection e with e;injection e with e;show k≠w.heap.size+1;omega))
     have HS2:Hid (OwnV 58 5 (w1.setCell ⟨w.heap.size+1,l.length,none⟩ (.int .i64 0)) w.heap.size (some ⟨w.heap.size+1,0,none⟩) 1 1 (fiv (l++[0]))):=Lib.hid (by rw [← fiv_set hlt 0];exact OwnV.set o2 l.length _ (by rw [o2.1];omega))
     have HS3:Hid (Rpo B g (some r) w (w1.setCell ⟨w.heap.size+1,l.length,none⟩ (.int .i64 0))):=Lib.hid ⟨OwnV.other H1.out.rd _ _ (by intro k e;injection e with e;injection e with e;show k≠w.heap.size+1;have:=HGS.out;omega),ogb_own H1.out.gb (by omega)⟩
     clear o1 o2 h1 HO1 HO2 HR H1
     go_wp2_with fail
     go_roundw
     case rel=>exact ⟨l++[0],some r,L1,by rw [List.length_append];show l.length+1≤5;omega,by rw [List.length_append];go_num,HI5.out,HS3.out,HS1.out,HS2.out⟩
     case measure=>simp [intOf];omega
    by_cases h49:c.toNat=49
    ·have HI5:Hid (healI R (l++[1]) (some r)):=Lib.hid (by have:=HD1.out (by unfold dgS;rw [h49];rfl);rw [h49] at this;exact this)
     rw [h49] at HNX
     clear h48 h49 HD1 HD2
     go_wp2_with fail
     refine HNX.out.mono ?_
     rintro e w1 ⟨rfl,h1⟩
     have H1:=Lib.hid (HR.out.trans h1)
     have o1:=OwnV.gbo HO1.out h1.gb (by rw [HA.out];intro e;injection e with e;have:=HGS.out;omega)
     have o2:=OwnV.gbo HO2.out h1.gb (by rw [HA2.out];intro e;injection e with e;have:=HGS.out;omega)
     obtain ⟨z0,c1⟩:∃ v,w1.cell? ⟨w.heap.size+1,l.length,none⟩=some v:=⟨_,(World.ownsRow.cellAt o2 l.length (by omega)).trans (List.getElem?_eq_getElem (by rw [o2.1];omega))⟩
     have c2:=World.ownsRow.frozenAt o2 l.length
     have HS1:Hid (OwnV 58 5 (w1.setCell ⟨w.heap.size+1,l.length,none⟩ (.int .i64 1)) w.heap.size (some ⟨w.heap.size,0,none⟩) 1 1 L1):=Lib.hid (OwnV.other o1 _ _ (by intro k e;injection e with e;injection e with e;show k≠w.heap.size+1;omega))
     have HS2:Hid (OwnV 58 5 (w1.setCell ⟨w.heap.size+1,l.length,none⟩ (.int .i64 1)) w.heap.size (some ⟨w.heap.size+1,0,none⟩) 1 1 (fiv (l++[1]))):=Lib.hid (by rw [← fiv_set hlt 1];exact OwnV.set o2 l.length _ (by rw [o2.1];omega))
     have HS3:Hid (Rpo B g (some r) w (w1.setCell ⟨w.heap.size+1,l.length,none⟩ (.int .i64 1))):=Lib.hid ⟨OwnV.other H1.out.rd _ _ (by intro k e;injection e with e;injection e with e;show k≠w.heap.size+1;have:=HGS.out;omega),ogb_own H1.out.gb (by omega)⟩
     clear o1 o2 h1 HO1 HO2 HR H1
     go_wp2_with fail
     go_roundw
     case rel=>exact ⟨l++[1],some r,L1,by rw [List.length_append];show l.length+1≤5;omega,by rw [List.length_append];go_num,HI5.out,HS3.out,HS1.out,HS2.out⟩
     case measure=>simp [intOf];omega
    by_cases h50:c.toNat=50
    ·have HI5:Hid (healI R (l++[2]) (some r)):=Lib.hid (by have:=HD1.out (by unfold dgS;rw [h50];rfl);rw [h50] at this;exact this)
     rw [h50] at HNX
     clear h48 h49 h50 HD1 HD2
     go_wp2_with fail
     refine HNX.out.mono ?_
     rintro e w1 ⟨rfl,h1⟩
     have H1:=Lib.hid (HR.out.trans h1)
     have o1:=OwnV.gbo HO1.out h1.gb (by rw [HA.out];intro e;injection e with e;have:=HGS.out;omega)
     have o2:=OwnV.gbo HO2.out h1.gb (by rw [HA2.out];intro e;injection e with e;have:=HGS.out;omega)
     obtain ⟨z0,c1⟩:∃ v,w1.cell? ⟨w.heap.size+1,l.length,none⟩=some v:=⟨_,(World.ownsRow.cellAt o2 l.length (by omega)).trans (List.getElem?_eq_getElem (by rw [o2.1];omega))⟩
     have c2:=World.ownsRow.frozenAt o2 l.length
     have HS1:Hid (OwnV 58 5 (w1.setCell ⟨w.heap.size+1,l.length,none⟩ (.int .i64 2)) w.heap.size (some ⟨w.heap.size,0,none⟩) 1 1 L1):=Lib.hid (OwnV.other o1 _ _ (by intro k e;injection e with e;injection e with e;show k≠w.heap.size+1;omega))
     have HS2:Hid (OwnV 58 5 (w1.setCell ⟨w.heap.size+1,l.length,none⟩ (.int .i64 2)) w.heap.size (some ⟨w.heap.size+1,0,none⟩) 1 1 (fiv (l++[2]))):=Lib.hid (by rw [← fiv_set hlt 2];exact OwnV.set o2 l.length _ (by rw [o2.1];omega))
     have HS3:Hid (Rpo B g (some r) w (w1.setCell ⟨w.heap.size+1,l.length,none⟩ (.int .i64 2))):=Lib.hid ⟨OwnV.other H1.out.rd _ _ (by intro k e;injection e with e;injection e with e;show k≠w.heap.size+1;have:=HGS.out;omega),ogb_own H1.out.gb (by omega)⟩
     clear o1 o2 h1 HO1 HO2 HR H1
     go_wp2_with fail
     go_roundw
     case rel=>exact ⟨l++[2],some r,L1,by rw [List.length_append];show l.length+1≤5;omega,by rw [List.length_append];go_num,HI5.out,HS3.out,HS1.out,HS2.out⟩
     case measure=>simp [intOf];omega
    have HI5:Hid (healI R (l++[0]) none):=Lib.hid (HD2.out (by unfold dgS;exact decide_eq_false (by omega)) 0)
    obtain ⟨b,hb⟩:∃ b,b=c.toNat:=⟨_,rfl⟩
    rw [← hb] at HNX h48 h49 h50
    have i1:((b:Int) == 48)=false:=by rw [beq_eq_false_iff_ne];omega
    have i2:((b:Int) == 49)=false:=by rw [beq_eq_false_iff_ne];omega
    have i3:((b:Int) == 50)=false:=by rw [beq_eq_false_iff_ne];omega
    clear hb h48 h49 h50 HD1 HD2
    go_wp2_with fail
    refine HNX.out.mono ?_
    rintro e w1 ⟨rfl,h1⟩
    have H1:=Lib.hid (HR.out.trans h1)
    have HQ1:=Lib.hid (OwnV.gbo HO1.out h1.gb (by rw [HA.out];intro e;injection e with e;have:=HGS.out;omega))
    have HQ2:=Lib.hid (OwnV.gbo HO2.out h1.gb (by rw [HA2.out];intro e;injection e with e;have:=HGS.out;omega))
    have HF:=Lib.hid (tfail_any h1.rd)
    clear h1 HO1 HO2 HR
    go_wp2_with fail
    refine HF.out.mono ?_
    rintro e w2 ⟨rfl,h2⟩
    have H2:=Lib.hid (H1.out.trans h2)
    have HR1:=Lib.hid (OwnV.gbo HQ1.out h2.gb (by rw [HA.out];intro e;injection e with e;have:=HGS.out;omega))
    have HR2:Hid (OwnV 58 5 w2 w.heap.size (some ⟨w.heap.size+1,0,none⟩) 1 1 (fiv (l++[0]))):=Lib.hid (by rw [← fiv_zero hlt];exact OwnV.gbo HQ2.out h2.gb (by rw [HA2.out];intro e;injection e with e;have:=HGS.out;omega))
    clear h2 HF HQ1 HQ2 H1
    go_wp2_with fail
    go_roundw
    case rel=>exact ⟨l++[0],none,L1,by rw [List.length_append];show l.length+1≤5;omega,by rw [List.length_append];go_num,HI5.out,H2.out,HR1.out,HR2.out⟩
    case measure=>simp [intOf];omega
  ·have hli:¬ ((l.length:Nat):Int) < 5:=by omega
   have hl5:l.length=5:=by omega
   have HG:=Lib.hid (healI_end HI2.out hl5)
   obtain ⟨a0,a1,a2,a3,a4,rfl⟩:=five_of hl5
   clear HI2
   go_upto_region 14 with fail
   refine wp_region_lit (wpList_loadX rfl (.tmp 3) rfl rfl (ag_five _) (sz_five _) HO2.out (wpList_storeX (l:=fiv [a0,a1,a2,a3,a4]) rfl (.tmp 2) (.tmp 25) rfl rfl rfl (sz_five _) HO1.out rfl ?_ fun w5 ho5 hg5=>?_))
   ·intro v hv
    simp [fiv,hzV] at hv
    rcases hv with rfl | rfl | rfl | rfl | rfl <;> rfl
   have HR5:Hid (Rpo B g sn w w5):=Lib.hid ⟨OwnV.gbo HR.out.rd hg5 (by intro e;injection e with e;have:=HGS.out;dsimp only at e;omega),by
    have h:=HR.out.gb
    exact ⟨hg5.os.trans h.os,hg5.tape.trans h.tape,hg5.output.trans h.output,Nat.le_trans h.size hg5.size,fun i hi hne=>(hg5.block i (Nat.lt_of_lt_of_le hi h.size) (by intro e;injection e with e;omega)).trans (h.block i hi hne)⟩⟩
   have HO5:=Lib.hid ho5
   clear ho5 hg5 HO1 HO2 HR
   go_wp2_with fail
   refine bodyPost_ret (results_own1 rfl (ag_five _) (sz_five _) rfl HO5.out) rfl ?_
   exact ⟨a0,a1,a2,a3,a4,sn,rfl,HG.out,HR5.out⟩
end Go.Proofs.YtfmndmhjjbeokaaGreatDoor
namespace Go.Proofs.YtfmndmhjjbeokaaGreatDoor
set_option maxRecDepth 100000
open Go.RowKit Tab Txt
set_option linter.unusedSimpArgs false
set_option linter.unusedVariables false
theorem got_le {α:Type} {f:List UInt8→Option (α×List UInt8)} (hf:∀ s x,f s=some x→x.2.length≤s.length) {st st':Option (List UInt8)} {v:α} (h:Got (st.bind f) v st'):(st'.getD []).length≤(st.getD []).length:=by
 obtain ⟨rfl,_⟩:=h
 cases st with
 | none=>exact Nat.le_refl _
 | some s =>
  cases e:f s with
  | none=>show (((f s).map _).getD []).length≤_;rw [e];exact Nat.zero_le _
  | some x=>show (((f s).map _).getD []).length≤_;rw [e];exact hf s x e
theorem take_le (st:Option (List UInt8)) (b:UInt8):((st.bind (takeB b)).getD []).length≤(st.getD []).length:=by
 cases st with
 | none=>exact Nat.le_refl _
 | some s =>
  rw [Option.bind_some]
  cases e:takeB b s with
  | none=>exact Nat.zero_le _
  | some r=>have:=congrArg List.length (takeB_some e);rw [List.length_cons] at this;rw [Option.getD_some,Option.getD_some];omega
theorem nameS_le {s:List UInt8} {x:List UInt8×List UInt8} (h:nameS s=some x):x.2.length≤s.length:=by
 unfold nameS at h
 split at h
 ·injection h with h;rw [← h];exact behind_le _ _
 ·cases h
theorem knownS_le {N:List (List UInt8)} {b:UInt8} {s:List UInt8} {x:Int×List UInt8} (h:knownS N b s=some x):x.2.length≤s.length:=by
 unfold knownS at h
 split at h
 ·cases h
 ·injection h with h;rw [← h];exact behind_le _ _
theorem takeB_le {b:UInt8} {s r:List UInt8} (h:takeB b s=some r):r.length≤s.length:=by
 have:=congrArg List.length (takeB_some h);rw [List.length_cons] at this;omega
theorem numZ_le {m:Nat} {s:List UInt8} {x:Int×List UInt8} (h:numZ m s=some x):x.2.length≤s.length:=by
 unfold numZ at h
 cases e:numS m s with
 | none=>rw [e] at h;cases h
 | some y =>
  rw [e] at h
  injection h with h
  rw [← h]
  show y.2.length≤_
  unfold numS at e
  split at e
  ·cases e
  ·split at e
   ·injection e with e;rw [← e];simp
   ·exact numL_le _ _ _ _ e
theorem flagS_le {s:List UInt8} {x:(Bool×Bool)×List UInt8} (h:flagS s=some x):x.2.length≤s.length:=by
 unfold flagS at h
 split at h
 ·rename_i r hr;injection h with h;rw [← h];exact takeB_le hr
 ·split at h
  ·rename_i r hr
   split at h
   ·rename_i q hq;injection h with h;rw [← h];exact Nat.le_trans (takeB_le hq) (takeB_le hr)
   ·injection h with h;rw [← h];exact takeB_le hr
  ·cases e:takeB 116 s with
   | none=>rw [e] at h;cases h
   | some r=>rw [e] at h;injection h with h;rw [← h];exact takeB_le e
theorem healS_le:∀ (k:Nat) (s:List UInt8) (x:List Int×List UInt8),healS k s=some x→x.2.length≤s.length
 | 0,s,x,h=>by unfold healS at h;injection h with h;rw [← h];exact Nat.le_refl _
 | k+1,[],x,h=>by cases h
 | k+1,c::r,x,h=>by
  rw [healS_cons] at h
  split at h
  ·cases e:healS k r with
   | none=>rw [e] at h;cases h
   | some y =>
    rw [e] at h
    injection h with h
    have:=healS_le k r y e
    rw [← h,List.length_cons]
    show y.2.length≤_
    omega
  ·cases h
theorem kindS_le {s:List UInt8} {x:(Bool×Int)×List UInt8} (h:kindS s=some x):x.2.length≤s.length:=by
 unfold kindS at h
 split at h
 ·rename_i r hr
  cases e:numW r with
  | none=>rw [e] at h;cases h
  | some y=>rw [e] at h;injection h with h;rw [← h];exact Nat.le_trans (numW_le e) (takeB_le hr)
 ·cases e:takeB 115 s with
  | none=>rw [e] at h;cases h
  | some r=>rw [e] at h;injection h with h;rw [← h];exact takeB_le e
section
variable {B g gx:Nat} {st:Option (List UInt8)} {w W W':World}
theorem Rpo.own (h:Rpo B g st w W) (hx:w.heap.size≤gx) (hg:g < w.heap.size) (k:Nat) (v:Value):Rpo B g st w (W.setCell ⟨gx,k,none⟩ v) :=
 ⟨OwnV.other h.rd _ _ (by intro j e;injection e with e;injection e with e;show j≠gx;omega),ogb_own h.gb hx⟩
theorem Rpo.new (h:Rpo B g st w W) (hg:g < w.heap.size) (hx:w.heap.size≤gx) (hb:W.grownBy W' (some gx)):Rpo B g st w W' :=
 ⟨OwnV.gbo h.rd hb (by intro e;injection e with e;dsimp only at e;omega),by
  have h:=h.gb
  exact ⟨hb.os.trans h.os,hb.tape.trans h.tape,hb.output.trans h.output,Nat.le_trans h.size hb.size,fun i hi hne=>(hb.block i (Nat.lt_of_lt_of_le hi h.size) (by intro e;injection e with e;omega)).trans (h.block i hi hne)⟩⟩
theorem row_keep {T n S:Nat} {l:List Value} (o:OwnV T n W S (some ⟨gx,0,none⟩) 1 1 l) (hx:g < gx) (h:W.grownBy W' (some g)):OwnV T n W' S (some ⟨gx,0,none⟩) 1 1 l :=
 OwnV.gbo o h (by intro e;injection e with e;dsimp only at e;omega)
theorem row_facts {T n S:Nat} {l:List Value} (o:OwnV T n W S (some ⟨gx,0,none⟩) 1 1 l) (k:Nat) (v:Value) (hv:l[k]? = some v):W.cell? ⟨gx,k,none⟩=some v∧W.frozen? ⟨gx,k,none⟩=false :=
 ⟨(World.ownsRow.cellAt o k (by have:=(List.getElem?_eq_some_iff.1 hv).1;have:=o.1;omega)).trans hv,World.ownsRow.frozenAt o k⟩
theorem row_far {T n S gy:Nat} {l:List Value} (o:OwnV T n W S (some ⟨gx,0,none⟩) 1 1 l) (h:gx≠gy) (k:Nat) (v:Value):OwnV T n (W.setCell ⟨gy,k,none⟩ v) S (some ⟨gx,0,none⟩) 1 1 l :=
 OwnV.other o _ _ (by intro j e;injection e with e;injection e with e;show j≠gy;omega)
end
theorem sz_part (w:World):(sizeOf 60).run Tryz.prog w=.ok 11 w:=by go_simp
theorem ag_part (w:World):(isAgg 60).run Tryz.prog w=.ok true w:=by go_simp
theorem sz_chan (w:World):(sizeOf 66).run Tryz.prog w=.ok 6 w:=by go_simp
theorem ag_chan (w:World):(isAgg 66).run Tryz.prog w=.ok true w:=by go_simp
theorem part_chain {st s2 s4 s6 s8 s10 s12:Option (List UInt8)} {nm:List UInt8} {b p:Int} {f:Bool×Bool} {h:List Int} {L:List (Int×Int)}
  (h1:Got ((st.bind (takeB 32)).bind nameS) nm s2) (h2:Got ((s2.bind (takeB 32)).bind (numZ lim40)) b s4) (h3:Got ((s4.bind (takeB 32)).bind (numZ lim40)) p s6) (h4:Got ((s6.bind (takeB 32)).bind flagS) f s8) (h5:Got ((s8.bind (takeB 32)).bind (healS 5)) h s10) (h6:Got ((s10.bind (takeB 32)).bind procsA) L s12) :
  Got (st.bind partS) (partV nm b p f h L) s12:=by
 have e1:=h1.bind fun nm s=>(takeB 32 s).bind fun s=>(numW s).bind fun b=>(takeB 32 b.2).bind fun s=>(numW s).bind fun p=>(takeB 32 p.2).bind fun s=>(flagS s).bind fun f=>(takeB 32 f.2).bind fun s=>(healS 5 s).bind fun h=>(takeB 32 h.2).bind fun s=>(procsA s).bind fun L=>some (partV nm b.1 p.1 f.1 h.1 L.1,L.2)
 have e2:=h2.bind fun b s=>(takeB 32 s).bind fun s=>(numW s).bind fun p=>(takeB 32 p.2).bind fun s=>(flagS s).bind fun f=>(takeB 32 f.2).bind fun s=>(healS 5 s).bind fun h=>(takeB 32 h.2).bind fun s=>(procsA s).bind fun L=>some (partV nm b p.1 f.1 h.1 L.1,L.2)
 have e3:=h3.bind fun p s=>(takeB 32 s).bind fun s=>(flagS s).bind fun f=>(takeB 32 f.2).bind fun s=>(healS 5 s).bind fun h=>(takeB 32 h.2).bind fun s=>(procsA s).bind fun L=>some (partV nm b p f.1 h.1 L.1,L.2)
 have e4:=h4.bind fun f s=>(takeB 32 s).bind fun s=>(healS 5 s).bind fun h=>(takeB 32 h.2).bind fun s=>(procsA s).bind fun L=>some (partV nm b p f h.1 L.1,L.2)
 have e5:=h5.bind fun h s=>(takeB 32 s).bind fun s=>(procsA s).bind fun L=>some (partV nm b p f h L.1,L.2)
 have e6:=h6.bind fun L s=>some (partV nm b p f h L,s)
 have:st.bind partS=s12.bind fun s=>some (partV nm b p f h L,s):=by
  unfold partS
  rw [must_bind st 32 fun s=>(nameS s).bind fun nm=>(takeB 32 nm.2).bind fun s=>(numW s).bind fun b=>(takeB 32 b.2).bind fun s=>(numW s).bind fun p=>(takeB 32 p.2).bind fun s=>(flagS s).bind fun f=>(takeB 32 f.2).bind fun s=>(healS 5 s).bind fun h=>(takeB 32 h.2).bind fun s=>(procsA s).bind fun L=>some (partV nm.1 b.1 p.1 f.1 h.1 L.1,L.2),e1,
   must_bind s2 32 fun s=>(numW s).bind fun b=>(takeB 32 b.2).bind fun s=>(numW s).bind fun p=>(takeB 32 p.2).bind fun s=>(flagS s).bind fun f=>(takeB 32 f.2).bind fun s=>(healS 5 s).bind fun h=>(takeB 32 h.2).bind fun s=>(procsA s).bind fun L=>some (partV nm b.1 p.1 f.1 h.1 L.1,L.2),show ((s2.bind (takeB 32)).bind fun s=>(numW s).bind _)=_ from e2,
   must_bind s4 32 fun s=>(numW s).bind fun p=>(takeB 32 p.2).bind fun s=>(flagS s).bind fun f=>(takeB 32 f.2).bind fun s=>(healS 5 s).bind fun h=>(takeB 32 h.2).bind fun s=>(procsA s).bind fun L=>some (partV nm b p.1 f.1 h.1 L.1,L.2),show ((s4.bind (takeB 32)).bind fun s=>(numW s).bind _)=_ from e3,
   must_bind s6 32 fun s=>(flagS s).bind fun f=>(takeB 32 f.2).bind fun s=>(healS 5 s).bind fun h=>(takeB 32 h.2).bind fun s=>(procsA s).bind fun L=>some (partV nm b p f.1 h.1 L.1,L.2),e4,
   must_bind s8 32 fun s=>(healS 5 s).bind fun h=>(takeB 32 h.2).bind fun s=>(procsA s).bind fun L=>some (partV nm b p f h.1 L.1,L.2),e5,
   must_bind s10 32 fun s=>(procsA s).bind fun L=>some (partV nm b p f h L.1,L.2),e6]
 rw [this]
 exact Got.end_ _ _
theorem chan_chain {N:List (List UInt8)} {st s2 s4 s6 s8 s10:Option (List UInt8)} {a b m l:Int} {k:Bool×Int}
  (h1:Got ((st.bind (takeB 32)).bind (knownS N 32)) a s2) (h2:Got ((s2.bind (takeB 32)).bind (knownS N 32)) b s4) (h3:Got ((s4.bind (takeB 32)).bind kindS) k s6) (h4:Got ((s6.bind (takeB 32)).bind (numZ lim32)) m s8) (h5:Got ((s8.bind (takeB 32)).bind (numZ lim40)) l s10) :
  Got (st.bind (chanS N)) ⟨a,b,k.1,k.2,m,l⟩ s10:=by
 have e1:=h1.bind fun a s=>(takeB 32 s).bind fun s=>(knownS N 32 s).bind fun b=>(takeB 32 b.2).bind fun s=>(kindS s).bind fun k=>(takeB 32 k.2).bind fun s=>(numZ lim32 s).bind fun m=>(takeB 32 m.2).bind fun s=>(numW s).bind fun l=>some ((⟨a,b.1,k.1.1,k.1.2,m.1,l.1⟩:ChV),l.2)
 have e2:=h2.bind fun b s=>(takeB 32 s).bind fun s=>(kindS s).bind fun k=>(takeB 32 k.2).bind fun s=>(numZ lim32 s).bind fun m=>(takeB 32 m.2).bind fun s=>(numW s).bind fun l=>some ((⟨a,b,k.1.1,k.1.2,m.1,l.1⟩:ChV),l.2)
 have e3:=h3.bind fun k s=>(takeB 32 s).bind fun s=>(numZ lim32 s).bind fun m=>(takeB 32 m.2).bind fun s=>(numW s).bind fun l=>some ((⟨a,b,k.1,k.2,m.1,l.1⟩:ChV),l.2)
 have e4:=h4.bind fun m s=>(takeB 32 s).bind fun s=>(numW s).bind fun l=>some ((⟨a,b,k.1,k.2,m,l.1⟩:ChV),l.2)
 have e5:=h5.bind fun l s=>some ((⟨a,b,k.1,k.2,m,l⟩:ChV),s)
 have:st.bind (chanS N)=s10.bind fun s=>some ((⟨a,b,k.1,k.2,m,l⟩:ChV),s):=by
  unfold chanS
  rw [must_bind st 32 fun s=>(knownS N 32 s).bind fun a=>(takeB 32 a.2).bind fun s=>(knownS N 32 s).bind fun b=>(takeB 32 b.2).bind fun s=>(kindS s).bind fun k=>(takeB 32 k.2).bind fun s=>(numZ lim32 s).bind fun m=>(takeB 32 m.2).bind fun s=>(numW s).bind fun l=>some ((⟨a.1,b.1,k.1.1,k.1.2,m.1,l.1⟩:ChV),l.2),e1,
   must_bind s2 32 fun s=>(knownS N 32 s).bind fun b=>(takeB 32 b.2).bind fun s=>(kindS s).bind fun k=>(takeB 32 k.2).bind fun s=>(numZ lim32 s).bind fun m=>(takeB 32 m.2).bind fun s=>(numW s).bind fun l=>some ((⟨a,b.1,k.1.1,k.1.2,m.1,l.1⟩:ChV),l.2),e2,
   must_bind s4 32 fun s=>(kindS s).bind fun k=>(takeB 32 k.2).bind fun s=>(numZ lim32 s).bind fun m=>(takeB 32 m.2).bind fun s=>(numW s).bind fun l=>some ((⟨a,b,k.1.1,k.1.2,m.1,l.1⟩:ChV),l.2),e3,
   must_bind s6 32 fun s=>(numZ lim32 s).bind fun m=>(takeB 32 m.2).bind fun s=>(numW s).bind fun l=>some ((⟨a,b,k.1,k.2,m.1,l.1⟩:ChV),l.2),e4,
   must_bind s8 32 fun s=>(numW s).bind fun l=>some ((⟨a,b,k.1,k.2,m,l.1⟩:ChV),l.2),show ((s8.bind (takeB 32)).bind fun s=>(numW s).bind _)=_ from e5]
 rw [this]
 exact Got.end_ _ _
def PartX (B g:Nat) (R:Option (Pq×List UInt8)) (w:World) (e:Ending) (w':World):Prop:=∃ (nm:List UInt8) (bv pv:Int) (f1 f2:Bool) (a0 a1 a2 a3 a4:Int) (L:List (Int×Int)) (st':Option (List UInt8)) (A:Option Addr) (n c:Nat),
 e=.returned (.agg #[.string (bsOf nm),.int .i64 bv,.int .i64 pv,.bool f1,.bool f2,.slice A n c,.int .i64 a0,.int .i64 a1,.int .i64 a2,.int .i64 a3,.int .i64 a4])∧nm.length≤1048576∧In64 bv∧In64 pv∧L.length=n∧n≤1048577∧OwnV 62 2 w' w.heap.size A n c (L.flatMap prc)∧Got R (partV nm bv pv (f1,f2) [a0,a1,a2,a3,a4] L) st'∧Rpo B g st' w w'
def ChanX (B g:Nat) (R:Option (ChV×List UInt8)) (w:World) (e:Ending) (w':World):Prop:=∃ (x:ChV) (st':Option (List UInt8)),e=.returned (.agg #[.int .i64 x.from_,.int .i64 x.to_,.bool x.queue,.int .i64 x.cap,.int .u32 (x.max % 4294967296),.int .i64 x.late])∧(In64 x.from_∧In64 x.to_∧In64 x.cap∧In64 x.late)∧Got R x st'∧Rpo B g st' w w'
set_option maxHeartbeats 8000000 in
theorem tpart_any {B g:Nat} {st:Option (List UInt8)} {w:World} (h:RdrS B g st w) (hl:(st.getD []).length≤1048576):Calls Tryz.prog 73 #[.pointer (some ⟨g,0,none⟩)] w (PartX B g (st.bind partS) w):=by
 have b1:=bl1 w (.cells #[.string ⟨#[]⟩,.int .i64 0,.int .i64 0,.bool false,.bool false,.slice none 0 0,.int .i64 0,.int .i64 0,.int .i64 0,.int .i64 0,.int .i64 0] 60)
 have o1:=ownV_lit w 60 11 w.heap.size #[.string ⟨#[]⟩,.int .i64 0,.int .i64 0,.bool false,.bool false,.slice none 0 0,.int .i64 0,.int .i64 0,.int .i64 0,.int .i64 0,.int .i64 0] 1 rfl (Nat.le_refl _) (by unfold maxLen;omega)
 have b2:=bl1 (w.alloc (.cells #[.string ⟨#[]⟩,.int .i64 0,.int .i64 0,.bool false,.bool false,.slice none 0 0,.int .i64 0,.int .i64 0,.int .i64 0,.int .i64 0,.int .i64 0] 60)) (.cells #[.string ⟨#[]⟩,.int .i64 0,.int .i64 0,.bool false,.bool false,.slice none 0 0,.int .i64 0,.int .i64 0,.int .i64 0,.int .i64 0,.int .i64 0] 60)
 have o2:=ownV_lit (w.alloc (.cells #[.string ⟨#[]⟩,.int .i64 0,.int .i64 0,.bool false,.bool false,.slice none 0 0,.int .i64 0,.int .i64 0,.int .i64 0,.int .i64 0,.int .i64 0] 60)) 60 11 w.heap.size #[.string ⟨#[]⟩,.int .i64 0,.int .i64 0,.bool false,.bool false,.slice none 0 0,.int .i64 0,.int .i64 0,.int .i64 0,.int .i64 0,.int .i64 0] 1 rfl b1.size (by unfold maxLen;omega)
 have o1b:=OwnV.below o1 rfl b2
 have hr2:RdrS B g st ((w.alloc (.cells #[.string ⟨#[]⟩,.int .i64 0,.int .i64 0,.bool false,.bool false,.slice none 0 0,.int .i64 0,.int .i64 0,.int .i64 0,.int .i64 0,.int .i64 0] 60)).alloc (.cells #[.string ⟨#[]⟩,.int .i64 0,.int .i64 0,.bool false,.bool false,.slice none 0 0,.int .i64 0,.int .i64 0,.int .i64 0,.int .i64 0,.int .i64 0] 60)):=OwnV.below (OwnV.below h rfl b1) rfl b2
 have H0:Hid (Rpo B g st w ((w.alloc (.cells #[.string ⟨#[]⟩,.int .i64 0,.int .i64 0,.bool false,.bool false,.slice none 0 0,.int .i64 0,.int .i64 0,.int .i64 0,.int .i64 0,.int .i64 0] 60)).alloc (.cells #[.string ⟨#[]⟩,.int .i64 0,.int .i64 0,.bool false,.bool false,.slice none 0 0,.int .i64 0,.int .i64 0,.int .i64 0,.int .i64 0,.int .i64 0] 60))):=Lib.hid ⟨hr2,ogb_bel (b1.trans (b2.mono b1.size))⟩
 have O0:=Lib.hid o1b
 have HGS:Hid (g < w.heap.size):=Lib.hid h.cells.2.2.2.2.2
 have hz:(w.alloc (.cells #[.string ⟨#[]⟩,.int .i64 0,.int .i64 0,.bool false,.bool false,.slice none 0 0,.int .i64 0,.int .i64 0,.int .i64 0,.int .i64 0,.int .i64 0] 60)).heap.size=w.heap.size+1:=by simp
 rw [hz] at o2
 have X0:=Lib.hid o2
 have HL0:Hid ((st.getD []).length≤1048576):=Lib.hid hl
 clear h b1 o1 b2 o2 o1b hr2 hz hl
 go_enter Tryz.func73,Tryz.ntmps73
 go_upto_region 2 with fail
 generalize (w.alloc (.cells #[.string ⟨#[]⟩,.int .i64 0,.int .i64 0,.bool false,.bool false,.slice none 0 0,.int .i64 0,.int .i64 0,.int .i64 0,.int .i64 0,.int .i64 0] 60)).alloc (.cells #[.string ⟨#[]⟩,.int .i64 0,.int .i64 0,.bool false,.bool false,.slice none 0 0,.int .i64 0,.int .i64 0,.int .i64 0,.int .i64 0,.int .i64 0] 60)=W0 at H0 O0 X0 ⊢
 have HM:=Lib.hid (tmust_any H0.out.rd 32 32 rfl)
 go_wp2_with fail
 refine HM.out.mono ?_
 rintro e V1 ⟨rfl,hm⟩
 have HH:=Lib.hid (H0.out.trans hm)
 have XX:=Lib.hid (row_keep X0.out (by have:=HGS.out;omega) hm.gb)
 have OO:=Lib.hid (row_keep O0.out HGS.out hm.gb)
 have LL:Hid (((st.bind (takeB 32)).getD []).length≤1048576):=Lib.hid (Nat.le_trans (take_le st 32) HL0.out)
 have HC:=Lib.hid (tname_any HH.out.rd LL.out)
 clear hm HM H0 X0 O0
 go_wp2_with fail
 refine HC.out.mono ?_
 rintro e U1 ⟨nm,s1,rfl,hg,hnl,h2⟩
 have G1:=Lib.hid hg
 have HL1:Hid ((s1.getD []).length≤1048576):=Lib.hid (Nat.le_trans (got_le (fun _ _ h=>nameS_le h) hg) LL.out)
 have HNL:=Lib.hid hnl
 clear hnl
 have HA:=Lib.hid (HH.out.trans h2)
 have xa:=row_keep XX.out (by have:=HGS.out;omega) h2.gb
 have OA:=Lib.hid (row_keep OO.out HGS.out h2.gb)
 have c0:=(row_facts xa 0 (.string ⟨#[]⟩) rfl)
 obtain ⟨c0a,c0b⟩:=c0
 have X1:Hid (OwnV 60 11 (U1.setCell ⟨w.heap.size+1,0,none⟩ (.string (bsOf nm))) w.heap.size (some ⟨w.heap.size+1,0,none⟩) 1 1 [.string (bsOf nm),.int .i64 0,.int .i64 0,.bool false,.bool false,.slice none 0 0,.int .i64 0,.int .i64 0,.int .i64 0,.int .i64 0,.int .i64 0]):=Lib.hid (OwnV.set xa 0 (.string (bsOf nm)) (by show 0 < 11;omega))
 have H1:Hid (Rpo B g s1 w (U1.setCell ⟨w.heap.size+1,0,none⟩ (.string (bsOf nm)))):=Lib.hid (Rpo.own HA.out (Nat.le_succ _) HGS.out 0 (.string (bsOf nm)))
 have O1:Hid (OwnV 60 11 (U1.setCell ⟨w.heap.size+1,0,none⟩ (.string (bsOf nm))) w.heap.size (some ⟨w.heap.size,0,none⟩) 1 1 [.string ⟨#[]⟩,.int .i64 0,.int .i64 0,.bool false,.bool false,.slice none 0 0,.int .i64 0,.int .i64 0,.int .i64 0,.int .i64 0,.int .i64 0]):=Lib.hid (row_far OA.out (Nat.ne_of_lt (Nat.lt_succ_self _)) 0 (.string (bsOf nm)))
 clear hg h2 xa HC HH XX OO HA OA
 go_upto_region 4 with fail
 clear c0a c0b
 generalize (U1.setCell ⟨w.heap.size+1,0,none⟩ (.string (bsOf nm)))=Y1 at X1 H1 O1 ⊢
 have HM:=Lib.hid (tmust_any H1.out.rd 32 32 rfl)
 go_wp2_with fail
 refine HM.out.mono ?_
 rintro e V2 ⟨rfl,hm⟩
 have HH:=Lib.hid (H1.out.trans hm)
 have XX:=Lib.hid (row_keep X1.out (by have:=HGS.out;omega) hm.gb)
 have OO:=Lib.hid (row_keep O1.out HGS.out hm.gb)
 have LL:Hid (((s1.bind (takeB 32)).getD []).length≤1048576):=Lib.hid (Nat.le_trans (take_le s1 32) HL1.out)
 have HC:=Lib.hid (tnumber_any HH.out.rd lim40 (Nat.le_refl _))
 clear hm HM H1 X1 O1
 go_wp2_with fail
 refine HC.out.mono ?_
 rintro e U2 ⟨bv,s2,rfl,q1,q2,hg,h2⟩
 have G2:=Lib.hid hg
 have HL2:Hid ((s2.getD []).length≤1048576):=Lib.hid (Nat.le_trans (got_le (fun _ _ h=>numZ_le h) hg) LL.out)
 have Rbv:Hid (In64 bv):=Lib.hid ⟨by omega,by omega⟩
 clear q1 q2
 have HA:=Lib.hid (HH.out.trans h2)
 have xa:=row_keep XX.out (by have:=HGS.out;omega) h2.gb
 have OA:=Lib.hid (row_keep OO.out HGS.out h2.gb)
 have c1:=(row_facts xa 1 (.int .i64 0) rfl)
 obtain ⟨c1a,c1b⟩:=c1
 have X2:Hid (OwnV 60 11 (U2.setCell ⟨w.heap.size+1,1,none⟩ (.int .i64 bv)) w.heap.size (some ⟨w.heap.size+1,0,none⟩) 1 1 [.string (bsOf nm),.int .i64 bv,.int .i64 0,.bool false,.bool false,.slice none 0 0,.int .i64 0,.int .i64 0,.int .i64 0,.int .i64 0,.int .i64 0]):=Lib.hid (OwnV.set xa 1 (.int .i64 bv) (by show 1 < 11;omega))
 have H2:Hid (Rpo B g s2 w (U2.setCell ⟨w.heap.size+1,1,none⟩ (.int .i64 bv))):=Lib.hid (Rpo.own HA.out (Nat.le_succ _) HGS.out 1 (.int .i64 bv))
 have O2:Hid (OwnV 60 11 (U2.setCell ⟨w.heap.size+1,1,none⟩ (.int .i64 bv)) w.heap.size (some ⟨w.heap.size,0,none⟩) 1 1 [.string ⟨#[]⟩,.int .i64 0,.int .i64 0,.bool false,.bool false,.slice none 0 0,.int .i64 0,.int .i64 0,.int .i64 0,.int .i64 0,.int .i64 0]):=Lib.hid (row_far OA.out (Nat.ne_of_lt (Nat.lt_succ_self _)) 1 (.int .i64 bv))
 clear hg h2 xa HC HH XX OO HA OA
 go_upto_region 6 with fail
 clear c1a c1b
 generalize (U2.setCell ⟨w.heap.size+1,1,none⟩ (.int .i64 bv))=Y2 at X2 H2 O2 ⊢
 have HM:=Lib.hid (tmust_any H2.out.rd 32 32 rfl)
 go_wp2_with fail
 refine HM.out.mono ?_
 rintro e V3 ⟨rfl,hm⟩
 have HH:=Lib.hid (H2.out.trans hm)
 have XX:=Lib.hid (row_keep X2.out (by have:=HGS.out;omega) hm.gb)
 have OO:=Lib.hid (row_keep O2.out HGS.out hm.gb)
 have LL:Hid (((s2.bind (takeB 32)).getD []).length≤1048576):=Lib.hid (Nat.le_trans (take_le s2 32) HL2.out)
 have HC:=Lib.hid (tnumber_any HH.out.rd lim40 (Nat.le_refl _))
 clear hm HM H2 X2 O2
 go_wp2_with fail
 refine HC.out.mono ?_
 rintro e U3 ⟨pv,s3,rfl,q1,q2,hg,h2⟩
 have G3:=Lib.hid hg
 have HL3:Hid ((s3.getD []).length≤1048576):=Lib.hid (Nat.le_trans (got_le (fun _ _ h=>numZ_le h) hg) LL.out)
 have Rpv:Hid (In64 pv):=Lib.hid ⟨by omega,by omega⟩
 clear q1 q2
 have HA:=Lib.hid (HH.out.trans h2)
 have xa:=row_keep XX.out (by have:=HGS.out;omega) h2.gb
 have OA:=Lib.hid (row_keep OO.out HGS.out h2.gb)
 have c2:=(row_facts xa 2 (.int .i64 0) rfl)
 obtain ⟨c2a,c2b⟩:=c2
 have X3:Hid (OwnV 60 11 (U3.setCell ⟨w.heap.size+1,2,none⟩ (.int .i64 pv)) w.heap.size (some ⟨w.heap.size+1,0,none⟩) 1 1 [.string (bsOf nm),.int .i64 bv,.int .i64 pv,.bool false,.bool false,.slice none 0 0,.int .i64 0,.int .i64 0,.int .i64 0,.int .i64 0,.int .i64 0]):=Lib.hid (OwnV.set xa 2 (.int .i64 pv) (by show 2 < 11;omega))
 have H3:Hid (Rpo B g s3 w (U3.setCell ⟨w.heap.size+1,2,none⟩ (.int .i64 pv))):=Lib.hid (Rpo.own HA.out (Nat.le_succ _) HGS.out 2 (.int .i64 pv))
 have O3:Hid (OwnV 60 11 (U3.setCell ⟨w.heap.size+1,2,none⟩ (.int .i64 pv)) w.heap.size (some ⟨w.heap.size,0,none⟩) 1 1 [.string ⟨#[]⟩,.int .i64 0,.int .i64 0,.bool false,.bool false,.slice none 0 0,.int .i64 0,.int .i64 0,.int .i64 0,.int .i64 0,.int .i64 0]):=Lib.hid (row_far OA.out (Nat.ne_of_lt (Nat.lt_succ_self _)) 2 (.int .i64 pv))
 clear hg h2 xa HC HH XX OO HA OA
 go_upto_region 8 with fail
 clear c2a c2b
 generalize (U3.setCell ⟨w.heap.size+1,2,none⟩ (.int .i64 pv))=Y3 at X3 H3 O3 ⊢
 have HM:=Lib.hid (tmust_any H3.out.rd 32 32 rfl)
 go_wp2_with fail
 refine HM.out.mono ?_
 rintro e V4 ⟨rfl,hm⟩
 have HH:=Lib.hid (H3.out.trans hm)
 have XX:=Lib.hid (row_keep X3.out (by have:=HGS.out;omega) hm.gb)
 have OO:=Lib.hid (row_keep O3.out HGS.out hm.gb)
 have LL:Hid (((s3.bind (takeB 32)).getD []).length≤1048576):=Lib.hid (Nat.le_trans (take_le s3 32) HL3.out)
 have HC:=Lib.hid (tflags_any HH.out.rd)
 clear hm HM H3 X3 O3
 go_wp2_with fail
 refine HC.out.mono ?_
 rintro e U4 ⟨⟨f1,f2⟩,s4,rfl,hg,h2⟩
 have G4:=Lib.hid hg
 have HL4:Hid ((s4.getD []).length≤1048576):=Lib.hid (Nat.le_trans (got_le (fun _ _ h=>flagS_le h) hg) LL.out)
 have HA:=Lib.hid (HH.out.trans h2)
 have xa:=row_keep XX.out (by have:=HGS.out;omega) h2.gb
 have OA:=Lib.hid (row_keep OO.out HGS.out h2.gb)
 have c3:=(row_facts xa 3 (.bool false) rfl)
 obtain ⟨c3a,c3b⟩:=c3
 have c4:=(row_facts xa 4 (.bool false) rfl)
 obtain ⟨c4a,c4b⟩:=c4
 have X4:Hid (OwnV 60 11 ((U4.setCell ⟨w.heap.size+1,3,none⟩ (.bool f1)).setCell ⟨w.heap.size+1,4,none⟩ (.bool f2)) w.heap.size (some ⟨w.heap.size+1,0,none⟩) 1 1 [.string (bsOf nm),.int .i64 bv,.int .i64 pv,.bool f1,.bool f2,.slice none 0 0,.int .i64 0,.int .i64 0,.int .i64 0,.int .i64 0,.int .i64 0]):=Lib.hid (OwnV.set (OwnV.set xa 3 (.bool f1) (by show 3 < 11;omega)) 4 (.bool f2) (by show 4 < 11;omega))
 have H4:Hid (Rpo B g s4 w ((U4.setCell ⟨w.heap.size+1,3,none⟩ (.bool f1)).setCell ⟨w.heap.size+1,4,none⟩ (.bool f2))):=Lib.hid (Rpo.own (Rpo.own HA.out (Nat.le_succ _) HGS.out 3 (.bool f1)) (Nat.le_succ _) HGS.out 4 (.bool f2))
 have O4:Hid (OwnV 60 11 ((U4.setCell ⟨w.heap.size+1,3,none⟩ (.bool f1)).setCell ⟨w.heap.size+1,4,none⟩ (.bool f2)) w.heap.size (some ⟨w.heap.size,0,none⟩) 1 1 [.string ⟨#[]⟩,.int .i64 0,.int .i64 0,.bool false,.bool false,.slice none 0 0,.int .i64 0,.int .i64 0,.int .i64 0,.int .i64 0,.int .i64 0]):=Lib.hid (row_far (row_far OA.out (Nat.ne_of_lt (Nat.lt_succ_self _)) 3 (.bool f1)) (Nat.ne_of_lt (Nat.lt_succ_self _)) 4 (.bool f2))
 clear hg h2 xa HC HH XX OO HA OA
 go_upto_region 10 with fail
 clear c3a c3b c4a c4b
 generalize ((U4.setCell ⟨w.heap.size+1,3,none⟩ (.bool f1)).setCell ⟨w.heap.size+1,4,none⟩ (.bool f2))=Y4 at X4 H4 O4 ⊢
 have HM:=Lib.hid (tmust_any H4.out.rd 32 32 rfl)
 go_wp2_with fail
 refine HM.out.mono ?_
 rintro e V5 ⟨rfl,hm⟩
 have HH:=Lib.hid (H4.out.trans hm)
 have XX:=Lib.hid (row_keep X4.out (by have:=HGS.out;omega) hm.gb)
 have OO:=Lib.hid (row_keep O4.out HGS.out hm.gb)
 have LL:Hid (((s4.bind (takeB 32)).getD []).length≤1048576):=Lib.hid (Nat.le_trans (take_le s4 32) HL4.out)
 have HC:=Lib.hid (thealth_any HH.out.rd)
 clear hm HM H4 X4 O4
 go_wp2_with fail
 refine HC.out.mono ?_
 rintro e U5 ⟨a0,a1,a2,a3,a4,s5,rfl,hg,h2⟩
 have G5:=Lib.hid hg
 have HL5:Hid ((s5.getD []).length≤1048576):=Lib.hid (Nat.le_trans (got_le (fun _ _ h=>healS_le 5 _ _ h) hg) LL.out)
 have HA:=Lib.hid (HH.out.trans h2)
 have xa:=row_keep XX.out (by have:=HGS.out;omega) h2.gb
 have OA:=Lib.hid (row_keep OO.out HGS.out h2.gb)
 have c6:=(row_facts xa 6 (.int .i64 0) rfl)
 obtain ⟨c6a,c6b⟩:=c6
 have c7:=(row_facts xa 7 (.int .i64 0) rfl)
 obtain ⟨c7a,c7b⟩:=c7
 have c8:=(row_facts xa 8 (.int .i64 0) rfl)
 obtain ⟨c8a,c8b⟩:=c8
 have c9:=(row_facts xa 9 (.int .i64 0) rfl)
 obtain ⟨c9a,c9b⟩:=c9
 have c10:=(row_facts xa 10 (.int .i64 0) rfl)
 obtain ⟨c10a,c10b⟩:=c10
 have X5:Hid (OwnV 60 11 (((((U5.setCell ⟨w.heap.size+1,6,none⟩ (.int .i64 a0)).setCell ⟨w.heap.size+1,7,none⟩ (.int .i64 a1)).setCell ⟨w.heap.size+1,8,none⟩ (.int .i64 a2)).setCell ⟨w.heap.size+1,9,none⟩ (.int .i64 a3)).setCell ⟨w.heap.size+1,10,none⟩ (.int .i64 a4)) w.heap.size (some ⟨w.heap.size+1,0,none⟩) 1 1 [.string (bsOf nm),.int .i64 bv,.int .i64 pv,.bool f1,.bool f2,.slice none 0 0,.int .i64 a0,.int .i64 a1,.int .i64 a2,.int .i64 a3,.int .i64 a4]):=Lib.hid (OwnV.set (OwnV.set (OwnV.set (OwnV.set (OwnV.set xa 6 (.int .i64 a0) (by show 6 < 11;omega)) 7 (.int .i64 a1) (by show 7 < 11;omega)) 8 (.int .i64 a2) (by show 8 < 11;omega)) 9 (.int .i64 a3) (by show 9 < 11;omega)) 10 (.int .i64 a4) (by show 10 < 11;omega))
 have H5:Hid (Rpo B g s5 w (((((U5.setCell ⟨w.heap.size+1,6,none⟩ (.int .i64 a0)).setCell ⟨w.heap.size+1,7,none⟩ (.int .i64 a1)).setCell ⟨w.heap.size+1,8,none⟩ (.int .i64 a2)).setCell ⟨w.heap.size+1,9,none⟩ (.int .i64 a3)).setCell ⟨w.heap.size+1,10,none⟩ (.int .i64 a4))):=Lib.hid (Rpo.own (Rpo.own (Rpo.own (Rpo.own (Rpo.own HA.out (Nat.le_succ _) HGS.out 6 (.int .i64 a0)) (Nat.le_succ _) HGS.out 7 (.int .i64 a1)) (Nat.le_succ _) HGS.out 8 (.int .i64 a2)) (Nat.le_succ _) HGS.out 9 (.int .i64 a3)) (Nat.le_succ _) HGS.out 10 (.int .i64 a4))
 have O5:Hid (OwnV 60 11 (((((U5.setCell ⟨w.heap.size+1,6,none⟩ (.int .i64 a0)).setCell ⟨w.heap.size+1,7,none⟩ (.int .i64 a1)).setCell ⟨w.heap.size+1,8,none⟩ (.int .i64 a2)).setCell ⟨w.heap.size+1,9,none⟩ (.int .i64 a3)).setCell ⟨w.heap.size+1,10,none⟩ (.int .i64 a4)) w.heap.size (some ⟨w.heap.size,0,none⟩) 1 1 [.string ⟨#[]⟩,.int .i64 0,.int .i64 0,.bool false,.bool false,.slice none 0 0,.int .i64 0,.int .i64 0,.int .i64 0,.int .i64 0,.int .i64 0]):=Lib.hid (row_far (row_far (row_far (row_far (row_far OA.out (Nat.ne_of_lt (Nat.lt_succ_self _)) 6 (.int .i64 a0)) (Nat.ne_of_lt (Nat.lt_succ_self _)) 7 (.int .i64 a1)) (Nat.ne_of_lt (Nat.lt_succ_self _)) 8 (.int .i64 a2)) (Nat.ne_of_lt (Nat.lt_succ_self _)) 9 (.int .i64 a3)) (Nat.ne_of_lt (Nat.lt_succ_self _)) 10 (.int .i64 a4))
 clear hg h2 xa HC HH XX OO HA OA
 go_upto_region 12 with fail
 clear c6a c6b c7a c7b c8a c8b c9a c9b c10a c10b
 generalize (((((U5.setCell ⟨w.heap.size+1,6,none⟩ (.int .i64 a0)).setCell ⟨w.heap.size+1,7,none⟩ (.int .i64 a1)).setCell ⟨w.heap.size+1,8,none⟩ (.int .i64 a2)).setCell ⟨w.heap.size+1,9,none⟩ (.int .i64 a3)).setCell ⟨w.heap.size+1,10,none⟩ (.int .i64 a4))=Y5 at X5 H5 O5 ⊢
 have HM:=Lib.hid (tmust_any H5.out.rd 32 32 rfl)
 go_wp2_with fail
 refine HM.out.mono ?_
 rintro e V6 ⟨rfl,hm⟩
 have HH:=Lib.hid (H5.out.trans hm)
 have XX:=Lib.hid (row_keep X5.out (by have:=HGS.out;omega) hm.gb)
 have OO:=Lib.hid (row_keep O5.out HGS.out hm.gb)
 have LL:Hid (((s5.bind (takeB 32)).getD []).length≤1048576):=Lib.hid (Nat.le_trans (take_le s5 32) HL5.out)
 have HC:=Lib.hid (tprocs_any HH.out.rd LL.out)
 clear hm HM H5 X5 O5
 go_wp2_with fail
 refine HC.out.mono ?_
 rintro e U6 ⟨Lp,s6,Ap,np,cp,rfl,hpl,hpn,hpo,hg,h2⟩
 have G6:=Lib.hid hg
 have HPL:=Lib.hid hpl
 have HPB:=Lib.hid hpn
 have HPO:=Lib.hid (OwnV.weak hpo HH.out.gb.size)
 clear hpl hpn hpo
 have HA:=Lib.hid (HH.out.trans h2)
 have xa:=row_keep XX.out (by have:=HGS.out;omega) h2.gb
 have OA:=Lib.hid (row_keep OO.out HGS.out h2.gb)
 have c5:=(row_facts xa 5 (.slice none 0 0) rfl)
 obtain ⟨c5a,c5b⟩:=c5
 have X6:Hid (OwnV 60 11 (U6.setCell ⟨w.heap.size+1,5,none⟩ (.slice Ap np cp)) w.heap.size (some ⟨w.heap.size+1,0,none⟩) 1 1 [.string (bsOf nm),.int .i64 bv,.int .i64 pv,.bool f1,.bool f2,.slice Ap np cp,.int .i64 a0,.int .i64 a1,.int .i64 a2,.int .i64 a3,.int .i64 a4]):=Lib.hid (OwnV.set xa 5 (.slice Ap np cp) (by show 5 < 11;omega))
 have H6:Hid (Rpo B g s6 w (U6.setCell ⟨w.heap.size+1,5,none⟩ (.slice Ap np cp))):=Lib.hid (Rpo.own HA.out (Nat.le_succ _) HGS.out 5 (.slice Ap np cp))
 have O6:Hid (OwnV 60 11 (U6.setCell ⟨w.heap.size+1,5,none⟩ (.slice Ap np cp)) w.heap.size (some ⟨w.heap.size,0,none⟩) 1 1 [.string ⟨#[]⟩,.int .i64 0,.int .i64 0,.bool false,.bool false,.slice none 0 0,.int .i64 0,.int .i64 0,.int .i64 0,.int .i64 0,.int .i64 0]):=Lib.hid (row_far OA.out (Nat.ne_of_lt (Nat.lt_succ_self _)) 5 (.slice Ap np cp))
 have HPQ:Hid (OwnV 62 2 (U6.setCell ⟨w.heap.size+1,5,none⟩ (.slice Ap np cp)) w.heap.size Ap np cp (Lp.flatMap prc)):=Lib.hid (OwnV.other HPO.out _ _ (OwnV.apart' HPO.out xa (by decide)))
 clear HPO
 clear hg h2 xa HC HH XX OO HA OA
 go_upto_region 14 with fail
 clear c5a c5b
 generalize (U6.setCell ⟨w.heap.size+1,5,none⟩ (.slice Ap np cp))=Y6 at X6 H6 O6 HPQ ⊢
 refine wp_region_lit (wpList_loadX rfl (.tmp 3) rfl rfl (ag_part _) (sz_part _) X6.out (wpList_storeX (l:=[.string (bsOf nm),.int .i64 bv,.int .i64 pv,.bool f1,.bool f2,.slice Ap np cp,.int .i64 a0,.int .i64 a1,.int .i64 a2,.int .i64 a3,.int .i64 a4]) rfl (.tmp 2) (.tmp 38) rfl rfl rfl (sz_part _) O6.out rfl ?_ fun w5 ho5 hg5=>?_))
 ·intro v hv
  simp only [List.mem_cons,List.not_mem_nil,or_false] at hv
  rcases hv with rfl | rfl | rfl | rfl | rfl | rfl | rfl | rfl | rfl | rfl | rfl <;> rfl
 have HR5:=Lib.hid (Rpo.new H6.out HGS.out (Nat.le_refl _) hg5)
 have HO5:=Lib.hid ho5
 have HPR:=Lib.hid (OwnV.gbo HPQ.out hg5 (by intro e;exact OwnV.apart HPQ.out O6.out (by decide) _ e rfl))
 clear ho5 hg5 X6 O6 H6
 go_wp2_with fail
 refine bodyPost_ret (results_own1 rfl (ag_part _) (sz_part _) rfl HO5.out) rfl ?_
 exact ⟨nm,bv,pv,f1,f2,a0,a1,a2,a3,a4,Lp,s6,Ap,np,cp,rfl,HNL.out,Rbv.out,Rpv.out,HPL.out,HPB.out,HPR.out,part_chain G1.out G2.out G3.out G4.out G5.out G6.out,HR5.out⟩
set_option maxHeartbeats 8000000 in
theorem tchan_any {B g:Nat} {st:Option (List UInt8)} {w:World} (h:RdrS B g st w) (hl:(st.getD []).length≤1048576) (A:Option Addr) (n c:Nat) (P:List Pq) (hP:∀ W,w.grownBy W (some g)→RdB pcq W W.heap.size A n P) (hn:n≤1048576) :
  Calls Tryz.prog 74 #[.pointer (some ⟨g,0,none⟩),.slice A n c] w (ChanX B g (st.bind (chanS (namesP P))) w):=by
 have b1:=bl1 w (.cells #[.int .i64 0,.int .i64 0,.bool false,.int .i64 0,.int .u32 0,.int .i64 0] 66)
 have o1:=ownV_lit w 66 6 w.heap.size #[.int .i64 0,.int .i64 0,.bool false,.int .i64 0,.int .u32 0,.int .i64 0] 1 rfl (Nat.le_refl _) (by unfold maxLen;omega)
 have b2:=bl1 (w.alloc (.cells #[.int .i64 0,.int .i64 0,.bool false,.int .i64 0,.int .u32 0,.int .i64 0] 66)) (.cells #[.int .i64 0,.int .i64 0,.bool false,.int .i64 0,.int .u32 0,.int .i64 0] 66)
 have o2:=ownV_lit (w.alloc (.cells #[.int .i64 0,.int .i64 0,.bool false,.int .i64 0,.int .u32 0,.int .i64 0] 66)) 66 6 w.heap.size #[.int .i64 0,.int .i64 0,.bool false,.int .i64 0,.int .u32 0,.int .i64 0] 1 rfl b1.size (by unfold maxLen;omega)
 have o1b:=OwnV.below o1 rfl b2
 have hr2:RdrS B g st ((w.alloc (.cells #[.int .i64 0,.int .i64 0,.bool false,.int .i64 0,.int .u32 0,.int .i64 0] 66)).alloc (.cells #[.int .i64 0,.int .i64 0,.bool false,.int .i64 0,.int .u32 0,.int .i64 0] 66)):=OwnV.below (OwnV.below h rfl b1) rfl b2
 have H0:Hid (Rpo B g st w ((w.alloc (.cells #[.int .i64 0,.int .i64 0,.bool false,.int .i64 0,.int .u32 0,.int .i64 0] 66)).alloc (.cells #[.int .i64 0,.int .i64 0,.bool false,.int .i64 0,.int .u32 0,.int .i64 0] 66))):=Lib.hid ⟨hr2,ogb_bel (b1.trans (b2.mono b1.size))⟩
 have O0:=Lib.hid o1b
 have HGS:Hid (g < w.heap.size):=Lib.hid h.cells.2.2.2.2.2
 have hz:(w.alloc (.cells #[.int .i64 0,.int .i64 0,.bool false,.int .i64 0,.int .u32 0,.int .i64 0] 66)).heap.size=w.heap.size+1:=by simp
 rw [hz] at o2
 have X0:=Lib.hid o2
 have HL0:Hid ((st.getD []).length≤1048576):=Lib.hid hl
 have HP:=Lib.hid hP
 have HPN:=Lib.hid hn
 clear h b1 o1 b2 o2 o1b hr2 hz hl hP hn
 go_enter Tryz.func74,Tryz.ntmps74
 go_upto_region 2 with fail
 generalize (w.alloc (.cells #[.int .i64 0,.int .i64 0,.bool false,.int .i64 0,.int .u32 0,.int .i64 0] 66)).alloc (.cells #[.int .i64 0,.int .i64 0,.bool false,.int .i64 0,.int .u32 0,.int .i64 0] 66)=W0 at H0 O0 X0 ⊢
 have HM:=Lib.hid (tmust_any H0.out.rd 32 32 rfl)
 go_wp2_with fail
 refine HM.out.mono ?_
 rintro e V1 ⟨rfl,hm⟩
 have HH:=Lib.hid (H0.out.trans hm)
 have XX:=Lib.hid (row_keep X0.out (by have:=HGS.out;omega) hm.gb)
 have OO:=Lib.hid (row_keep O0.out HGS.out hm.gb)
 have LL:Hid (((st.bind (takeB 32)).getD []).length≤1048576):=Lib.hid (Nat.le_trans (take_le st 32) HL0.out)
 have HC:=Lib.hid (tknown_any HH.out.rd LL.out 32 32 rfl A n c P (fun W2 hg2=>HP.out W2 (ogb_trans HH.out.gb hg2)) HPN.out)
 clear hm HM H0 X0 O0
 go_wp2_with fail
 refine HC.out.mono ?_
 rintro e U1 ⟨av,s1,rfl,q1,hg,h2⟩
 have G1:=Lib.hid hg
 have HL1:Hid ((s1.getD []).length≤1048576):=Lib.hid (Nat.le_trans (got_le (fun _ _ h=>knownS_le h) hg) LL.out)
 have Rav:=Lib.hid q1
 clear q1
 have HA:=Lib.hid (HH.out.trans h2)
 have xa:=row_keep XX.out (by have:=HGS.out;omega) h2.gb
 have OA:=Lib.hid (row_keep OO.out HGS.out h2.gb)
 have c0:=(row_facts xa 0 (.int .i64 0) rfl)
 obtain ⟨c0a,c0b⟩:=c0
 have X1:Hid (OwnV 66 6 (U1.setCell ⟨w.heap.size+1,0,none⟩ (.int .i64 av)) w.heap.size (some ⟨w.heap.size+1,0,none⟩) 1 1 [.int .i64 av,.int .i64 0,.bool false,.int .i64 0,.int .u32 0,.int .i64 0]):=Lib.hid (OwnV.set xa 0 (.int .i64 av) (by show 0 < 6;omega))
 have H1:Hid (Rpo B g s1 w (U1.setCell ⟨w.heap.size+1,0,none⟩ (.int .i64 av))):=Lib.hid (Rpo.own HA.out (Nat.le_succ _) HGS.out 0 (.int .i64 av))
 have O1:Hid (OwnV 66 6 (U1.setCell ⟨w.heap.size+1,0,none⟩ (.int .i64 av)) w.heap.size (some ⟨w.heap.size,0,none⟩) 1 1 [.int .i64 0,.int .i64 0,.bool false,.int .i64 0,.int .u32 0,.int .i64 0]):=Lib.hid (row_far OA.out (Nat.ne_of_lt (Nat.lt_succ_self _)) 0 (.int .i64 av))
 clear hg h2 xa HC HH XX OO HA OA
 go_upto_region 4 with fail
 clear c0a c0b
 generalize (U1.setCell ⟨w.heap.size+1,0,none⟩ (.int .i64 av))=Y1 at X1 H1 O1 ⊢
 have HM:=Lib.hid (tmust_any H1.out.rd 32 32 rfl)
 go_wp2_with fail
 refine HM.out.mono ?_
 rintro e V2 ⟨rfl,hm⟩
 have HH:=Lib.hid (H1.out.trans hm)
 have XX:=Lib.hid (row_keep X1.out (by have:=HGS.out;omega) hm.gb)
 have OO:=Lib.hid (row_keep O1.out HGS.out hm.gb)
 have LL:Hid (((s1.bind (takeB 32)).getD []).length≤1048576):=Lib.hid (Nat.le_trans (take_le s1 32) HL1.out)
 have HC:=Lib.hid (tknown_any HH.out.rd LL.out 32 32 rfl A n c P (fun W2 hg2=>HP.out W2 (ogb_trans HH.out.gb hg2)) HPN.out)
 clear hm HM H1 X1 O1
 go_wp2_with fail
 refine HC.out.mono ?_
 rintro e U2 ⟨bv,s2,rfl,q1,hg,h2⟩
 have G2:=Lib.hid hg
 have HL2:Hid ((s2.getD []).length≤1048576):=Lib.hid (Nat.le_trans (got_le (fun _ _ h=>knownS_le h) hg) LL.out)
 have Rbv:=Lib.hid q1
 clear q1
 have HA:=Lib.hid (HH.out.trans h2)
 have xa:=row_keep XX.out (by have:=HGS.out;omega) h2.gb
 have OA:=Lib.hid (row_keep OO.out HGS.out h2.gb)
 have c1:=(row_facts xa 1 (.int .i64 0) rfl)
 obtain ⟨c1a,c1b⟩:=c1
 have X2:Hid (OwnV 66 6 (U2.setCell ⟨w.heap.size+1,1,none⟩ (.int .i64 bv)) w.heap.size (some ⟨w.heap.size+1,0,none⟩) 1 1 [.int .i64 av,.int .i64 bv,.bool false,.int .i64 0,.int .u32 0,.int .i64 0]):=Lib.hid (OwnV.set xa 1 (.int .i64 bv) (by show 1 < 6;omega))
 have H2:Hid (Rpo B g s2 w (U2.setCell ⟨w.heap.size+1,1,none⟩ (.int .i64 bv))):=Lib.hid (Rpo.own HA.out (Nat.le_succ _) HGS.out 1 (.int .i64 bv))
 have O2:Hid (OwnV 66 6 (U2.setCell ⟨w.heap.size+1,1,none⟩ (.int .i64 bv)) w.heap.size (some ⟨w.heap.size,0,none⟩) 1 1 [.int .i64 0,.int .i64 0,.bool false,.int .i64 0,.int .u32 0,.int .i64 0]):=Lib.hid (row_far OA.out (Nat.ne_of_lt (Nat.lt_succ_self _)) 1 (.int .i64 bv))
 clear hg h2 xa HC HH XX OO HA OA
 go_upto_region 6 with fail
 clear c1a c1b
 generalize (U2.setCell ⟨w.heap.size+1,1,none⟩ (.int .i64 bv))=Y2 at X2 H2 O2 ⊢
 have HM:=Lib.hid (tmust_any H2.out.rd 32 32 rfl)
 go_wp2_with fail
 refine HM.out.mono ?_
 rintro e V3 ⟨rfl,hm⟩
 have HH:=Lib.hid (H2.out.trans hm)
 have XX:=Lib.hid (row_keep X2.out (by have:=HGS.out;omega) hm.gb)
 have OO:=Lib.hid (row_keep O2.out HGS.out hm.gb)
 have LL:Hid (((s2.bind (takeB 32)).getD []).length≤1048576):=Lib.hid (Nat.le_trans (take_le s2 32) HL2.out)
 have HC:=Lib.hid (tkind_any HH.out.rd)
 clear hm HM H2 X2 O2
 go_wp2_with fail
 refine HC.out.mono ?_
 rintro e U3 ⟨⟨kq,kc⟩,s3,rfl,q1,hg,h2⟩
 have G3:=Lib.hid hg
 have HL3:Hid ((s3.getD []).length≤1048576):=Lib.hid (Nat.le_trans (got_le (fun _ _ h=>kindS_le h) hg) LL.out)
 have Rkc:=Lib.hid q1
 clear q1
 have HA:=Lib.hid (HH.out.trans h2)
 have xa:=row_keep XX.out (by have:=HGS.out;omega) h2.gb
 have OA:=Lib.hid (row_keep OO.out HGS.out h2.gb)
 have c2:=(row_facts xa 2 (.bool false) rfl)
 obtain ⟨c2a,c2b⟩:=c2
 have c3:=(row_facts xa 3 (.int .i64 0) rfl)
 obtain ⟨c3a,c3b⟩:=c3
 have X3:Hid (OwnV 66 6 ((U3.setCell ⟨w.heap.size+1,2,none⟩ (.bool kq)).setCell ⟨w.heap.size+1,3,none⟩ (.int .i64 kc)) w.heap.size (some ⟨w.heap.size+1,0,none⟩) 1 1 [.int .i64 av,.int .i64 bv,.bool kq,.int .i64 kc,.int .u32 0,.int .i64 0]):=Lib.hid (OwnV.set (OwnV.set xa 2 (.bool kq) (by show 2 < 6;omega)) 3 (.int .i64 kc) (by show 3 < 6;omega))
 have H3:Hid (Rpo B g s3 w ((U3.setCell ⟨w.heap.size+1,2,none⟩ (.bool kq)).setCell ⟨w.heap.size+1,3,none⟩ (.int .i64 kc))):=Lib.hid (Rpo.own (Rpo.own HA.out (Nat.le_succ _) HGS.out 2 (.bool kq)) (Nat.le_succ _) HGS.out 3 (.int .i64 kc))
 have O3:Hid (OwnV 66 6 ((U3.setCell ⟨w.heap.size+1,2,none⟩ (.bool kq)).setCell ⟨w.heap.size+1,3,none⟩ (.int .i64 kc)) w.heap.size (some ⟨w.heap.size,0,none⟩) 1 1 [.int .i64 0,.int .i64 0,.bool false,.int .i64 0,.int .u32 0,.int .i64 0]):=Lib.hid (row_far (row_far OA.out (Nat.ne_of_lt (Nat.lt_succ_self _)) 2 (.bool kq)) (Nat.ne_of_lt (Nat.lt_succ_self _)) 3 (.int .i64 kc))
 clear hg h2 xa HC HH XX OO HA OA
 go_upto_region 8 with fail
 clear c2a c2b c3a c3b
 generalize ((U3.setCell ⟨w.heap.size+1,2,none⟩ (.bool kq)).setCell ⟨w.heap.size+1,3,none⟩ (.int .i64 kc))=Y3 at X3 H3 O3 ⊢
 have HM:=Lib.hid (tmust_any H3.out.rd 32 32 rfl)
 go_wp2_with fail
 refine HM.out.mono ?_
 rintro e V4 ⟨rfl,hm⟩
 have HH:=Lib.hid (H3.out.trans hm)
 have XX:=Lib.hid (row_keep X3.out (by have:=HGS.out;omega) hm.gb)
 have OO:=Lib.hid (row_keep O3.out HGS.out hm.gb)
 have LL:Hid (((s3.bind (takeB 32)).getD []).length≤1048576):=Lib.hid (Nat.le_trans (take_le s3 32) HL3.out)
 have HC:=Lib.hid (tnumber_any HH.out.rd lim32 (by decide))
 clear hm HM H3 X3 O3
 go_wp2_with fail
 refine HC.out.mono ?_
 rintro e U4 ⟨mv,s4,rfl,q1,q2,hg,h2⟩
 have G4:=Lib.hid hg
 have HL4:Hid ((s4.getD []).length≤1048576):=Lib.hid (Nat.le_trans (got_le (fun _ _ h=>numZ_le h) hg) LL.out)
 clear q1 q2
 have HA:=Lib.hid (HH.out.trans h2)
 have xa:=row_keep XX.out (by have:=HGS.out;omega) h2.gb
 have OA:=Lib.hid (row_keep OO.out HGS.out h2.gb)
 have c4:=(row_facts xa 4 (.int .u32 0) rfl)
 obtain ⟨c4a,c4b⟩:=c4
 have X4:Hid (OwnV 66 6 (U4.setCell ⟨w.heap.size+1,4,none⟩ (.int .u32 (mv % 4294967296))) w.heap.size (some ⟨w.heap.size+1,0,none⟩) 1 1 [.int .i64 av,.int .i64 bv,.bool kq,.int .i64 kc,.int .u32 (mv % 4294967296),.int .i64 0]):=Lib.hid (OwnV.set xa 4 (.int .u32 (mv % 4294967296)) (by show 4 < 6;omega))
 have H4:Hid (Rpo B g s4 w (U4.setCell ⟨w.heap.size+1,4,none⟩ (.int .u32 (mv % 4294967296)))):=Lib.hid (Rpo.own HA.out (Nat.le_succ _) HGS.out 4 (.int .u32 (mv % 4294967296)))
 have O4:Hid (OwnV 66 6 (U4.setCell ⟨w.heap.size+1,4,none⟩ (.int .u32 (mv % 4294967296))) w.heap.size (some ⟨w.heap.size,0,none⟩) 1 1 [.int .i64 0,.int .i64 0,.bool false,.int .i64 0,.int .u32 0,.int .i64 0]):=Lib.hid (row_far OA.out (Nat.ne_of_lt (Nat.lt_succ_self _)) 4 (.int .u32 (mv % 4294967296)))
 clear hg h2 xa HC HH XX OO HA OA
 go_upto_region 10 with fail
 clear c4a c4b
 generalize (U4.setCell ⟨w.heap.size+1,4,none⟩ (.int .u32 (mv % 4294967296)))=Y4 at X4 H4 O4 ⊢
 have HM:=Lib.hid (tmust_any H4.out.rd 32 32 rfl)
 go_wp2_with fail
 refine HM.out.mono ?_
 rintro e V5 ⟨rfl,hm⟩
 have HH:=Lib.hid (H4.out.trans hm)
 have XX:=Lib.hid (row_keep X4.out (by have:=HGS.out;omega) hm.gb)
 have OO:=Lib.hid (row_keep O4.out HGS.out hm.gb)
 have LL:Hid (((s4.bind (takeB 32)).getD []).length≤1048576):=Lib.hid (Nat.le_trans (take_le s4 32) HL4.out)
 have HC:=Lib.hid (tnumber_any HH.out.rd lim40 (Nat.le_refl _))
 clear hm HM H4 X4 O4
 go_wp2_with fail
 refine HC.out.mono ?_
 rintro e U5 ⟨lv,s5,rfl,q1,q2,hg,h2⟩
 have G5:=Lib.hid hg
 have HL5:Hid ((s5.getD []).length≤1048576):=Lib.hid (Nat.le_trans (got_le (fun _ _ h=>numZ_le h) hg) LL.out)
 have Rlv:Hid (In64 lv):=Lib.hid ⟨by omega,by omega⟩
 clear q1 q2
 have HA:=Lib.hid (HH.out.trans h2)
 have xa:=row_keep XX.out (by have:=HGS.out;omega) h2.gb
 have OA:=Lib.hid (row_keep OO.out HGS.out h2.gb)
 have c5:=(row_facts xa 5 (.int .i64 0) rfl)
 obtain ⟨c5a,c5b⟩:=c5
 have X5:Hid (OwnV 66 6 (U5.setCell ⟨w.heap.size+1,5,none⟩ (.int .i64 lv)) w.heap.size (some ⟨w.heap.size+1,0,none⟩) 1 1 [.int .i64 av,.int .i64 bv,.bool kq,.int .i64 kc,.int .u32 (mv % 4294967296),.int .i64 lv]):=Lib.hid (OwnV.set xa 5 (.int .i64 lv) (by show 5 < 6;omega))
 have H5:Hid (Rpo B g s5 w (U5.setCell ⟨w.heap.size+1,5,none⟩ (.int .i64 lv))):=Lib.hid (Rpo.own HA.out (Nat.le_succ _) HGS.out 5 (.int .i64 lv))
 have O5:Hid (OwnV 66 6 (U5.setCell ⟨w.heap.size+1,5,none⟩ (.int .i64 lv)) w.heap.size (some ⟨w.heap.size,0,none⟩) 1 1 [.int .i64 0,.int .i64 0,.bool false,.int .i64 0,.int .u32 0,.int .i64 0]):=Lib.hid (row_far OA.out (Nat.ne_of_lt (Nat.lt_succ_self _)) 5 (.int .i64 lv))
 clear hg h2 xa HC HH XX OO HA OA
 go_upto_region 12 with fail
 clear c5a c5b
 generalize (U5.setCell ⟨w.heap.size+1,5,none⟩ (.int .i64 lv))=Y5 at X5 H5 O5 ⊢
 refine wp_region_lit (wpList_loadX rfl (.tmp 5) rfl rfl (ag_chan _) (sz_chan _) X5.out (wpList_storeX (l:=[.int .i64 av,.int .i64 bv,.bool kq,.int .i64 kc,.int .u32 (mv % 4294967296),.int .i64 lv]) rfl (.tmp 4) (.tmp 38) rfl rfl rfl (sz_chan _) O5.out rfl ?_ fun w5 ho5 hg5=>?_))
 ·intro v hv
  simp only [List.mem_cons,List.not_mem_nil,or_false] at hv
  rcases hv with rfl | rfl | rfl | rfl | rfl | rfl <;> rfl
 have HR5:=Lib.hid (Rpo.new H5.out HGS.out (Nat.le_refl _) hg5)
 have HO5:=Lib.hid ho5
 clear ho5 hg5 X5 O5 H5
 go_wp2_with fail
 refine bodyPost_ret (results_own1 rfl (ag_chan _) (sz_chan _) rfl HO5.out) rfl ?_
 exact ⟨⟨av,bv,kq,kc,mv,lv⟩,s5,rfl,⟨Rav.out,Rbv.out,Rkc.out,Rlv.out⟩,chan_chain G1.out G2.out G3.out G4.out G5.out,HR5.out⟩
end Go.Proofs.YtfmndmhjjbeokaaGreatDoor
namespace Go.Proofs.YtfmndmhjjbeokaaGreatDoor
set_option maxRecDepth 100000
open Go.RowKit Tab Txt
set_option linter.unusedSimpArgs false
set_option linter.unusedVariables false
structure KpR (gt:Nat) (A:Option Addr) (w w':World):Prop where
 os:w'.os=w.os
 tape:w'.tape=w.tape
 output:w'.output=w.output
 size:w.heap.size≤w'.heap.size
 block:∀ k,k < w.heap.size→k≠gt→obk A≠some k→w'.heap[k]? = w.heap[k]?
section
variable {gt:Nat} {A:Option Addr} {w w' w'':World}
theorem KpR.refl (w:World):KpR gt A w w:=⟨rfl,rfl,rfl,Nat.le_refl _,fun _ _ _ _=>rfl⟩
theorem KpR.trans (h:KpR gt A w w') (k:KpR gt A w' w''):KpR gt A w w'':=⟨k.os.trans h.os,k.tape.trans h.tape,k.output.trans h.output,Nat.le_trans h.size k.size,fun i hi h1 h2=>(k.block i (Nat.lt_of_lt_of_le hi h.size) h1 h2).trans (h.block i hi h1 h2)⟩
theorem KpR.bel (h:Below w.heap.size w w'):KpR gt A w w':=⟨h.os,h.tape,h.output,h.size,fun i hi _ _=>h.block i hi⟩
theorem KpR.grew {A':Option Addr} (h:Grew A A' w w'):KpR gt A w w':=⟨h.gb.os,h.gb.tape,h.gb.output,h.gb.size,fun i hi _ h2=>h.gb.block i hi fun e=>h2 e.symm⟩
theorem KpR.set (k:Nat) (v:Value):KpR gt A w (w.setCell ⟨gt,k,none⟩ v):=by
 have h:Below gt w (w.setCell ⟨gt,k,none⟩ v):=(Below.refl _ _).setCell (p:=⟨gt,k,none⟩) (Nat.le_refl _) v
 exact ⟨h.os,h.tape,h.output,h.size,fun i hi h1 _=>Below.heap_setCell _ _ _ _ h1⟩
theorem KpR.own {E s B n c:Nat} {A1:Option Addr} {l:List Value} (h:KpR gt A w w') (ho:OwnV E s w B A1 n c l) (h1:obk A1≠some gt) (h2:∀ k,obk A1=some k→obk A≠some k):OwnV E s w' B A1 n c l :=
 OwnV.keep' ho fun k hk=>h.block k (OwnV.older ho hk) (fun e=>h1 (by rw [hk,e])) (h2 k hk)
end
structure ApG {α:Type} (vo:α→Value) (lo:α→List Value) (Φ:α→World→Prop) (W0:World) (E s TC nC BC gt:Nat) (L:List Value) (off BO:Nat) (AO:Option Addr) (n co:Nat) (l0:List Value) (kc kb ka ks tc tb ta:Nat) (live:Nat→Bool) (a:Act) (w:World):Prop where
 pre:live kc=false→w=W0
 res:live kc=true→∃ x,a.eval (.tmp tc)=vo x∧Φ x w∧W0.heap.size≤w.heap.size ∧
  (live kb=true→live ka=false→∃ gb,a.eval (.tmp tb)=.slice (some ⟨gb,0,none⟩) 1 1∧RdV w w.heap.size (some ⟨gb,0,none⟩) (lo x)) ∧
  (live ka=false→OwnV E s w BO AO n co l0)∧(live ks=false→OwnV TC nC w BC (some ⟨gt,0,none⟩) 1 1 L) ∧
  (live ka=true→live ks=false→∃ A' c',a.eval (.tmp ta)=.slice A' (n+1:Nat) c'∧OwnV E s w BO A' (n+1) c' (l0++lo x)∧(obk A'=obk AO∨∃ g',obk A'=some g'∧W0.heap.size≤g')) ∧
  (live ks=true→∃ A' c',OwnV E s w BO A' (n+1) c' (l0++lo x)∧(obk A'=obk AO∨∃ g',obk A'=some g'∧W0.heap.size≤g')∧OwnV TC nC w BC (some ⟨gt,0,none⟩) 1 1 (L.set off (.slice A' (n+1:Nat) c')))
section
variable {α:Type} {vo:α→Value} {lo:α→List Value} {Φ:α→World→Prop} {W0:World} {E s TC nC BC gt:Nat} {L:List Value} {off BO:Nat} {AO:Option Addr} {n co:Nat} {l0:List Value} {kc kb ka ks tc tb ta:Nat} {live:Nat→Bool} {a:Act} {w w':World}
theorem ApG.upd (h:ApG vo lo Φ W0 E s TC nC BC gt L off BO AO n co l0 kc kb ka ks tc tb ta live a w) (i:Nat) (d:Tmp) (v:Value) (hi:i≠kc∧i≠kb∧i≠ka∧i≠ks) (hd:d≠tc∧d≠tb∧d≠ta):ApG vo lo Φ W0 E s TC nC BC gt L off BO AO n co l0 kc kb ka ks tc tb ta (Rgs.upd live i) (a.put (some d) v) w:=by
 have e:∀ k,i≠k→Rgs.upd live i k=live k:=fun k hk=>by unfold Rgs.upd;simp [Ne.symm hk]
 have e1:=e kc hi.1
 have e2:=e kb hi.2.1
 have e3:=e ka hi.2.2.1
 have e4:=e ks hi.2.2.2
 refine ⟨by rw [e1];exact h.pre,fun hc=>?_⟩
 obtain ⟨x,hx⟩:=h.res (e1▸hc)
 refine ⟨x,?_⟩
 rw [e2,e3,e4,Reg.eval_other _ _ _ _ hd.1,Reg.eval_other _ _ _ _ hd.2.1,Reg.eval_other _ _ _ _ hd.2.2]
 exact hx
theorem ApG.cellC (h:ApG vo lo Φ W0 E s TC nC BC gt L off BO AO n co l0 kc kb ka ks tc tb ta live a w) (hs:live ks=false) (hC:OwnV TC nC W0 BC (some ⟨gt,0,none⟩) 1 1 L) (k:Nat) (v:Value) (hL:L[k]? = some v):w.cell? ⟨gt,k,none⟩=some v∧w.frozen? ⟨gt,k,none⟩=false:=by
 cases e:live kc with
 | false=>rw [h.pre e];exact row_facts hC k v hL
 | true =>
  obtain ⟨x,_,_,_,_,_,hc,_⟩:=h.res e
  exact row_facts (hc hs) k v hL
theorem ApG.phi (h:ApG vo lo Φ W0 E s TC nC BC gt L off BO AO n co l0 kc kb ka ks tc tb ta live a w) (Ψ:World→Prop) (h0:Ψ W0) (hp:∀ x w,Φ x w→Ψ w):Ψ w:=by
 cases e:live kc with
 | false=>rw [h.pre e];exact h0
 | true =>
  obtain ⟨x,_,hx,_⟩:=h.res e
  exact hp x w hx
theorem ApG.made (h:ApG vo lo Φ W0 E s TC nC BC gt L off BO AO n co l0 kc kb ka ks tc tb ta live a w) (hc:live kc=false) (hb:live kb=false) (ha:live ka=false) (hs:live ks=false) (hd:kc≠kb∧kc≠ka∧kc≠ks) (hz:tc < a.tmps.size) (x:α) (hx:Φ x w') (hsz:W0.heap.size≤w'.heap.size) (ho:OwnV E s w' BO AO n co l0) (hC:OwnV TC nC w' BC (some ⟨gt,0,none⟩) 1 1 L) :
  ApG vo lo Φ W0 E s TC nC BC gt L off BO AO n co l0 kc kb ka ks tc tb ta (Rgs.upd live kc) (a.put (some tc) (vo x)) w':=by
 have e:∀ k,kc≠k→Rgs.upd live kc k=live k:=fun k hk=>by unfold Rgs.upd;simp [Ne.symm hk]
 have e2:=e kb hd.1
 have e3:=e ka hd.2.1
 have e4:=e ks hd.2.2
 refine ⟨fun e=>absurd e (by rw [Rgs.upd_self];decide),fun _=>⟨x,Reg.eval_same _ _ _ hz,hx,hsz,fun e=>?_,fun _=>ho,fun _=>hC,fun e=>?_,fun e=>?_⟩⟩
 ·rw [e2,hb] at e;cases e
 ·rw [e3,ha] at e;cases e
 ·rw [e4,hs] at e;cases e
theorem ApG.lit (h:ApG vo lo Φ W0 E s TC nC BC gt L off BO AO n co l0 kc kb ka ks tc tb ta live a w) (hΦ:∀ x w w',KpR gt AO w w'→Φ x w→Φ x w') (hc:live kc=true) (ha:live ka=false) (hs:live ks=false) (hd:kb≠kc∧kb≠ka∧kb≠ks) (hz:tb < a.tmps.size) (ht:tb≠tc) :
  ∃ x,a.eval (.tmp tc)=vo x∧ApG vo lo Φ W0 E s TC nC BC gt L off BO AO n co l0 kc kb ka ks tc tb ta (Rgs.upd live kb) (a.put (some tb) (.slice (some ⟨w.heap.size,0,none⟩) 1 1)) (w.alloc (.cells (lo x).toArray E)):=by
 have e:∀ k,kb≠k→Rgs.upd live kb k=live k:=fun k hk=>by unfold Rgs.upd;simp [Ne.symm hk]
 have e1:=e kc hd.1
 have e3:=e ka hd.2.1
 have e4:=e ks hd.2.2
 obtain ⟨x,hv,hx,hsz,_,ho,hC,_,_⟩:=h.res hc
 have hbl:=bl1 w (.cells (lo x).toArray E)
 refine ⟨x,hv,fun e=>?_,fun _=>⟨x,?_,hΦ x _ _ (KpR.bel hbl) hx,Nat.le_trans hsz hbl.size,fun _ _=>⟨_,Reg.eval_same _ _ _ hz,rdV_new w (lo x).toArray E (lo x) (by simp)⟩,fun _=>(ho ha).below rfl hbl,fun _=>OwnV.below (hC hs) rfl hbl,fun e=>?_,fun e=>?_⟩⟩
 ·rw [e1,hc] at e;cases e
 ·rw [Reg.eval_other _ _ _ _ ht];exact hv
 ·rw [e3,ha] at e;cases e
 ·rw [e4,hs] at e;cases e
theorem ApG.app {T b:Nat} {z:Value} (Le:Elt T E s b z) (h:ApG vo lo Φ W0 E s TC nC BC gt L off BO AO n co l0 kc kb ka ks tc tb ta live a w) (hΦ:∀ x w w',KpR gt AO w w'→Φ x w→Φ x w') (hc:live kc=true) (hb:live kb=true) (ha:live ka=false) (hs:live ks=false) (hd:ka≠kc∧ka≠kb∧ka≠ks) (hz:ta < a.tmps.size) (ht:ta≠tc)
  (hls:∀ x,(lo x).length=s) (h1:∀ x,∀ u∈lo x,u.oneCell'=true) (hE:TC≠E) (hn:(n+1)*b≤140737488355328) (hn2:n≤1048577) (hB:BO≤W0.heap.size) :
  ∃ gb,a.eval (.tmp tb)=.slice (some ⟨gb,0,none⟩) 1 1∧∃ A' c' w',(Builtin.append_ #[T,T] T #[.slice AO n co,.slice (some ⟨gb,0,none⟩) 1 1]).run Tryz.prog w=.ok (.slice A' (n+1) c') w' ∧
   ApG vo lo Φ W0 E s TC nC BC gt L off BO AO n co l0 kc kb ka ks tc tb ta (Rgs.upd live ka) (a.put (some ta) (.slice A' (n+1:Nat) c')) w':=by
 have e:∀ k,ka≠k→Rgs.upd live ka k=live k:=fun k hk=>by unfold Rgs.upd;simp [Ne.symm hk]
 have e1:=e kc hd.1
 have e2:=e kb hd.2.1
 have e4:=e ks hd.2.2
 obtain ⟨x,hv,hx,hsz,hlit,hoo,hC,_,_⟩:=h.res hc
 obtain ⟨gb,hq,hp⟩:=hlit hb ha
 have ho:=hoo ha
 obtain ⟨A',c',w',hrun,g1,g2,g3⟩:=run_appX Le w BO AO n co l0 ho ⟨gb,0,none⟩ 1 1 (lo x) w.heap.size hp (by rw [hls,Nat.one_mul]) Nat.one_pos (h1 x) hn (by unfold maxLen;omega) (Nat.le_trans hB hsz)
 refine ⟨gb,hq,A',c',w',hrun,fun e=>?_,fun _=>⟨x,?_,hΦ x _ _ (KpR.grew g3) hx,Nat.le_trans hsz g2.size,fun _ e=>absurd e (by rw [Rgs.upd_self];decide),fun e=>absurd e (by rw [Rgs.upd_self];decide),fun _=>OwnV.grown (hC hs) ho hE g3,fun _ _=>⟨A',c',Reg.eval_same _ _ _ hz,g1,?_⟩,fun e=>?_⟩⟩
 ·rw [e1,hc] at e;cases e
 ·rw [Reg.eval_other _ _ _ _ ht];exact hv
 ·rcases g3.at_ with e | ⟨g',e,hg'⟩
  ·exact .inl e
  ·exact .inr ⟨g',e,Nat.le_trans hsz hg'⟩
 ·rw [e4,hs] at e;cases e
theorem ApG.put (h:ApG vo lo Φ W0 E s TC nC BC gt L off BO AO n co l0 kc kb ka ks tc tb ta live a w) (hΦ:∀ x w w',KpR gt AO w w'→Φ x w→Φ x w') (hc:live kc=true) (ha:live ka=true) (hs:live ks=false) (hd:ks≠kc∧ks≠kb∧ks≠ka) (hE:E≠TC) (hoff:off < nC) :
  ∃ A' c',a.eval (.tmp ta)=.slice A' (n+1:Nat) c'∧ApG vo lo Φ W0 E s TC nC BC gt L off BO AO n co l0 kc kb ka ks tc tb ta (Rgs.upd live ks) a (w.setCell ⟨gt,off,none⟩ (.slice A' (n+1:Nat) c')):=by
 have e:∀ k,ks≠k→Rgs.upd live ks k=live k:=fun k hk=>by unfold Rgs.upd;simp [Ne.symm hk]
 have e1:=e kc hd.1
 have e2:=e kb hd.2.1
 have e3:=e ka hd.2.2
 obtain ⟨x,hv,hx,hsz,_,_,hC,hap,_⟩:=h.res hc
 obtain ⟨A',c',hq,ho,hat⟩:=hap ha hs
 have hr:=hC hs
 have hlen:L.length=nC:=by have:=hr.1;omega
 refine ⟨A',c',hq,fun e=>?_,fun _=>⟨x,hv,hΦ x _ _ (KpR.set _ _) hx,by simpa using hsz,fun _ e=>?_,fun e=>?_,fun e=>absurd e (by rw [Rgs.upd_self];decide),fun _ e=>absurd e (by rw [Rgs.upd_self];decide),fun _=>⟨A',c',OwnV.other ho _ _ (OwnV.apart' ho hr hE),hat,OwnV.set hr off _ (by omega)⟩⟩⟩
 ·rw [e1,hc] at e;cases e
 ·rw [e3,ha] at e;cases e
 ·rw [e3,ha] at e;cases e
end
end Go.Proofs.YtfmndmhjjbeokaaGreatDoor
