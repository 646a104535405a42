import Derived.Test.YtdkngfdnfekgfaaGreatLot36
import Derived.Deep.CutBlock
import Derived.Test.YtdkngfdnfekgfaaGreatLot28
import Derived.Lib.BufferWrite
import Derived.Laws.MakeOwn
set_option maxHeartbeats 16000000
set_option maxRecDepth 100000
set_option linter.unusedSimpArgs false
set_option linter.unusedVariables false
namespace Go.Proofs.YtdkngfdnfekgfaaGreat
open Go.RowKit Tab
def RowsOk(w:World)(B:Nat)(A:Option Addr)(n c:Nat)(L:List Rw):Prop :=
 OwnV 84 1 w B A n c (L.map Rw.v)∧∀ r∈L,RwAt w r∧∀ b,obk r.a=some b→B≤b∧b < w.heap.size∧obk A≠some b
theorem RowsOk.only{p:Nat→Prop}{w w':World}{B n c:Nat}{A:Option Addr}{L:List Rw}(h:RowsOk w B A n c L)(ho:Only p w w')(hp:∀ k,p k→k < B):RowsOk w' B A n c L:=by
 refine⟨h.1.keep fun k hB hk=>ho.block k hk fun hpk=>by have:=hp k hpk;omega,fun r hr=>⟨(h.2 r hr).1.only ho fun b hb hpb=>?_,fun b hb=>⟨((h.2 r hr).2 b hb).1,Nat.lt_of_lt_of_le ((h.2 r hr).2 b hb).2.1 ho.size,((h.2 r hr).2 b hb).2.2⟩⟩⟩;have h1:=((h.2 r hr).2 b hb).1;have h2:=hp b hpb;omega
theorem RowsOk.at_{w:World}{B n c:Nat}{A:Option Addr}{L:List Rw}(h:RowsOk w B A n c L){i:Nat}(hi:i < n):∃ g r,A=some ⟨g,0,none⟩∧B≤g∧g < w.heap.size∧L[i]? = some r∧w.cell? ⟨g,i,none⟩=some (.slice r.a r.n r.c)∧RwAt w r:=by
 obtain⟨g,rfl,hBg,hgl⟩:=h.1.block (by omega);have hl:=h.1.len;rw[List.length_map,Nat.mul_one] at hl;have hil:i < L.length:=by omega
 refine⟨g,L[i],rfl,hBg,hgl,List.getElem?_eq_getElem hil,?_,(h.2 _ (List.getElem_mem hil)).1⟩;refine(World.ownsRow.cellAt h.1 i (by omega)).trans ?_;rw[List.getElem?_map,List.getElem?_eq_getElem hil];rfl
def PartsL(P P':List PtV):Prop:=∀ x∈P',In64 x.per∧∃ x0∈P,x.pa=x0.pa∧x.pn=x0.pn∧x.name=x0.name
theorem PartsL.set{P P':List PtV}(h:PartsL P P'){i:Nat}{x:PtV}(hx:P'[i]? = some x){y z:Int}(hz:In64 z):PartsL P (P'.set i { x with bud:=y,per:=z }):=fun u hu=>by
 rcases List.mem_or_eq_of_mem_set hu with hu | rfl
 ·exact h u hu
 ·obtain⟨_,x0,h0,h1⟩:=h x (List.mem_of_getElem? hx)
  exact⟨hz,x0,h0,h1⟩
def LateOk(T:List TbV)(C:List ChV):Prop:=∀ x∈C,(0≤x.late∧x.late≤4096)∧∀ t∈T,chLate (wordsL (rowF t)) x=false
def ShortOk(T:List TbV)(P:List PtV):Prop:=∀ k x,P[k]? = some x→∀ t∈T,ptShort (wordsL (rowF t)) k x=false
theorem LateOk.start{T:List TbV}{C:List ChV}(h:∀ x∈C,x.late=0):LateOk T C:=fun x hx=>⟨by have:=h x hx;omega,fun t _=>by
 have:=h x hx
 unfold chLate
 rw[decide_eq_false (by omega)]
 rfl⟩
theorem ShortOk.start{T:List TbV}{P:List PtV}(h:∀ x∈P,x.bud≤0):ShortOk T P:=fun k x hx t _=>by
 have:=h x (List.mem_of_getElem? hx)
 unfold ptShort
 rw[decide_eq_false (by omega)]
 rfl
theorem LateOk.set{T:List TbV}{C:List ChV}(h:LateOk T C){i:Nat}{x:ChV}{z z':Int}(hz:∀ t∈T,0≤lateL (wordsL (rowF t)) x.from_ x.to_∧lateL (wordsL (rowF t)) x.from_ x.to_≤z)(hzz:z≤z')(hz0:0≤z')(hz4:z'≤4096):LateOk T (C.set i { x with late:=z' }):=fun u hu=>by
 rcases List.mem_or_eq_of_mem_set hu with hu | rfl
 ·exact h u hu
 ·refine⟨⟨hz0,hz4⟩,fun t ht=>?_⟩
  have h1:=hz t ht
  unfold chLate
  dsimp only
  rw[decide_eq_false (show ¬ lateL (wordsL (rowF t)) x.from_ x.to_ < 0 by omega),decide_eq_false (show ¬ z' < lateL (wordsL (rowF t)) x.from_ x.to_ by omega)]
  simp
theorem ShortOk.set{T:List TbV}{P:List PtV}(h:ShortOk T P){i:Nat}{x:PtV}{y z z':Int}(hz:∀ t∈T,z≤budL (wordsL (rowF t)) (i:Int) y)(hzz:z'≤z):ShortOk T (P.set i { x with bud:=z',per:=y }):=fun k u hu t ht=>by
 by_cases hk:i=k
 ·subst hk
  by_cases hi:i < P.length
  ·rw[List.getElem?_set_self hi] at hu
   injection hu with hu
   subst hu
   have h1:=hz t ht
   unfold ptShort
   dsimp only
   rw[decide_eq_false (show ¬ budL (wordsL (rowF t)) (i:Int) y < z' by omega)]
   simp
  ·rw[List.getElem?_eq_none (by simpa using hi)] at hu
   cases hu
 ·rw[List.getElem?_set_ne hk] at hu
  exact h k u hu t ht
theorem ShortOk.none{T:List TbV}{P:List PtV}(h:ShortOk T P){i:Nat}{x:PtV}:ShortOk T (P.set i { x with bud:=0,per:=0 }):=fun k u hu t ht=>by
 by_cases hk:i=k
 ·subst hk
  by_cases hi:i < P.length
  ·rw[List.getElem?_set_self hi] at hu
   injection hu with hu
   subst hu
   rfl
  ·rw[List.getElem?_eq_none (by simpa using hi)] at hu
   cases hu
 ·rw[List.getElem?_set_ne hk] at hu
  exact h k u hu t ht
theorem mem_take_succ{α:Type}{l:List α}{j:Nat}{x:α}(h:l[j]? = some x){y:α}(hy:y∈l.take (j+1)):y∈l.take j∨y=x:=by
 obtain⟨hj,e⟩:=List.getElem?_eq_some_iff.1 h;rw[List.take_succ_eq_append_getElem hj,e] at hy;rcases List.mem_append.1 hy with hy | hy
 ·exact .inl hy
 exact .inr (by simpa using hy)
theorem row_of{L:List Rw}{T:List TbV}(h:L.map Rw.l=T.map rowF){j:Nat}{r:Rw}(hr:L[j]? = some r):∃ t,T[j]? = some t∧r.l=rowF t:=by
 have h1:(L.map Rw.l)[j]? = some r.l:=by rw[List.getElem?_map,hr];rfl
 rw[h,List.getElem?_map] at h1;cases ht:T[j]? with
 | none=>rw[ht] at h1;cases h1
 | some t=>rw[ht] at h1;injection h1 with h1;exact⟨t,rfl,h1.symm⟩
theorem zero_more{P:List PtV}{i:Nat}{x0:PtV}(h:∀ k x,k < i→P[k]? = some x→x.bud=0∧x.per=0):∀ k x,k < i+1→(P.set i { x0 with bud:=0,per:=0 })[k]? = some x→x.bud=0∧x.per=0:=fun k x hk hx=>by
 rw[List.getElem?_set] at hx
 split at hx
 ·split at hx
  ·injection hx with hx
   rw[← hx]
   exact⟨rfl,rfl⟩
  ·cases hx
 ·exact h k x (by omega) hx
theorem lateL_few{t:TbV}(h:Frame t)(p q:Int):lateL (wordsL (rowF t)) p q≤90:=by
 have h1:=lateL_le (wordsL (rowF t)) p q;rw[wordsL_len] at h1;have h2:ticks (rowF t)≤90:=by unfold rowF;rw[ticks_tidy];exact h.2
 omega
def AsksP(p:Nat→Prop)(B b:Nat)(A:Option Addr)(m c:Nat)(f:Nat→Int)(A1 A2 A3:Option Addr)(n1 n2 n3 c1 c2 c3:Nat)(P:List PtV)(C:List ChV)(T:List TbV)(B1:Nat)(w:World)(e:Ending)(w':World):Prop :=
 ∃(P':List PtV) (C':List ChV) (at':Nat),e=.returned (.agg #[.slice A1 n1 c1,.slice A2 n2 c2,.slice A3 n3 c3])∧RdB pcl w' w'.heap.size A1 n1 P'∧RdB cc w' w'.heap.size A2 n2 C'∧P'.map coreP=P.map coreP∧C'.map coreC=C.map coreC∧TapeW w' B b A m c f at'∧Only p w w'∧(∀ x∈P',In64 x.per)∧LateOk T C'∧ShortOk T P'∧OwnB 57 11 pcl w' B1 A1 n1 c1 P'∧OwnB 63 6 cc w' B1 A2 n2 c2 C'∧DoneR w P' C' T
theorem asks_any(p:Nat→Prop)(B b:Nat)(A:Option Addr)(m c:Nat)(f:Nat→Int)(hm:m≤140737488351232)(at_:Nat)(A1 A2 A3:Option Addr)(n1 n2 n3 c1 c2 c3 B1:Nat)(P:List PtV)(C:List ChV)(T:List TbV)(w:World)
  (T0:TapeW w B b A m c f at_) (hP:OwnB 57 11 pcl w B1 A1 n1 c1 P) (hC:OwnB 63 6 cc w B1 A2 n2 c2 C) (hA:Asked p w A3 n3 P T) (hb1:b < B1)
  (hp:∀ k,p k↔k=b∨obk A1=some k∨obk A2=some k) (h12:∀ k,obk A1=some k→obk A2≠some k) (q1:n1≤6) (q2:n2≤8) (q3:n3≤3) (q4:1≤n3) (hlat:∀ x∈C,x.late=0) (hbud:∀ x∈P,x.bud≤0) :
  Calls Tryz.prog 23 #[.pointer (some ⟨b,0,none⟩),.agg #[.slice A1 n1 c1,.slice A2 n2 c2,.slice A3 n3 c3]] w (AsksP p B b A m c f A1 A2 A3 n1 n2 n3 c1 c2 c3 P C T B1 w):=by
 have HLAT:Hid (LateOk T C):=hid (LateOk.start hlat)
 have HBUD:Hid (ShortOk T P):=hid (ShortOk.start hbud)
 have HTL:Hid (T.length=n3):=hid hA.t.len
 have HTF:Hid (∀ t∈T,Frame t):=hid fun t ht=>(hA.tt t ht).2
 clear hlat hbud
 have hbox:=box_vec w (.slice A1 n1 c1) (.slice A2 n2 c2) (.slice A3 n3 c3) 26
 have hbw:=bl1 w (.cells #[.slice A1 n1 c1,.slice A2 n2 c2,.slice A3 n3 c3] 26)
 have hb2:=(bl1 (w.alloc (.cells #[.slice A1 n1 c1,.slice A2 n2 c2,.slice A3 n3 c3] 26)) (.cells #[.slice none 0 0,.slice none 0 0,.slice none 0 0] 26))
 have hres:=box_vec (w.alloc (.cells #[.slice A1 n1 c1,.slice A2 n2 c2,.slice A3 n3 c3] 26)) (.slice none 0 0) (.slice none 0 0) (.slice none 0 0) 26
 have hbox2:=hbox.on hb2
 have hb3:=hbw.trans (hb2.mono hbw.size)
 have hsz1:(w.alloc (.cells #[.slice A1 n1 c1,.slice A2 n2 c2,.slice A3 n3 c3] 26)).heap.size=w.heap.size+1:=by simp
 rw[hsz1] at hres
 have HPP:=hid hp
 have hplt:∀ k,p k→k < w.heap.size:=fun k hk=>by
  rcases(hp k).1 hk with e | e | e
  ·rw[e];exact T0.lt
  ·exact(hP.own.obk_ge e).2
  ·exact(hC.own.obk_ge e).2
 have HPL:=hid hplt
 have HO:=hid (Only.bel (p:=p) hb3)
 have HP0:=hid (hP.below hb3)
 have HC0:=hid (hC.below hb3)
 have HA0:=hid (hA.only HO.out)
 have HA00:=hid hA
 have HT0:=hid (T0.below hb3 T0.lt)
 have H12:=hid h12
 have HBX:=hid hbox2
 have HRS:=hid hres
 obtain⟨m0,m1,m2⟩:=hbox2.three
 clear hbox hbw hb2 hres hbox2 hb3 hsz1 hp hplt hP hC hA T0 h12
 go_enter Tryz.func23,Tryz.ntmps23
 go_upto_region 2 with fail
 generalize hW:(w.alloc (.cells #[.slice A1 n1 c1,.slice A2 n2 c2,.slice A3 n3 c3] 26)).alloc (.cells #[.slice none 0 0,.slice none 0 0,.slice none 0 0] 26)=W at HO HP0 HC0 HA0 HT0 HBX HRS m0 m1 m2 ⊢
 obtain⟨gc,hgc⟩:∃ gc,gc=w.heap.size:=⟨_,rfl⟩
 rw[← hgc] at HBX HRS m0 m1 m2 ⊢
 have HGC:=hid hgc
 have hgcl:gc+1 < W.heap.size:=HRS.out.lt
 clear hW hgc
 go_wp2_with fail
 go_loopw [5,7,8,9,25] (fun lv _ _ _ s wr=>∃(i c5:Nat) (A5:Option Addr) (L:List Rw),i≤n3∧s=.int .i64 i∧lv=.slice A5 i c5∧RowsOk wr W.heap.size A5 i c5 L∧L.map Rw.l=(T.take i).map rowF∧Below W.heap.size W wr) (fun _ _ _ _ s _=>n3 - (intOf s).toNat)
 case atStart=>exact⟨0,0,none,[],by omega,rfl,rfl,⟨OwnV.nil _ _ _ _,fun r hr=>by cases hr⟩,rfl,Below.refl _ _⟩
 case round =>
  obtain⟨i,c5,A5,L,hi,rfl,rfl,hR,hrl,hb⟩:=hrel
  have HRL:=hid hrl
  clear hrl
  by_cases hlt:i < n3
  ·have hAw:=HA0.out.only (Only.bel (p:=p) hb)
   obtain⟨ad,t,rfl,had,ht,c0,_⟩:=hAw.t.at_ tcl_len (by omega) hlt
   have d0:=c0 _ rfl
   rw[Nat.mul_one] at d0
   obtain⟨htt,hfr⟩:=hAw.tt t (List.mem_of_getElem? ht)
   have HOF:=hid (rof_new t wr htt hfr)
   have HTI:=hid ht
   clear c0 ht htt hfr hAw
   generalize hrow:rowF t=rt at HOF
   have HROW:=hid hrow
   clear hrow
   obtain⟨tA,tn,tc,tx,tk⟩:=t
   dsimp only at d0 HOF
   go_wp2_with fail
   refine HOF.out.mono ?_
   rintro e w5⟨r,rfl,hr,hb5,hnew,hrr⟩
   have HRR:=hid hrr
   have hR5:=hR.only (Only.bel (p:=fun _=>False) hb5) (fun k hk=>hk.elim)
   obtain⟨ra,rn,rc,rl⟩:=r
   unfold Rw.v
   dsimp only at hr hnew HRR ⊢
   clear hrr
   have HNX:Hid ((L++[(⟨ra,rn,rc,rl⟩:Rw)]).map Rw.l=(T.take (i+1)).map rowF):=hid (by
    have h1:=HTI.out
    obtain⟨hi',e⟩:=List.getElem?_eq_some_iff.1 h1
    rw[List.take_succ_eq_append_getElem hi',e,List.map_append,List.map_append,HRL.out]
    show _++[rl]=_++[rowF _]
    rw[HROW.out,HRR.out])
   have hbl:=bl1 w5 (.cells #[.slice ra rn rc] 84)
   have hR6:=hR5.only (Only.bel (p:=fun _=>False) hbl) (fun k hk=>hk.elim)
   have hrd:=rdV_new w5 #[.slice ra rn rc] 84 ([(⟨ra,rn,rc,rl⟩:Rw)].map Rw.v) rfl
   have hb6:=hb.trans (hb5.mono hb.size)
   have hb7:=hb6.trans (hbl.mono hb6.size)
   have hs7:=hb7.size
   have hr6:=hr.on hbl
   have hsz:=hb.size
   have HR6:=hid hR6.2
   have HRN:=hid hr6
   have HNW:=hid (show ∀ b,obk ra=some b→W.heap.size≤b∧b < (w5.alloc (.cells #[.slice ra rn rc] 84)).heap.size∧obk A5≠some b from fun b hb=>by
    have h1:=hnew b hb
    have h2:=hbl.size
    refine⟨by omega,by omega,fun e=>?_⟩
    have:=(hR.1.obk_ge e).2
    omega)
   have HB7:=hid hb7
   have hown:=hR6.1
   clear hR hR5 hR6 hb hb5 hb6 hb7 hbl hr hr6 hnew HOF hsz
   go_wp2_with (at_builtin;go_loud (refine wpList_appX elRR rfl (.tmp 34) (.tmp 36) rfl rfl W.heap.size A5 i c5 _ rfl hown _ 1 1 _ _ rfl hrd rfl Nat.one_pos (rwv_one _) (by omega) (by unfold maxLen;omega) hs7 (i+1) rfl ((L++[(⟨ra,rn,rc,rl⟩:Rw)]).map Rw.v) List.map_append.symm ?_;intro A8 c8 w8 hw8 hb8 hot))
   go_roundw
   case rel =>
    refine⟨i+1,c8,A8,_,by omega,by go_num,rfl,⟨hw8,fun r hr=>?_⟩,HNX.out,HB7.out.trans hb8⟩
    have ho:Only (fun k=>obk A5=some k) (w5.alloc (.cells #[.slice ra rn rc] 84)) w8:=⟨hot.gb.os,hot.gb.tape,hot.gb.output,hot.gb.size,fun k hk hn=>hot.gb.block k hk fun e=>hn e.symm⟩
    have key:∀ r:Rw,RwAt (w5.alloc (.cells #[.slice ra rn rc] 84)) r→(∀ b,obk r.a=some b→W.heap.size≤b∧b < (w5.alloc (.cells #[.slice ra rn rc] 84)).heap.size∧obk A5≠some b)→RwAt w8 r∧∀ b,obk r.a=some b→W.heap.size≤b∧b < w8.heap.size∧obk A8≠some b:=fun r h1 h2=>by
     refine⟨h1.only ho fun b hb e=>(h2 b hb).2.2 e,fun b hb=>⟨(h2 b hb).1,Nat.lt_of_lt_of_le (h2 b hb).2.1 ho.size,fun e=>?_⟩⟩
     rcases hot.at_ with e2 | ⟨g,e2,hg⟩
     ·exact(h2 b hb).2.2 (by rw[← e2];exact e)
     ·rw[e2] at e
      injection e with e
      have:=(h2 b hb).2.1
      omega
    rcases List.mem_append.1 hr with hr | hr
    ·exact key r (HR6.out r hr).1 (HR6.out r hr).2
    ·simp at hr
     subst hr
     exact key _ HRN.out HNW.out
   case measure=>simp[intOf];omega
  ·have hge:n3≤i:=by omega
   obtain rfl:n3=i:=by omega
   have hl3:=hR.1.len
   have HRWS:Hid (L.map Rw.l=T.map rowF):=hid (by
    have h:=HRL.out
    rw[List.take_of_length_le (by rw[HTL.out];exact Nat.le_refl _)] at h
    exact h)
   clear HRL
   have hS2:AskS p B b A m c f A1 A2 n1 n2 c1 c2 B1 P C wr wr P C:=by
    have hT:=HT0.out.below hb HT0.out.lt
    exact⟨HP0.out.below hb,HC0.out.below hb,rfl,rfl,⟨_,hT⟩,Only.refl _ _⟩
   have HR:=hid hR
   have HO2:=hid (HO.out.trans (Only.bel (p:=p) hb))
   have HA2:=hid (HA0.out.only (Only.bel (p:=p) hb))
   have HBX2:=hid (HBX.out.on hb)
   have HRS2:=hid (HRS.out.on hb)
   have hpb:p b:=(HPP.out b).2 (.inl rfl)
   have hpg:¬ p gc:=fun e=>by have:=HPL.out _ e;have:=HGC.out;omega
   have hpg1:¬ p (gc+1):=fun e=>by have:=HPL.out _ e;have:=HGC.out;omega
   have HBW:Hid (∀ wx,Only p wr wx→wx.cell? ⟨gc,0,none⟩=some (.slice A1 n1 c1)∧wx.cell? ⟨gc,1,none⟩=some (.slice A2 n2 c2)∧wx.cell? ⟨gc,2,none⟩=some (.slice A3 n3 c3)):=hid fun wx ho=>(HBX2.out.keep (ho.block gc HBX2.out.lt hpg) ho.size).three
   have HRW:=hid fun wx (ho:Only p wr wx)=>HR.out.only ho fun k hk=>by have:=HPL.out k hk;have:=HGC.out;omega
   have HPB:=hid hpb
   obtain⟨m0,m1,m2⟩:=HBW.out wr (Only.refl _ _)
   clear hR hb hl3 hpb hpg hpg1 HP0 HC0 HA0 HT0 HBX HRS HO
   go_wp2_with fail
   obtain⟨W2,hW2⟩:∃ W2,W2=wr:=⟨_,rfl⟩
   rw[← hW2] at hS2 HR HO2 HA2 HBX2 HRS2 HBW HRW m0 m1 m2 ⊢
   clear hW2 m0 m1 m2
   go_loopw [10,11,13,14,42] (fun _ _ _ _ s wx=>∃(i:Nat) (C':List ChV),i≤n2∧s=.int .i64 i∧AskS p B b A m c f A1 A2 n1 n2 c1 c2 B1 P C W2 wx P C'∧LateOk T C') (fun _ _ _ _ s _=>n2 - (intOf s).toNat)
   case atStart=>exact⟨0,C,by omega,rfl,hS2,HLAT.out⟩
   case round =>
    obtain⟨i,C',hi,rfl,hS,hlo⟩:=hrel
    have HLO:=hid hlo
    clear hS2 hlo
    by_cases hlt:i < n2
    ·obtain⟨g2,rfl,hBg2,hg2l⟩:=hS.ch.own.block (by omega)
     have hlc:=hS.ch.len
     have hx:C'[i]? = some (C'[i]'(by omega)):=List.getElem?_eq_getElem _
     obtain⟨x,hxx⟩:∃ x,x=C'[i]'(by omega):=⟨_,rfl⟩
     rw[← hxx] at hx
     have HX:=hid hx
     have hpg2:p g2:=(HPP.out g2).2 (.inr (.inr rfl))
     have h1g2:obk A1≠some g2:=fun e=>H12.out g2 e rfl
     have HPG2:=hid hpg2
     have H1G2:=hid h1g2
     have HCC:Hid (∀ wx C2,AskS p B b A m c f A1 (some ⟨g2,0,none⟩) n1 n2 c1 c2 B1 P C W2 wx P C2→C2=C'→wx.cell? ⟨g2,i*6,none⟩=some (.int .i64 x.from_)∧wx.cell? ⟨g2,i*6+1,none⟩=some (.int .i64 x.to_)∧wx.cell? ⟨g2,i*6+5,none⟩=some (.int .i64 x.late)∧wx.frozen? ⟨g2,i*6+5,none⟩=false):=hid fun wx C2 h e=>by
      subst e
      have e0:=h.ch.cell cc_len (k:=0) HX.out (by omega) rfl
      have e1:=h.ch.cell cc_len (k:=1) HX.out (by omega) rfl
      have e5:=h.ch.cell cc_len (k:=5) HX.out (by omega) rfl
      exact⟨e0.1,e1.1,e5.1,e5.2⟩
     have HS:=hid hS
     have hcx:=HRW.out wr hS.on
     clear hx hxx hpg2 h1g2 hS hcx hlc
     go_wp2_with fail
     obtain⟨W3,hW3⟩:∃ W3,W3=wr:=⟨_,rfl⟩
     rw[← hW3] at HS hg2l ⊢
     clear hW3
     go_loopw [11,13,14,47] (fun lv _ _ s wx=>∃(j:Nat) (z:Int),j≤n3∧s=.int .i64 j∧lv=.int .i64 z∧z≤90∧(0≤z→∀ t∈T.take j,0≤lateL (wordsL (rowF t)) x.from_ x.to_∧lateL (wordsL (rowF t)) x.from_ x.to_≤z)∧Below W3.heap.size W3 wx) (fun _ _ _ s _=>n3 - (intOf s).toNat)
     case atStart=>exact⟨0,0,by omega,rfl,rfl,by omega,(fun _ t ht=>by cases ht),Below.refl _ _⟩
     case round =>
      obtain⟨j,z,hj,rfl,rfl,hz90,hzt,hb⟩:=hrel
      have HZT:=hid hzt
      clear hzt
      have hSx:=HS.out.bel hb
      by_cases hjn:j < n3
      ·obtain⟨g5,r,rfl,_,_,hLr,d0,hrw⟩:=(HRW.out _ hSx.on).at_ hjn
       obtain⟨tj,htj,hrt⟩:=row_of HRWS.out hLr
       have hfew:=lateL_few (HTF.out tj (List.mem_of_getElem? htj)) x.from_ x.to_
       obtain⟨m0,m1,m2⟩:=HBW.out _ hSx.on
       obtain⟨f0,f1,_,_⟩:=HCC.out _ _ hSx rfl
       have hrd:=hrw.on (w':=wr.drew) (Below.refl _ _).drew
       have HLT:=hid (late_any r.a r.n r.c r.l x.from_ x.to_ wr.drew hrd.rd hrd.cap (by have:=hrd.few;omega) (by have:=hrd.tk;omega))
       rw[hrt] at HLT
       have HSTEP:Hid (∀ z':Int,0≤z→0≤lateL (wordsL (rowF tj)) x.from_ x.to_→z≤z'→lateL (wordsL (rowF tj)) x.from_ x.to_≤z'→∀ t∈T.take (j+1),0≤lateL (wordsL (rowF t)) x.from_ x.to_∧lateL (wordsL (rowF t)) x.from_ x.to_≤z'):=hid fun z' h0 h1 h2 h3 t ht=>by
        rcases mem_take_succ htj ht with h | rfl
        ·have:=HZT.out h0 t h
         omega
        ·exact⟨h1,h3⟩
       clear hLr htj hrt
       generalize lateL (wordsL (rowF tj)) x.from_ x.to_=ln at HLT HSTEP hfew
       have HB:=hid hb
       obtain⟨ra,rn,rc,rl⟩:=r
       dsimp only at d0 HLT
       clear hSx hrw hrd hb
       go_upto_region 15 with fail
       go_region_with (go_at_call 42;refine HLT.out.mono ?_;rintro e w5⟨rfl,hb5⟩)
       all_goals
        have hb6:Below W3.heap.size W3 w5:=HB.out.trans (show Below W3.heap.size wr w5 from ⟨hb5.os,hb5.tape,hb5.output,hb5.size,fun k hk=>hb5.block k (Nat.lt_of_lt_of_le hk HB.out.size)⟩)
        clear hb5 d0 m0 m1 m2 f0 f1
        by_cases hl0:ln < 0
        ·have t1:=decide_eq_true hl0
         go_wp2_with fail
         go_roundw
         case rel=>exact⟨j+1,_,by omega,by go_num,rfl,by omega,(fun h=>by omega),hb6⟩
         case measure=>simp[intOf];omega
        ·have t1:=decide_eq_false hl0
         by_cases hz0:z < 0
         ·have t2:=decide_eq_true hz0
          go_wp2_with fail
          go_roundw
          case rel=>exact⟨j+1,_,by omega,by go_num,rfl,by omega,(fun h=>by omega),hb6⟩
          case measure=>simp[intOf];omega
         ·have t2:=decide_eq_false hz0
          go_wp2_with fail
          go_roundw
          case rel =>
           refine⟨j+1,_,by omega,by go_num,rfl,?_,fun _=>HSTEP.out _ (by omega) (by omega) ?_ ?_,hb6⟩
           ·first | omega | (split <;> omega)
           ·first | omega | (split <;> omega)
           ·first | omega | (split <;> omega)
          case measure=>simp[intOf];omega
      ·have hge:n3≤j:=by omega
       obtain⟨at7,T7⟩:=hSx.tp
       have HS7:=hid hSx
       clear hb hSx
       by_cases hz:0 < z
       ·have t1:=decide_eq_true hz
        have HALL:Hid (∀ t∈T,0≤lateL (wordsL (rowF t)) x.from_ x.to_∧lateL (wordsL (rowF t)) x.from_ x.to_≤z):=hid (by
         have h:=HZT.out (by omega)
         rw[List.take_of_length_le (by rw[HTL.out];exact hge)] at h
         exact h)
        go_upto_region 20 with fail
        go_wp2_with fail
        refine(next_at B b A m c f at7 3 _ wr T7 rfl (by omega) (by omega) hm).mono ?_
        rintro e w5⟨k,at5,hk,rfl,T5,G5⟩
        have hS5:=HS7.out.next T5 G5 hb1 HPB.out
        by_cases hk0:0 < k
        ·have hk1:(0:Int) < (k:Int):=by omega
         have t2:=decide_eq_true hk0
         obtain⟨m0,m1,m2⟩:=HBW.out _ hS5.on
         obtain⟨f0,f1,f5,f6⟩:=HCC.out _ _ hS5 rfl
         have HNX:Hid (Calls Tryz.prog 21 #[.pointer (some ⟨b,0,none⟩),.int .i64 6] w5.drew fun e w6=>∃ q:Int,e=.returned (.int .i64 q)∧(0≤q∧q≤5)∧AskS p B b A m c f A1 (some ⟨g2,0,none⟩) n1 n2 c1 c2 B1 P C W2 w6 P C'∧w6.cell? ⟨gc,0,none⟩=some (.slice A1 n1 c1)∧w6.cell? ⟨gc,1,none⟩=some (.slice (some ⟨g2,0,none⟩) n2 c2)∧w6.cell? ⟨g2,i*6+5,none⟩=some (.int .i64 x.late)∧w6.frozen? ⟨g2,i*6+5,none⟩=false):=hid (by
          have hSd:=hS5.bel (w':=w5.drew) (Below.refl _ _).drew
          obtain⟨at8,T8⟩:=hSd.tp
          refine(next_at B b A m c f at8 6 _ w5.drew T8 rfl (by omega) (by omega) hm).mono ?_
          rintro e w6⟨q,at6,hq6,rfl,T6,G6⟩
          have hS6:=hSd.next T6 G6 hb1 HPB.out
          obtain⟨m0,m1,m2⟩:=HBW.out _ hS6.on
          obtain⟨f0,f1,f5,f6⟩:=HCC.out _ _ hS6 rfl
          exact⟨_,rfl,⟨by omega,by omega⟩,hS6,m0,m1,f5,f6⟩)
         clear hS5 T5 G5 T7
         go_upto_region 21 with fail
         go_region_with (go_at_call 21;refine HNX.out.mono ?_;rintro e w6⟨q,rfl,⟨hq0,hq5⟩,hS6,v0,v1,v5,v6⟩)
         all_goals
          have HS6:=hid hS6
          clear hS6
          go_wp2_with fail
          go_roundw
          case rel =>
           refine⟨i+1,_,by omega,by go_num,AskS.late HS6.out HX.out _ hb1 HPG2.out H1G2.out,HLO.out.set HALL.out ?_ ?_ ?_⟩
           ·first | omega | (split <;> omega)
           ·first | omega | (split <;> omega)
           ·first | omega | (split <;> omega)
          case measure=>simp[intOf];omega
        ·have hk1:¬ (0:Int) < (k:Int):=by omega
         have t2:=decide_eq_false hk0
         have HS5:=hid hS5
         clear hS5 T5 G5 T7
         go_wp2_with fail
         go_roundw
         case rel=>exact⟨i+1,C',by omega,by go_num,HS5.out,HLO.out⟩
         case measure=>simp[intOf];omega
       ·have t1:=decide_eq_false hz
        go_wp2_with fail
        go_roundw
        case rel=>exact⟨i+1,C',by omega,by go_num,HS7.out,HLO.out⟩
        case measure=>simp[intOf];omega
    ·have hge:n2≤i:=by omega
     have hSon:=hS.on
     obtain⟨g5,r,rfl,_,_,_,d0,hrw⟩:=(HRW.out _ hSon).at_ (i:=0) (by omega)
     have HTO:=hid (total_any r.a r.n r.c r.l wr hrw.rd hrw.cap (by have:=hrw.few;omega) (by have:=hrw.tk;omega))
     have htk:=hrw.tk
     obtain⟨ra,rn,rc,rl⟩:=r
     dsimp only at d0 HTO htk
     generalize ticks rl=y0 at HTO htk
     have HS4:=hid hS
     clear hS hSon hrw
     go_wp2_with fail
     refine HTO.out.mono ?_
     rintro e w5⟨rfl,hb5⟩
     have hS5:=HS4.out.bel hb5
     obtain⟨at5,T5⟩:=hS5.tp
     have HS5:=hid hS5
     clear hS5 hb5 d0
     go_wp2_with fail
     refine(next_at B b A m c f at5 3 _ w5 T5 rfl (by omega) (by omega) hm).mono ?_
     rintro e w6⟨k,at6,hk,rfl,T6,G6⟩
     have HS6:=hid (HS5.out.next T6 G6 hb1 HPB.out)
     clear T5 T6 G6
     go_upto_block 6 with fail
     go_cut [15,16] from 100 to 111 (fun a bb wx=>∃ y:Nat,a=.int .i64 (y:Int)∧y≤90∧wx=w6)
     case first =>
      go_wp2_with fail
      go_loopw [15,16] (fun a bb wx=>∃ y kk:Nat,a=.int .i64 (y:Int)∧bb=.int .i64 (kk:Int)∧y≤90∧kk≤4∧wx=w6) (fun _ bb _=>(intOf bb).toNat)
      case atStart=>exact⟨y0,2+k,rfl,by go_num,htk,by omega,rfl⟩
      case round =>
       obtain⟨y,kk,rfl,rfl,hy,hkk,rfl⟩:=hrel
       by_cases h1:1 < kk
       ·have h1i:(1:Int) < (kk:Int):=by omega
        have hk0:¬ kk=0:=by omega
        by_cases hm:y % kk=0
        ·have hz:(y:Int) % (kk:Int)=0:=by rw[← Int.natCast_emod,hm];rfl
         have hzt:(y:Int).tmod (kk:Int)=0:=by rw[Int.tmod_eq_emod_of_nonneg (Int.natCast_nonneg _)];exact hz
         have hzb:((y:Int).tmod (kk:Int) == 0)=true:=beq_iff_eq.2 hzt
         have hzc:((y:Int) % (kk:Int) == 0)=true:=beq_iff_eq.2 hz
         go_wp2_with fail
         go_meet
         case rel =>
          obtain⟨Q,hQ⟩:∃ Q,Q=y / kk:=⟨_,rfl⟩
          have hdv:(y:Int) / (kk:Int)=(Q:Int):=by rw[hQ];exact(Int.natCast_ediv y kk).symm
          have hQ9:Q≤90:=by rw[hQ];have:=Nat.div_le_self y kk;omega
          rw[hdv]
          clear hQ
          exact⟨Q,congrArg (Value.int .i64) (IntWalk.wrap64_in (Q:Int) (by omega)),hQ9,rfl⟩
        ·have hz:¬ (y:Int) % (kk:Int)=0:=by rw[← Int.natCast_emod];omega
         have hzt:¬ (y:Int).tmod (kk:Int)=0:=by rw[Int.tmod_eq_emod_of_nonneg (Int.natCast_nonneg _)];exact hz
         have hzb:((y:Int).tmod (kk:Int) == 0)=false:=beq_eq_false_iff_ne.2 hzt
         have hzc:((y:Int) % (kk:Int) == 0)=false:=beq_eq_false_iff_ne.2 hz
         go_wp2_with fail
         go_roundw
         case rel=>exact⟨y,kk - 1,rfl,by go_num,hy,by omega,by trivial⟩
         case measure=>simp[intOf];omega
       ·have h1i:¬ (1:Int) < (kk:Int):=by omega
        go_wp2_with fail
        go_meet
        case rel=>exact⟨y,rfl,hy,rfl⟩
     case rest =>
      obtain⟨y,rfl,hy,hwc⟩:=hcut
      rw[hwc]
      clear hwc
      have hS6:=HS6.out
      obtain⟨m0,m1,m2⟩:=HBW.out _ hS6.on
      have hpe:In64 (y:Int):=by unfold In64;omega
      have HPE:=hid hpe
      have hPL:PartsL P P:=fun x hx=>⟨(HA2.out.pt x hx).per,x,hx,rfl,rfl,rfl⟩
      clear hpe
      go_wp2_with fail
      clear m0 m1 m2
      go_loopw [17,18,20,114] (fun _ _ _ s wx=>∃(i:Nat) (P':List PtV),i≤n1∧s=.int .i64 i∧AskS p B b A m c f A1 A2 n1 n2 c1 c2 B1 P C W2 wx P' C'∧PartsL P P'∧ShortOk T P') (fun _ _ _ s _=>n1 - (intOf s).toNat)
      case atStart=>exact⟨0,P,by omega,rfl,hS6,hPL,HBUD.out⟩
      case round =>
       obtain⟨i,P',hi,rfl,hS,hPL2,hsho⟩:=hrel
       have HSHO:=hid hsho
       clear hsho
       clear hS6 hPL
       by_cases hlt:i < n1
       ·obtain⟨g1,rfl,hBg1,hg1l⟩:=hS.pp.own.block (by omega)
        have hlp:=hS.pp.len
        have hx:P'[i]? = some (P'[i]'(by omega)):=List.getElem?_eq_getElem _
        obtain⟨x,hxx⟩:∃ x,x=P'[i]'(by omega):=⟨_,rfl⟩
        rw[← hxx] at hx
        have HX:=hid hx
        have hpg1:p g1:=(HPP.out g1).2 (.inr (.inl rfl))
        have h2g1:obk A2≠some g1:=H12.out g1 rfl
        have HPG1:=hid hpg1
        have H2G1:=hid h2g1
        have HPL2:=hid hPL2
        have HCC:Hid (∀ wx P2,AskS p B b A m c f (some ⟨g1,0,none⟩) A2 n1 n2 c1 c2 B1 P C W2 wx P2 C'→P2=P'→wx.cell? ⟨g1,i*11+1,none⟩=some (.int .i64 x.bud)∧wx.frozen? ⟨g1,i*11+1,none⟩=false∧wx.cell? ⟨g1,i*11+2,none⟩=some (.int .i64 x.per)∧wx.frozen? ⟨g1,i*11+2,none⟩=false):=hid fun wx P2 h e=>by
         subst e
         have e0:=h.pp.cell pcl_len (k:=1) HX.out (by omega) rfl
         have e1:=h.pp.cell pcl_len (k:=2) HX.out (by omega) rfl
         exact⟨e0.1,e0.2,e1.1,e1.2⟩
        have HS:=hid hS
        clear hx hxx hpg1 h2g1 hS hlp hPL2
        go_wp2_with fail
        obtain⟨W3,hW3⟩:∃ W3,W3=wr:=⟨_,rfl⟩
        rw[← hW3] at HS hg1l ⊢
        clear hW3
        go_loopw [18,20,119] (fun lv _ s wx=>∃(j:Nat) (z:Int),j≤n3∧s=.int .i64 j∧lv=.int .i64 z∧z≤4096∧-4096≤z∧(∀ t∈T.take j,z≤budL (wordsL (rowF t)) (i:Int) (y:Int))∧Below W3.heap.size W3 wx) (fun _ _ s _=>n3 - (intOf s).toNat)
        case atStart=>exact⟨0,4096,by omega,rfl,rfl,by omega,by omega,(fun t ht=>by cases ht),Below.refl _ _⟩
        case round =>
         obtain⟨j,z,hj,rfl,rfl,hz40,hz41,hzt,hb⟩:=hrel
         have HZT:=hid hzt
         clear hzt
         have hSx:=HS.out.bel hb
         by_cases hjn:j < n3
         ·obtain⟨g5,r,rr,_,_,hLr,d0,hrw⟩:=(HRW.out _ hSx.on).at_ hjn
          obtain⟨tj,htj,hrt⟩:=row_of HRWS.out hLr
          have hbge:=budL_ge (wordsL (rowF tj)) (i:Int) (y:Int)
          injection rr with rr
          injection rr with rr
          subst rr
          have HBU:=hid (budget_any r.a r.n r.c r.l (i:Int) (y:Int) wr hrw.rd hrw.cap (by have:=hrw.few;omega) (by have:=hrw.tk;omega) HPE.out)
          rw[hrt] at HBU
          have HSTEP:Hid (∀ z':Int,z'≤z→z'≤budL (wordsL (rowF tj)) (i:Int) (y:Int)→∀ t∈T.take (j+1),z'≤budL (wordsL (rowF t)) (i:Int) (y:Int)):=hid fun z' h0 h1 t ht=>by
           rcases mem_take_succ htj ht with h | rfl
           ·have:=HZT.out t h
            omega
           ·exact h1
          clear hLr htj hrt
          generalize budL (wordsL (rowF tj)) (i:Int) (y:Int)=bn at HBU HSTEP hbge
          have HB:=hid hb
          obtain⟨ra,rn,rc,rl⟩:=r
          dsimp only at d0 HBU
          clear hSx hrw hb
          go_wp2_with fail
          refine HBU.out.mono ?_
          rintro e w5⟨rfl,hb5⟩
          have hb6:=HB.out.trans (hb5.mono HB.out.size)
          clear hb5 d0
          go_wp2_with fail
          all_goals
           go_roundw
           case rel =>
            refine⟨j+1,_,by omega,by go_num,rfl,?_,?_,HSTEP.out _ ?_ ?_,hb6⟩
            ·first | omega | (split <;> omega)
            ·first | omega | (split <;> omega)
            ·first | omega | (split <;> omega)
            ·first | omega | (split <;> omega)
           case measure=>simp[intOf];omega
         ·have hge:n3≤j:=by omega
          obtain⟨at7,T7⟩:=hSx.tp
          have HS7:=hid hSx
          clear hb hSx
          by_cases hz:0 < z
          ·have t1:=decide_eq_true hz
           have HALL:Hid (∀ t∈T,z≤budL (wordsL (rowF t)) (i:Int) (y:Int)):=hid (by
            have h:=HZT.out
            rw[List.take_of_length_le (by rw[HTL.out];exact hge)] at h
            exact h)
           go_upto_region 38 with fail
           go_wp2_with fail
           refine(next_at B b A m c f at7 2 _ wr T7 rfl (by omega) (by omega) hm).mono ?_
           rintro e w5⟨k,at5,hk,rfl,T5,G5⟩
           have hS5:=HS7.out.next T5 G5 hb1 HPB.out
           by_cases hk0:k=0
           ·subst hk0
            obtain⟨m0,m1,m2⟩:=HBW.out _ hS5.on
            obtain⟨f1,f2,f3,f4⟩:=HCC.out _ _ hS5 rfl
            have HNX:Hid (Calls Tryz.prog 21 #[.pointer (some ⟨b,0,none⟩),.int .i64 2] w5.drew fun e w6=>∃ q:Int,e=.returned (.int .i64 q)∧(0≤q∧q≤1)∧AskS p B b A m c f (some ⟨g1,0,none⟩) A2 n1 n2 c1 c2 B1 P C W2 w6 P' C'∧w6.cell? ⟨gc,0,none⟩=some (.slice (some ⟨g1,0,none⟩) n1 c1)∧w6.cell? ⟨g1,i*11+1,none⟩=some (.int .i64 x.bud)∧w6.frozen? ⟨g1,i*11+1,none⟩=false∧w6.cell? ⟨g1,i*11+2,none⟩=some (.int .i64 x.per)∧w6.frozen? ⟨g1,i*11+2,none⟩=false):=hid (by
             have hSd:=hS5.bel (w':=w5.drew) (Below.refl _ _).drew
             obtain⟨at8,T8⟩:=hSd.tp
             refine(next_at B b A m c f at8 2 _ w5.drew T8 rfl (by omega) (by omega) hm).mono ?_
             rintro e w6⟨q,at6,hq2,rfl,T6,G6⟩
             have hS6:=hSd.next T6 G6 hb1 HPB.out
             obtain⟨m0,m1,m2⟩:=HBW.out _ hS6.on
             obtain⟨f1,f2,f3,f4⟩:=HCC.out _ _ hS6 rfl
             exact⟨_,rfl,⟨by omega,by omega⟩,hS6,m0,f1,f2,f3,f4⟩)
            clear hS5 T5 G5 T7
            go_upto_region 39 with fail
            go_region_with (go_at_call 21;refine HNX.out.mono ?_;rintro e w6⟨q,rfl,⟨hq0,hq1⟩,hS6,v0,v1,v2,v3,v4⟩)
            all_goals
             have HS6':=hid hS6
             clear hS6
             go_wp2_with fail
             go_roundw
             case rel =>
              refine⟨i+1,_,by omega,by go_num,AskS.ask HS6'.out HX.out _ _ hb1 HPG1.out H2G1.out,HPL2.out.set HX.out HPE.out,HSHO.out.set HALL.out ?_⟩
              first | omega | (split <;> omega)
             case measure=>simp[intOf];omega
           ·have t2:((k:Int) == 0)=false:=by simp;omega
            have HS5':=hid hS5
            clear hS5 T5 G5 T7
            go_wp2_with fail
            go_roundw
            case rel=>exact⟨i+1,P',by omega,by go_num,HS5'.out,HPL2.out,HSHO.out⟩
            case measure=>simp[intOf];omega
          ·have t1:=decide_eq_false hz
           go_wp2_with fail
           go_roundw
           case rel=>exact⟨i+1,P',by omega,by go_num,HS7.out,HPL2.out,HSHO.out⟩
           case measure=>simp[intOf];omega
       ·have hge:n1≤i:=by omega
        have hSon:=hS.on
        have hAA:=HA2.out.only hSon
        have HRT:=hid (xright_pt A1 A2 A3 n1 n2 n3 c1 c2 c3 P' C' T wr hS.pp.rdb hS.ch.rdb hAA.t (fun x hx=>by
         obtain⟨h1,x0,h0,e1,e2,e3⟩:=hPL2 x hx
         have h2:=hAA.pt x0 h0
         exact⟨h1,by rw[e3];exact h2.name,by rw[e2];exact h2.few,by rw[e1,e2];exact h2.procs⟩) (fun t ht=>(hAA.tt t ht).1))
        obtain⟨m0,m1,m2⟩:=HBW.out _ hSon
        have HS8:=hid hS
        have HPER:Hid (∀ x∈P',In64 x.per):=hid fun x hx=>(hPL2 x hx).1
        have HPQ:Hid (P'.map (pq wr)=P'.map (pq w)):=hid (List.map_congr_left fun x hx=>by
         obtain⟨_,x0,h0,e1,e2,e3⟩:=hPL2 x hx
         refine pq_same (B:=w.heap.size) (by rw[e1,e2];exact(HA00.out.pt x0 h0).procs) fun k hk e=>(HO2.out.trans hSon).block k hk fun hpk=>HA00.out.sp x0 h0 k (by rw[← e1];exact e) hpk)
        rw[HPQ.out] at HRT
        clear hS hSon hAA hPL2
        go_wp2_with fail
        refine HRT.out.mono ?_
        rintro e w5⟨rfl,hb5⟩
        obtain⟨zr,hzre⟩:∃ zr,zr=(whereF (P'.map (pq w)) C' (T.map ndT)).1:=⟨_,rfl⟩
        rw[← hzre]
        have HZRE:=hid hzre
        clear hzre
        have hS5:=HS8.out.bel hb5
        have hb3:p b:=HPB.out
        have HFIN:Hid (∀ wx P2,AskS p B b A m c f A1 A2 n1 n2 c1 c2 B1 P C W2 wx P2 C'→(∀ x∈P2,In64 x.per)→ShortOk T P2→DoneR w P2 C' T→AsksP p B b A m c f A1 A2 A3 n1 n2 n3 c1 c2 c3 P C T B1 w (.returned (.agg #[.slice A1 n1 c1,.slice A2 n2 c2,.slice A3 n3 c3])) (set3 wx (gc+1) (.slice A1 n1 c1) (.slice A2 n2 c2) (.slice A3 n3 c3))):=hid fun wx P2 h hi6 hso hdn=>by
         obtain⟨h1,h2,⟨at9,h3⟩,h4,h5,h6⟩:=h.res HO2.out (gc+1) (.slice A1 n1 c1) (.slice A2 n2 c2) (.slice A3 n3 c3) (by have:=HGC.out;omega) HPL.out hb3 (fun k e=>(HPP.out k).2 (.inr (.inl e))) (fun k e=>(HPP.out k).2 (.inr (.inr e)))
         exact⟨P2,C',at9,rfl,h1,h2,h.pm,h.cm,h3,h4,hi6,HLO.out,hso,h5,h6,hdn⟩
        have HRV:Hid (∀ wx,Only p W2 wx→Vec wx (gc+1) 3 fun j=>if j=0 then .slice none 0 0 else if j=1 then .slice none 0 0 else .slice none 0 0):=hid fun wx ho=>HRS2.out.keep (ho.block (gc+1) HRS2.out.lt (fun e=>by have:=HPL.out _ e;have:=HGC.out;omega)) ho.size
        have HEND:Hid (∀ wx P2,AskS p B b A m c f A1 A2 n1 n2 c1 c2 B1 P C W2 wx P2 C'→wx.cell? ⟨gc,0,none⟩=some (.slice A1 n1 c1)∧wx.cell? ⟨gc,1,none⟩=some (.slice A2 n2 c2)∧wx.cell? ⟨gc,2,none⟩=some (.slice A3 n3 c3)∧wx.cell? ⟨gc+1,0,none⟩=some (.slice none 0 0)∧wx.cell? ⟨gc+1,1,none⟩=some (.slice none 0 0)∧wx.cell? ⟨gc+1,2,none⟩=some (.slice none 0 0)∧wx.frozen? ⟨gc+1,0,none⟩=false∧wx.frozen? ⟨gc+1,1,none⟩=false∧wx.frozen? ⟨gc+1,2,none⟩=false∧(set3 wx (gc+1) (.slice A1 n1 c1) (.slice A2 n2 c2) (.slice A3 n3 c3)).cell? ⟨gc+1,0,none⟩=some (.slice A1 n1 c1)∧(set3 wx (gc+1) (.slice A1 n1 c1) (.slice A2 n2 c2) (.slice A3 n3 c3)).cell? ⟨gc+1,1,none⟩=some (.slice A2 n2 c2)∧(set3 wx (gc+1) (.slice A1 n1 c1) (.slice A2 n2 c2) (.slice A3 n3 c3)).cell? ⟨gc+1,2,none⟩=some (.slice A3 n3 c3)):=hid fun wx P2 h=>by
         obtain⟨a0,a1,a2⟩:=HBW.out wx h.on
         have hv:=HRV.out wx h.on
         obtain⟨c0',c1',c2'⟩:=hv.three
         obtain⟨d0,d1,d2⟩:=set3_cells hv (.slice A1 n1 c1) (.slice A2 n2 c2) (.slice A3 n3 c3)
         exact⟨a0,a1,a2,c0',c1',c2',hv.thaw _,hv.thaw _,hv.thaw _,d0,d1,d2⟩
        have HS5':=hid hS5
        clear hS5 hb5 HRT m0 m1 m2 hb3
        by_cases hzr:zr=0
        ·have hz0:(zr != 0)=false:=by simp[hzr]
         obtain⟨m0,m1,m2,r0,r1,r2,s0,s1,s2,d0,d1,d2⟩:=HEND.out w5 _ HS5'.out
         have D0:=hid d0
         have D1:=hid d1
         have D2:=hid d2
         clear d0 d1 d2
         go_wp2_with fail
         exact bodyPost_ret (results_runC rfl rfl D0.out D1.out D2.out) rfl (HFIN.out w5 _ HS5'.out HPER.out HSHO.out (.inr (HZRE.out.symm.trans hzr)))
        ·have hz0:(zr != 0)=true:=bne_iff_ne.2 hzr
         obtain⟨m0,m1,m2⟩:=HBW.out _ HS5'.out.on
         go_wp2_with fail
         clear m0 m1 m2
         go_loopw [21,160] (fun _ s wx=>∃(i:Nat) (P2:List PtV),i≤n1∧s=.int .i64 i∧AskS p B b A m c f A1 A2 n1 n2 c1 c2 B1 P C W2 wx P2 C'∧(∀ x∈P2,In64 x.per)∧ShortOk T P2∧∀ k x,k < i→P2[k]? = some x→x.bud=0∧x.per=0) (fun _ s _=>n1 - (intOf s).toNat)
         case atStart=>exact⟨0,P',by omega,rfl,HS5'.out,HPER.out,HSHO.out,fun k x hk=>by omega⟩
         case round =>
          obtain⟨i,P2,hi,rfl,hS,hi6,hso,hzz⟩:=hrel
          have HZZ:=hid hzz
          clear hzz
          have HI6:=hid hi6
          have HSO:=hid hso
          clear hi6 hso
          by_cases hlt:i < n1
          ·obtain⟨g1,rfl,hBg1,hg1l⟩:=hS.pp.own.block (by omega)
           have hlp:=hS.pp.len
           obtain⟨x,hx⟩:∃ x,P2[i]? = some x:=⟨_,List.getElem?_eq_getElem (by omega)⟩
           have e0:=hS.pp.cell pcl_len (k:=1) hx (by omega) rfl
           have e1:=hS.pp.cell pcl_len (k:=2) hx (by omega) rfl
           obtain⟨f1,f2⟩:=e0
           obtain⟨f3,f4⟩:=e1
           obtain⟨m0,m1,m2⟩:=HBW.out _ hS.on
           have hfin:=(hS.bel (w':=wr.drew) (Below.refl _ _).drew).ask hx 0 0 hb1 ((HPP.out g1).2 (.inr (.inl rfl))) (H12.out g1 rfl)
           have hfin2:=(hS.ask hx 0 0 hb1 ((HPP.out g1).2 (.inr (.inl rfl))) (H12.out g1 rfl))
           have HF:=hid hfin
           have HF2:=hid (hfin2.bel (Below.refl _ _).drew)
           clear hfin hfin2 hS hx hlp
           go_upto_region 45 with fail
           go_region
           all_goals
            go_wp2_with fail
            go_roundw
            case rel =>
             refine⟨i+1,_,by omega,by go_num,by first | exact HF.out | exact HF2.out,fun u hu=>?_,HSO.out.none,zero_more HZZ.out⟩
             rcases List.mem_or_eq_of_mem_set hu with hu | rfl
             ·exact HI6.out u hu
             ·unfold In64;dsimp only;omega
            case measure=>simp[intOf];omega
          ·obtain⟨m0,m1,m2,r0,r1,r2,s0,s1,s2,d0,d1,d2⟩:=HEND.out wr _ hS
           have D0:=hid d0
           have D1:=hid d1
           have D2:=hid d2
           have HS9:=hid hS
           have HZA:Hid (∀ x∈P2,x.bud=0∧x.per=0):=hid fun x hx=>by
            obtain⟨k,hk⟩:=List.getElem?_of_mem hx
            exact HZZ.out k x (by have h1:=(List.getElem?_eq_some_iff.1 hk).1;have h2:=hS.pp.len;omega) hk
           clear d0 d1 d2 hS
           go_wp2_with fail
           exact bodyPost_ret (results_runC rfl rfl D0.out D1.out D2.out) rfl (HFIN.out wr _ HS9.out HI6.out HSO.out (.inl HZA.out))
theorem config_anyr(B b:Nat)(A:Option Addr)(m c:Nat)(f:Nat→Int)(hm:m≤140737488351232)(at_:Nat)(w:World)(T0:TapeW w B b A m c f at_):
  Calls Tryz.prog 8 #[.pointer (some ⟨b,0,none⟩)] w (CfgZ RtW B b A m c f w):=by
 have hbw:=bl1 w (.cells #[.slice none 0 0,.slice none 0 0,.slice none 0 0] 26);have hres:=box_vec w (.slice none 0 0) (.slice none 0 0) (.slice none 0 0) 26;have hb2:=bl1 (w.alloc (.cells #[.slice none 0 0,.slice none 0 0,.slice none 0 0] 26)) (.cells #[.slice none 0 0,.slice none 0 0,.slice none 0 0] 26);have hcf:=box_vec (w.alloc (.cells #[.slice none 0 0,.slice none 0 0,.slice none 0 0] 26)) (.slice none 0 0) (.slice none 0 0) (.slice none 0 0) 26;have hsz1:(w.alloc (.cells #[.slice none 0 0,.slice none 0 0,.slice none 0 0] 26)).heap.size=w.heap.size+1:=by simp
 rw[hsz1] at hcf;have hszW:((w.alloc (.cells #[.slice none 0 0,.slice none 0 0,.slice none 0 0] 26)).alloc (.cells #[.slice none 0 0,.slice none 0 0,.slice none 0 0] 26)).heap.size=w.heap.size+1+1:=by simp
 have HSZ:=hid hszW;have hres2:=hres.on hb2;have hb3:=hbw.trans (hb2.mono hbw.size);have HT0:=hid (T0.below hb3 T0.lt);have HBL:=hid T0.lt;have HB3:=hid hb3;have HRES:=hid hres2;have HCF:=hid hcf;clear hbw hres hb2 hcf hsz1 hres2 hb3 T0 hszW;go_enter Tryz.func8,Tryz.ntmps8;go_upto_region 2 with fail;generalize (w.alloc (.cells #[.slice none 0 0,.slice none 0 0,.slice none 0 0] 26)).alloc (.cells #[.slice none 0 0,.slice none 0 0,.slice none 0 0] 26)=W at HT0 HB3 HRES HCF HSZ ⊢;obtain⟨gr,hgr⟩:∃ gr,gr=w.heap.size:=⟨_,rfl⟩;rw[← hgr] at HRES HCF HBL HSZ ⊢;have HGR:=hid hgr;clear hgr;go_wp2_with fail;have hCB:CfgB b w gr (gr+1) W.heap.size:=⟨HBL.out,HGR.out,rfl,HSZ.out⟩;have HCB:=hid hCB;have hS0:CfgS B b A m c f w gr (gr+1) W.heap.size none none none 0 0 0 0 0 0 [] [] [] W:=⟨⟨_,HT0.out⟩,⟨HB3.out.os,HB3.out.tape,HB3.out.output,HB3.out.size,fun k hk _=>HB3.out.block k hk⟩,HCF.out,HRES.out,OwnB.nil _ _ _ _,OwnB.nil _ _ _ _,OwnB.nil _ _ _ _,(fun x hx=>by cases hx),(fun x hx=>by cases hx),(fun k e=>by cases e),(fun k e=>by cases e),(fun k e=>by cases e)⟩;have HS0:=hid hS0;clear hCB hS0;refine(next_at B b A m c f at_ 4 _ W HT0.out rfl (by omega) (by omega) hm).mono ?_;rintro e w1⟨k0,at1,hk0,rfl,T1,G1⟩;have hS1:=HS0.out.next HCB.out T1 G1;clear T1 G1;go_wp2_with fail;go_loopw [5,6,7,8] (fun s _ _ _ wx=>∃(i c1:Nat) (A1:Option Addr) (P:List PtV),i≤1+k0∧s=.int .i64 i∧CfgS B b A m c f w gr (gr+1) W.heap.size A1 none none i 0 0 c1 0 0 P [] [] wx∧PtsN P) (fun s _ _ _ _=>1+k0 - (intOf s).toNat)
 case atStart=>exact⟨0,0,none,[],by omega,rfl,hS1,fun i x hx=>by cases hx⟩
 obtain⟨i,c1,A1,P,hi,rfl,hS,hbu0⟩:=hrel;have HBU:=hid hbu0;clear hbu0;clear hS1;by_cases hlt:i < 1+k0
 ·have hlti:(i:Int) < 1+(k0:Int):=by omega
  have HS:=hid hS;obtain⟨at2,T2⟩:=hS.tp;clear hS;go_upto_region 6 with fail;go_cut [6] from 21 to 33 (fun s6 wx=>∃(gx:Nat) (nm:ByteArray) (sc st:Bool),s6=.pointer (some ⟨gx,0,none⟩)∧nm=nmL i∧wr.heap.size≤gx∧Only (fun k=>k=b) wr wx∧Vec wx gx 11 (fun j=>(pcl ⟨nm,0,0,sc,st,none,0,0,0,0,0,0,0⟩)[j]?.getD (.bool false))∧CfgS B b A m c f w gr (gr+1) W.heap.size A1 none none i 0 0 c1 0 0 P [] [] wx)
  case first =>
   rcases(by omega:i=0∨i=1∨i=2∨i=3) with rfl | rfl | rfl | rfl
   ·go_wp2_with fail;refine(next_at B b A m c f at2 5 _ wr T2 rfl (by omega) (by omega) hm).mono ?_;rintro e w2⟨k1,at3,_,rfl,T3,G3⟩;have hS3:=HS.out.next HCB.out T3 G3;have HS3:=hid hS3;have HO3:=hid (Only.gb (p:=fun k=>k=b) G3 rfl);have HG3:=hid G3.size;clear hS3 G3 T2;go_wp2_with fail;refine(next_at B b A m c f at3 8 _ w2 T3 rfl (by omega) (by omega) hm).mono ?_;rintro e w3⟨k2,at4,_,rfl,T4,G4⟩;have hS4:=HS3.out.next HCB.out T4 G4;have HS4:=hid hS4;have HO4:=hid (HO3.out.trans (Only.gb (p:=fun k=>k=b) G4 rfl));have HG4:=hid (Nat.le_trans HG3.out G4.size);clear hS4 G4 T3 T4 HS3;go_wp2_with fail;go_meet
    case rel =>
     exact⟨w3.heap.size,({ data:=#[112] }:ByteArray)++Utf8.encode 97,((k1:Int) == 0),((k2:Int) == 0),rfl,rfl,HG4.out,HO4.out.trans (Only.bel (bl1 w3 _)),Vec.lit w3 _ _ 11 _ (fun j hj=>by rcases(by omega:j=0∨j=1∨j=2∨j=3∨j=4∨j=5∨j=6∨j=7∨j=8∨j=9∨j=10) with rfl | rfl | rfl | rfl | rfl | rfl | rfl | rfl | rfl | rfl | rfl <;> rfl),HS4.out.bel HCB.out (bl1 w3 _)⟩
   ·go_wp2_with fail;refine(next_at B b A m c f at2 5 _ wr T2 rfl (by omega) (by omega) hm).mono ?_;rintro e w2⟨k1,at3,_,rfl,T3,G3⟩;have hS3:=HS.out.next HCB.out T3 G3;have HS3:=hid hS3;have HO3:=hid (Only.gb (p:=fun k=>k=b) G3 rfl);have HG3:=hid G3.size;clear hS3 G3 T2;go_wp2_with fail;refine(next_at B b A m c f at3 8 _ w2 T3 rfl (by omega) (by omega) hm).mono ?_;rintro e w3⟨k2,at4,_,rfl,T4,G4⟩;have hS4:=HS3.out.next HCB.out T4 G4;have HS4:=hid hS4;have HO4:=hid (HO3.out.trans (Only.gb (p:=fun k=>k=b) G4 rfl));have HG4:=hid (Nat.le_trans HG3.out G4.size);clear hS4 G4 T3 T4 HS3;go_wp2_with fail;go_meet
    case rel =>
     exact⟨w3.heap.size,({ data:=#[112] }:ByteArray)++Utf8.encode 98,((k1:Int) == 0),((k2:Int) == 0),rfl,rfl,HG4.out,HO4.out.trans (Only.bel (bl1 w3 _)),Vec.lit w3 _ _ 11 _ (fun j hj=>by rcases(by omega:j=0∨j=1∨j=2∨j=3∨j=4∨j=5∨j=6∨j=7∨j=8∨j=9∨j=10) with rfl | rfl | rfl | rfl | rfl | rfl | rfl | rfl | rfl | rfl | rfl <;> rfl),HS4.out.bel HCB.out (bl1 w3 _)⟩
   ·go_wp2_with fail;refine(next_at B b A m c f at2 5 _ wr T2 rfl (by omega) (by omega) hm).mono ?_;rintro e w2⟨k1,at3,_,rfl,T3,G3⟩;have hS3:=HS.out.next HCB.out T3 G3;have HS3:=hid hS3;have HO3:=hid (Only.gb (p:=fun k=>k=b) G3 rfl);have HG3:=hid G3.size;clear hS3 G3 T2;go_wp2_with fail;refine(next_at B b A m c f at3 8 _ w2 T3 rfl (by omega) (by omega) hm).mono ?_;rintro e w3⟨k2,at4,_,rfl,T4,G4⟩;have hS4:=HS3.out.next HCB.out T4 G4;have HS4:=hid hS4;have HO4:=hid (HO3.out.trans (Only.gb (p:=fun k=>k=b) G4 rfl));have HG4:=hid (Nat.le_trans HG3.out G4.size);clear hS4 G4 T3 T4 HS3;go_wp2_with fail;go_meet
    case rel =>
     exact⟨w3.heap.size,({ data:=#[112] }:ByteArray)++Utf8.encode 99,((k1:Int) == 0),((k2:Int) == 0),rfl,rfl,HG4.out,HO4.out.trans (Only.bel (bl1 w3 _)),Vec.lit w3 _ _ 11 _ (fun j hj=>by rcases(by omega:j=0∨j=1∨j=2∨j=3∨j=4∨j=5∨j=6∨j=7∨j=8∨j=9∨j=10) with rfl | rfl | rfl | rfl | rfl | rfl | rfl | rfl | rfl | rfl | rfl <;> rfl),HS4.out.bel HCB.out (bl1 w3 _)⟩
   go_wp2_with fail;refine(next_at B b A m c f at2 5 _ wr T2 rfl (by omega) (by omega) hm).mono ?_;rintro e w2⟨k1,at3,_,rfl,T3,G3⟩;have hS3:=HS.out.next HCB.out T3 G3;have HS3:=hid hS3;have HO3:=hid (Only.gb (p:=fun k=>k=b) G3 rfl);have HG3:=hid G3.size;clear hS3 G3 T2;go_wp2_with fail;refine(next_at B b A m c f at3 8 _ w2 T3 rfl (by omega) (by omega) hm).mono ?_;rintro e w3⟨k2,at4,_,rfl,T4,G4⟩;have hS4:=HS3.out.next HCB.out T4 G4;have HS4:=hid hS4;have HO4:=hid (HO3.out.trans (Only.gb (p:=fun k=>k=b) G4 rfl));have HG4:=hid (Nat.le_trans HG3.out G4.size);clear hS4 G4 T3 T4 HS3;go_wp2_with fail;go_meet
   case rel =>
    exact⟨w3.heap.size,({ data:=#[112] }:ByteArray)++Utf8.encode 100,((k1:Int) == 0),((k2:Int) == 0),rfl,rfl,HG4.out,HO4.out.trans (Only.bel (bl1 w3 _)),Vec.lit w3 _ _ 11 _ (fun j hj=>by rcases(by omega:j=0∨j=1∨j=2∨j=3∨j=4∨j=5∨j=6∨j=7∨j=8∨j=9∨j=10) with rfl | rfl | rfl | rfl | rfl | rfl | rfl | rfl | rfl | rfl | rfl <;> rfl),HS4.out.bel HCB.out (bl1 w3 _)⟩
  obtain⟨gx,nm,sc,st,rfl,hnmL,hgx,hRC,hV,hS⟩:=hcut;have hnm:nm.size≤16:=by
   rw[hnmL];rcases(by omega:i=0∨i=1∨i=2∨i=3) with rfl | rfl | rfl | rfl <;> exact Nat.le_of_ble_eq_true (by kernel_rfl)
  have HNML:=hid hnmL;clear hnmL;have HPL:Hid (P.length=i):=hid hS.pp.len;obtain⟨wo,hwo⟩:∃ wo,wo=wr:=⟨wr,rfl⟩;subst hwo;have HAX:Hid (∀ k,obk A1=some k→k < gx):=hid (fun k e=>by have:=(HS.out.pp.own.obk_ge e).2;omega);have hbwr:b < wo.heap.size:=T2.lt;have hbg:b < gx:=by omega
  have HGX:Hid (W.heap.size≤gx):=hid (by have h1:=HS.out.cf.lt;have h2:=HSZ.out;omega);have HRC:Hid (Rnd B b A m c f wo wc):=hid ⟨hRC,hS.tp⟩;obtain⟨at3,T3⟩:=hS.tp;have HV3:=hid hV;clear hS hV T2;go_wp2_with fail;refine(next_at B b A m c f at3 2 _ wc T3 rfl (by omega) (by omega) hm).mono ?_;rintro e w2⟨k3,at4,hk3,rfl,T4,G4⟩;have hS4:=trivial;have hV4:=HV3.out.keep (G4.block gx HV3.out.lt (fun e=>by injection e with e;omega)) G4.size;have HR:=hid (show Rnd B b A m c f wo w2 from ⟨HRC.out.on.trans (Only.gb G4 rfl),⟨_,T4⟩⟩);have hPs:PrtS gx ⟨nm,0,0,sc,st,none,0,0,0,0,0,0,0⟩ [] w2:=⟨hV4,OwnV.nil _ _ _ _⟩;have hh0:HealP ⟨nm,0,0,sc,st,none,0,0,0,0,0,0,0⟩:=by unfold HealP;dsimp only;omega
  have HPS:=hid hPs;clear hV4 hPs T4 G4 hS4 T3;go_wp2_with fail;go_loopw [7] (fun s wx=>∃(k:Int) (x:PtV) (L:List (Int×Int)),s=.int .i64 k∧-1≤k∧k≤1∧(x.pn:Int)+k=(k3:Int)∧((x.per=0∧x.bud=0)∧x.name=nm∧HealP x∧∀ q∈L,PcOk q.1 q.2)∧x.name.size≤16∧Rnd B b A m c f wo wx∧PrtS gx x L wx) (fun s _=>(intOf s+1).toNat)
  case atStart=>exact⟨k3,_,[],rfl,by omega,by omega,by show ((0:Nat):Int)+_=_;omega,⟨⟨rfl,rfl⟩,rfl,hh0,fun q hq=>by cases hq⟩,hnm,HR.out,HPS.out⟩
  obtain⟨k,x,L,rfl,hk1,hk2,hpn,hper,hnam,hR,hS⟩:=hrel;by_cases hkn:0≤k
  ·have hpn2:x.pn≤1:=by omega
   clear HR HPS;go_wp2_with fail;refine Rgs.region (by kernel_rfl) (by kernel_rfl) (PcV b gx x L) (fun live _=>PcW B b A m c f wo gx x L live) ⟨hR.bel hbwr (Below.refl _ _).drew,hS.ve.lt,fun _=>hS.ve.drewN 1,fun _=>hS.pr⟩ (Rgs.steps_of ?_) ?_
   ·refine⟨?_,?_,?_,?_,?_,?_,?_,?_,?_,?_,?_,?_,trivial⟩<;>intro a w1 live S E D C h0 hk hW
    ·have e6:a.eval (.tmp 6)=.pointer (some ⟨gx,0,none⟩):=E 6 rfl;exact Rgs.val rfl (Reg.wanted_free rfl) (.pointer (some ⟨gx,5,none⟩)) (by have c:=Reg.consts a;generalize a.eval=ρ at *;simp[execOp,go_sem,c.1,c.2,e6]) (rfl) (hW.upd _)
    ·have d0:_=_:=D 0 rfl _ _ rfl rfl;have l9:=Reg.not_live C h0 (j:=9) rfl rfl;have l11:=Reg.not_live C l9 (j:=11) rfl rfl;have hc:=(hW.ve l11).cell 5 (by omega);have hc2:w1.cell? ⟨gx,5,none⟩=some (.slice x.pa x.pn x.pc):=hc;clear hc;exact Rgs.va (.slice x.pa x.pn x.pc) (hW.upd _)
    ·have e0:a.eval (.tmp 0)=.pointer (some ⟨b,0,none⟩):=E 0 rfl;exact Rgs.val rfl (Reg.wanted_free rfl) (.pointer (some ⟨b,0,none⟩)) (by have c:=Reg.consts a;generalize a.eval=ρ at *;simp[execOp,go_sem,c.1,c.2,e0]) (rfl) (hW.upd _)
    ·have d2:_=_:=D 2 rfl _ _ rfl rfl;obtain⟨at5,T5⟩:=hW.rn.tp;refine Rgs.call rfl (Reg.wanted_free rfl) 21 #[.pointer (some ⟨b,0,none⟩),.int .i64 6] (by have c:=Reg.consts a;generalize a.eval=ρ at *;simp[execOp,go_sem,c.1,c.2,d2]) ?_;refine(next_at B b A m c f at5 6 _ w1 T5 rfl (by omega) (by omega) hm).mono ?_;rintro e w5⟨k5,at6,hk5,rfl,T6,G6⟩;exact⟨_,rfl,⟨k5,hk5,rfl⟩,(hW.next hbg T6 G6).upd _,fun j v _ h=>h.gb hbg G6 j v⟩
    ·obtain⟨k3,hk3,d3⟩:=D 3 rfl _ _ rfl rfl;have h4:IntKind.i64.wrap (4*(k3:Int))=4*(k3:Int):=wrap_small _ (by omega) (by omega);exact Rgs.val rfl (Reg.wanted_free rfl) (.int .i64 (4*(k3:Int))) (by have c:=Reg.consts a;generalize a.eval=ρ at *;simp[execOp,go_sem,c.1,c.2,d3,h4]) (⟨_,rfl,by omega,by omega⟩) (hW.upd _)
    ·have e0:a.eval (.tmp 0)=.pointer (some ⟨b,0,none⟩):=E 0 rfl;exact Rgs.val rfl (Reg.wanted_free rfl) (.pointer (some ⟨b,0,none⟩)) (by have c:=Reg.consts a;generalize a.eval=ρ at *;simp[execOp,go_sem,c.1,c.2,e0]) (rfl) (hW.upd _)
    ·have d5:_=_:=D 5 rfl _ _ rfl rfl;obtain⟨at5,T5⟩:=hW.rn.tp;refine Rgs.call rfl (Reg.wanted_free rfl) 21 #[.pointer (some ⟨b,0,none⟩),.int .i64 4] (by have c:=Reg.consts a;generalize a.eval=ρ at *;simp[execOp,go_sem,c.1,c.2,d5]) ?_;refine(next_at B b A m c f at5 4 _ w1 T5 rfl (by omega) (by omega) hm).mono ?_;rintro e w5⟨k5,at6,hk5,rfl,T6,G6⟩;exact⟨_,rfl,⟨_,rfl,by omega,by omega⟩,(hW.next hbg T6 G6).upd _,fun j v _ h=>h.gb hbg G6 j v⟩
    ·obtain⟨k4,d4,u1,u2⟩:=D 4 rfl _ _ rfl rfl;obtain⟨k6,d6,u3,u4⟩:=D 6 rfl _ _ rfl rfl;have hbd:Tryz.prog.built 59 [(0,.int .i64 k4),(1,.int .i64 k6)]=some #[.int .i64 k4,.int .i64 k6]:=by rfl
     exact Rgs.val rfl (Reg.wanted_free rfl) (.agg #[.int .i64 k4,.int .i64 k6]) (by have c:=Reg.consts a;generalize a.eval=ρ at *;simp[execOp,go_sem,c.1,c.2,d4,d6,hbd]) (⟨_,_,rfl,u1,u2,u3,u4⟩) (hW.upd _)
    ·obtain⟨p7,q7,d7,u7⟩:=D 7 rfl _ _ rfl rfl;have l9:=Reg.not_live C h0 (j:=9) rfl rfl;refine Rgs.grow rfl (Reg.wanted_free rfl) (.slice (some ⟨w1.heap.size,0,none⟩) 1 1) (w1.alloc (.cells #[.int .i64 p7,.int .i64 q7] 59)) (by have c:=Reg.consts a;generalize a.eval=ρ at *;simp[execOp,go_sem,c.1,c.2,d7]) ⟨w1.heap.size,p7,q7,rfl,hW.lt,by simp,fun e=>by have:=((hW.pr l9).obk_ge e).2;omega,by simp[World.cell?_alloc_mark],by simp[World.cell?_alloc_mark],u7⟩ ((hW.bel hbwr (bl1 _ _)).upd _) (fun j v _ h=>h.bel (bl1 _ _) j v)
    ·have d1:_=_:=D 1 rfl _ _ rfl rfl;obtain⟨g,p8,q8,d8,hg1,hg2,hg3,hg4,hg5,u8⟩:=D 8 rfl _ _ rfl rfl;have hpr:=hW.pr h0;have hlt:=hW.lt;have l11:=Reg.not_live C h0 (j:=11) rfl rfl;obtain⟨A',c',w',hrun,h1,h2,h3⟩:=run_appX elPc w1 (gx+1) x.pa x.pn x.pc _ hpr ⟨g,0,none⟩ 1 1 [.int .i64 p8,.int .i64 q8] w1.heap.size (box2_rd hg4 hg5) rfl (by omega) (prc_one [(p8,q8)]) (by omega) (by unfold maxLen;omega) (by omega);refine Rgs.grow rfl (Reg.wanted_free rfl) (.slice A' (x.pn+1:Nat) c') w' ?_ ⟨A',c',(p8,q8),rfl,by rw[List.flatMap_append];exact h1,u8⟩ ⟨hW.rn.blw (g:=gx+1) (by omega) (by omega) h2,Nat.lt_of_lt_of_le hlt h2.size,fun e=>(hW.ve (Rgs.upd_off e)).below h2 (by omega),fun e=>absurd e (by rw[Rgs.upd_self];decide)⟩ ?_
     ·have c:=Reg.consts a;generalize a.eval=ρ at *;simp only[execOp,resolve,invoke,builtin,Sem.run_bind,Sem.run_pure,Result.andThen_ok,List.map_toArray,List.map_cons,List.map_nil,d1,d8,hrun]
     intro j v hj h;refine h.keep h2.size j v fun k hk hl=>?_;rcases hk with ⟨rfl,_⟩ | ⟨rfl,_⟩ | ⟨rfl,_,hne⟩
     ·rw[l11] at hj;cases hj
     ·rw[h0] at hj;cases hj
     exact h3.gb.block k hl (fun e=>hne e.symm)
    ·have e6:a.eval (.tmp 6)=.pointer (some ⟨gx,0,none⟩):=E 6 rfl;exact Rgs.val rfl (Reg.wanted_free rfl) (.pointer (some ⟨gx,5,none⟩)) (by have c:=Reg.consts a;generalize a.eval=ρ at *;simp[execOp,go_sem,c.1,c.2,e6]) (rfl) (hW.upd _)
    obtain⟨A',c',q9,d9,h1,u9⟩:=D 9 rfl _ _ rfl rfl;have d10:_=_:=D 10 rfl _ _ rfl rfl;have hve:=hW.ve h0;have hcl:w1.cell? ⟨gx,5,none⟩=some (.slice x.pa x.pn x.pc):=hve.cell 5 (by omega);have hfr:=hve.thaw 5;have hA':∀ g,A'=some ⟨g,0,none⟩→g≠gx:=fun g e e2=>by have:=(h1.obk_ge (b:=g) (by rw[e];rfl)).1;omega
    have hbl:Below gx w1 (w1.setCell ⟨gx,5,none⟩ (.slice A' (x.pn+1:Nat) c')):=(Below.refl _ _).setCell (p:=⟨gx,5,none⟩) (Nat.le_refl _) _;refine Rgs.store rfl (Reg.wanted_free rfl) (w1.setCell ⟨gx,5,none⟩ (.slice A' (x.pn+1:Nat) c')) ?_ ⟨A',c',q9,⟨(hve.set 5 _).congr fun j hj=>?_,h1.other _ _ hA'⟩,u9⟩ ⟨hW.rn.blw hgx hbg hbl,by simpa using hW.lt,fun e=>absurd e (by rw[Rgs.upd_self];decide),fun e=>absurd (Rgs.upd_off e) (by rw[hk 9 rfl];decide)⟩ ?_
    ·have c:=Reg.consts a;generalize a.eval=ρ at *;simp[execOp,go_sem,c.1,c.2,d9,d10,hcl,hfr]
    ·rcases(by omega:j=0∨j=1∨j=2∨j=3∨j=4∨j=5∨j=6∨j=7∨j=8∨j=9∨j=10) with rfl | rfl | rfl | rfl | rfl | rfl | rfl | rfl | rfl | rfl | rfl <;> rfl
    intro j v hj h;refine h.keep (by simp) j v fun k hk hl=>Below.heap_setCell _ _ _ _ ?_;rcases hk with ⟨rfl,_⟩ | ⟨rfl,hlt⟩ | ⟨rfl,hlt,_⟩
    ·rw[h0] at hj;cases hj
    all_goals exact fun e=>by have e:k=gx:=e;omega
   intro a w3 live hs hd E D Hl hW;obtain⟨A',c',q',hP,hq'⟩:PcV b gx x L 11 undef w3:=by
    obtain⟨v11,hv,_⟩:=D 11 _ rfl;exact hv
   rw[Rgs.act_ws a _ _ hs hd E [39,40,41,42,43,44,45,46,47,48,49] (by kernel_rfl)];simp only[List.foldl,List.setIfInBounds_toArray,List.set_cons_succ,List.set_cons_zero];have HP:=hid hP;have HRN:=hid hW.rn;clear E D Hl hW hP;generalize a.eval=ρ;clear a hs hd;go_wp2_with fail;go_roundw
   case rel=>exact⟨k - 1,{ x with pa:=A',pn:=x.pn+1,pc:=c' },L++[q'],by go_num,by omega,by omega,by show ((x.pn+1:Nat):Int)+(k - 1)=_;omega,⟨hper.1,hper.2.1,hper.2.2.1,fun q hq=>by
     rcases List.mem_append.1 hq with hq | hq
     ·exact hper.2.2.2 q hq
     simp at hq;subst hq;exact hq'⟩,hnam,HRN.out,HP.out⟩
   simp[intOf];omega
  have HR2:=hid hR;have HS2:=hid hS;clear hR hS HR HPS;go_wp2_with fail;go_loopw [8,50] (fun _ s wx=>∃(j:Nat) (x:PtV) (L:List (Int×Int)),j≤5∧s=.int .i64 j∧((x.per=0∧x.bud=0)∧x.name=nm∧HealP x∧∀ q∈L,PcOk q.1 q.2)∧(1≤x.pn∧x.pn≤2)∧x.name.size≤16∧Rnd B b A m c f wo wx∧PrtS gx x L wx) (fun _ s _=>5 - (intOf s).toNat)
  case atStart=>exact⟨0,x,L,by omega,rfl,hper,⟨by omega,by omega⟩,hnam,HR2.out,HS2.out⟩
  obtain⟨j,x,L,hj,rfl,hper,hpn,hnam,hR,hS⟩:=hrel;clear HR2 HS2;by_cases hj5:j < 5
  ·have hj5':(j:Int) < 5:=by omega
   obtain⟨at5,T5⟩:=hR.tp;have hbl:=bl1 wr (.cells #[.int .i64 0,.int .i64 1,.int .i64 0,.int .i64 2,.int .i64 1] 3);have T6:=T5.below hbl T5.lt;have hvl:Vec (wr.alloc (.cells #[.int .i64 0,.int .i64 1,.int .i64 0,.int .i64 2,.int .i64 1] 3)) wr.heap.size 5 (fun i=>(#[.int .i64 0,.int .i64 1,.int .i64 0,.int .i64 2,.int .i64 1]:Array Value)[i]?.getD (.int .i64 0)):=Vec.lit wr _ _ 5 _ fun i hi=>by
    rcases(by omega:i=0∨i=1∨i=2∨i=3∨i=4) with rfl | rfl | rfl | rfl | rfl <;> rfl
   have hbw2:b < wr.heap.size:=T5.lt;have HVL:=hid hvl;have HR3:=hid (hR.bel hbwr hbl);have HS3:=hid (hS.bel hbl);clear hR hS T5 hbl hvl;go_wp2_with fail;refine(next_at B b A m c f at5 5 _ _ T6 rfl (by omega) (by omega) hm).mono ?_;rintro e w5⟨k5,at7,hk5,rfl,T7,G7⟩;have hS4:=HS3.out.gb G7 hbg;have hR4:=HR3.out.next T7 G7;have hvl:=HVL.out.keep (G7.block wr.heap.size HVL.out.lt (fun e=>by injection e with e;omega)) G7.size;obtain⟨z,hz,hz2⟩:∃ z,w5.cell? ⟨wr.heap.size,k5,none⟩=some (.int .i64 z)∧(0≤z∧z≤2):=by
    rcases(by omega:k5=0∨k5=1∨k5=2∨k5=3∨k5=4) with rfl | rfl | rfl | rfl | rfl
    ·exact⟨_,hvl.cell 0 (by omega),by omega,by omega⟩
    ·exact⟨_,hvl.cell 1 (by omega),by omega,by omega⟩
    ·exact⟨_,hvl.cell 2 (by omega),by omega,by omega⟩
    ·exact⟨_,hvl.cell 3 (by omega),by omega,by omega⟩
    exact⟨_,hvl.cell 4 (by omega),by omega,by omega⟩
   have hfr:=hS4.ve.thaw (6+j);have hcl:=hS4.ve.cell (6+j) (by omega);obtain⟨x',f1,f2,_,f3,f3b,f4,f5,hS6⟩:=hS4.heal hj5 z hz2 hper.2.2.1;have hbl6:Below gx w5 (w5.setCell ⟨gx,6+j,none⟩ (.int .i64 z)):=(Below.refl _ _).setCell (p:=⟨gx,6+j,none⟩) (Nat.le_refl _) _;have HR6:=hid (hR4.blw hgx hbg hbl6);have HS6:=hid hS6;have hk5':(k5:Int) < 5:=by omega
   generalize wr.heap.size=gl at hz ⊢;generalize pvf x (6+j)=vo at hcl;clear hS4 hR4 hvl hS6 hbl6 T6 T7 G7 HVL HR3 HS3;go_wp2_with fail;go_roundw
   case rel=>exact⟨j+1,x',L,by omega,by go_num,⟨by rw[f3,f3b];exact hper.1,by rw[f4];exact hper.2.1,f5,hper.2.2.2⟩,by rw[f2];exact hpn,by rw[f4];exact hnam,HR6.out,HS6.out⟩
   simp[intOf];omega
  have hj5':¬ (j:Int) < 5:=by omega
  have hC:=HS.out.only HCB.out hR.on hR.tp;have hpts:∀ w',wr.heap.size≤w'.heap.size→PrtS gx x L w'→PtAt w' w'.heap.size x∧∀ k,obk x.pa=some k→W.heap.size≤k∧k < w'.heap.size∧obk A1≠some k∧obk (none:Option Addr)≠some k∧obk (none:Option Addr)≠some k:=fun w' hw hS'=>by
   refine⟨⟨by rw[hper.1.1];constructor <;> omega,by omega,by omega,hS'.at_ hper.2.2.2⟩,fun k hk=>?_⟩;have h1:=hS'.pr.obk_ge hk;have h2:=HGX.out;exact⟨by omega,h1.2,fun e=>by have:=HAX.out k e;omega,nofun,nofun⟩
  have HPX:Hid (PtsN (P++[x])):=hid (HBU.out.more HPL.out ⟨hper.2.1.trans HNML.out,hper.1.2,hper.1.1,hper.2.2.1,hpn,hS.pr.cap⟩);obtain⟨nm,bu,pe,sc,st,pa,pn,pc,h0,h1,h2,h3,h4⟩:=x;have q0:=hS.ve.cell 0 (by omega);have q1:=hS.ve.cell 1 (by omega);have q2:=hS.ve.cell 2 (by omega);have q3:=hS.ve.cell 3 (by omega);have q4:=hS.ve.cell 4 (by omega);have q5:=hS.ve.cell 5 (by omega);have q6:=hS.ve.cell 6 (by omega);have q7:=hS.ve.cell 7 (by omega);have q8:=hS.ve.cell 8 (by omega);have q9:=hS.ve.cell 9 (by omega);have q10:=hS.ve.cell 10 (by omega);simp only[pvf,pcl,List.getElem?_cons_succ,List.getElem?_cons_zero,Option.getD_some] at q0 q1 q2 q3 q4 q5 q6 q7 q8 q9 q10;have hbl:=bl1 wr (.cells #[.string nm,.int .i64 bu,.int .i64 pe,.bool sc,.bool st,.slice pa pn pc,.int .i64 h0,.int .i64 h1,.int .i64 h2,.int .i64 h3,.int .i64 h4] 57);have hC2:=hC.bel HCB.out hbl;have hS2:=hS.bel hbl;have hr2:=rdV_new wr #[.string nm,.int .i64 bu,.int .i64 pe,.bool sc,.bool st,.slice pa pn pc,.int .i64 h0,.int .i64 h1,.int .i64 h2,.int .i64 h3,.int .i64 h4] 57 ([(⟨nm,bu,pe,sc,st,pa,pn,pc,h0,h1,h2,h3,h4⟩:PtV)].flatMap pcl) rfl;have m0:wr.cell? ⟨gr+1,0,none⟩=some (.slice A1 i c1):=hC.cf.cell 0 (by omega);have hown:=hC2.pp.own;have hgl:=hC2.cf.lt;have hgcB:gr+1 < W.heap.size:=by have:=HSZ.out;omega
  have hsz:W.heap.size≤(wr.alloc (.cells #[.string nm,.int .i64 bu,.int .i64 pe,.bool sc,.bool st,.slice pa pn pc,.int .i64 h0,.int .i64 h1,.int .i64 h2,.int .i64 h3,.int .i64 h4] 57)).heap.size:=by
   have h1:=HGX.out;have h2:=hS2.ve.lt;omega
  have HST:Hid (∀ w4,Below W.heap.size (wr.alloc (.cells #[.string nm,.int .i64 bu,.int .i64 pe,.bool sc,.bool st,.slice pa pn pc,.int .i64 h0,.int .i64 h1,.int .i64 h2,.int .i64 h3,.int .i64 h4] 57)) w4→w4.cell? ⟨gr+1,0,none⟩=some (.slice A1 i c1)∧w4.frozen? ⟨gr+1,0,none⟩=false):=hid fun w4 hb4 =>
   ⟨(hb4.cell (p:=⟨gr+1,0,none⟩) hgcB).trans (hC2.cf.cell 0 (by omega)),(hb4.frozen (p:=⟨gr+1,0,none⟩) hgcB).trans (hC2.cf.thaw 0)⟩
  have HFI:Hid (∀ A4 c4 w4,OwnV 57 11 w4 W.heap.size A4 (i+1) c4 ((P++[(⟨nm,bu,pe,sc,st,pa,pn,pc,h0,h1,h2,h3,h4⟩:PtV)]).flatMap pcl)→Grew A1 A4 (wr.alloc (.cells #[.string nm,.int .i64 bu,.int .i64 pe,.bool sc,.bool st,.slice pa pn pc,.int .i64 h0,.int .i64 h1,.int .i64 h2,.int .i64 h3,.int .i64 h4] 57)) w4→CfgS B b A m c f w gr (gr+1) W.heap.size A4 none none (i+1) 0 0 c4 0 0 (P++[⟨nm,bu,pe,sc,st,pa,pn,pc,h0,h1,h2,h3,h4⟩]) [] [] (w4.setCell ⟨gr+1,0,none⟩ (.slice A4 (i+1:Nat) c4))):=hid fun A4 c4 w4 ho4 hg4 =>
   hC2.part HCB.out hg4 ho4 (hpts _ hbl.size hS2)
  clear hC hC2 hS hS2 hR hbl hgl hpts;go_wp2_with (at_builtin;go_loud (refine wpList_appX elPt rfl (.tmp 63) (.tmp 65) rfl rfl W.heap.size A1 i c1 _ rfl hown _ 1 1 _ _ rfl hr2 rfl Nat.one_pos (pcl_one _) (by omega) (by unfold maxLen;omega) hsz (i+1) rfl ((P++[(⟨nm,bu,pe,sc,st,pa,pn,pc,h0,h1,h2,h3,h4⟩:PtV)]).flatMap pcl) (by rw[List.flatMap_append]) ?_;intro A4 c4 w4 hw4 hb4 hg4;obtain⟨z0,z1⟩:=HST.out w4 hb4));go_roundw
  case rel=>exact⟨i+1,c4,A4,_,by omega,by go_num,HFI.out A4 c4 w4 hw4 hg4,HPX.out⟩
  simp[intOf];omega
 have hi1:1≤i:=by omega
 have hi4:i≤4:=by omega
 have hge:¬ (i:Int) < 1+(k0:Int):=by omega
 have e4:1+(k0:Int)=(i:Int):=by omega
 obtain⟨at2,T2⟩:=hS.tp;have HS:=hid hS;clear hS;go_wp2_with fail;refine(next_at B b A m c f at2 4 _ wr T2 rfl (by omega) (by omega) hm).mono ?_;rintro e w2⟨k4,at3,hk4,rfl,T3,G3⟩;have HS2:=hid (HS.out.next HCB.out T3 G3);clear T2 T3 G3 HS;go_wp2_with fail;clear e4 hge hlt hi hk0;go_loopw [9,10,11] (fun s _ _ wx=>∃(k:Int) (n2 c2:Nat) (A2:Option Addr) (C:List ChV),s=.int .i64 k∧0≤k∧k+n2≤3∧(∀ x∈C,ChNew i x)∧CfgS B b A m c f w gr (gr+1) W.heap.size A1 A2 none i n2 0 c1 c2 0 P C [] wx) (fun s _ _ _=>(intOf s).toNat)
 case atStart=>exact⟨k4,0,0,none,[],rfl,by omega,by omega,(fun x hx=>by cases hx),HS2.out⟩
 obtain⟨k,n2,c2,A2,C,rfl,hkk,hkn,hCo,hS⟩:=hrel;clear HS2;have HCO:=hid hCo;clear hCo;by_cases hgo:0 < k∧1 < i
 ·obtain⟨hk0,hi2⟩:=hgo;have hi2':(1:Int) < (i:Int):=by omega
  obtain⟨wo,hwo⟩:∃ wo,wo=wr:=⟨wr,rfl⟩;subst hwo;obtain⟨at5,T5⟩:=hS.tp;have hbwo:b < wo.heap.size:=T5.lt;have HS:=hid hS;clear hS;go_wp2_with fail;refine(next_at B b A m c f at5 i _ wo T5 rfl (by omega) (by omega) hm).mono ?_;rintro e w3⟨fr,at6,hfr,rfl,T6,G6⟩;have HR3:Hid (Rnd B b A m c f wo w3):=hid ⟨Only.gb G6 rfl,⟨_,T6⟩⟩;clear T5 T6 G6;go_wp2_with fail;refine Rgs.region (by kernel_rfl) (by kernel_rfl) (ChqV b wo.heap.size i fr) (ChqW B b A m c f wo i) ⟨HR3.out.bel hbwo (Below.refl _ _).drew,(fun e=>absurd e (by decide)),(fun e=>absurd e (by decide))⟩ (Rgs.steps_of ?_) ?_
  ·refine⟨?_,?_,?_,?_,?_,?_,?_,?_,?_,?_,?_,?_,?_,?_,?_,?_,?_,?_,?_,?_,?_,trivial⟩<;>intro a w1 live S E D C h0 hk hW
   ·have e10:a.eval (.tmp 10)=.int .i64 (fr:Int):=E 10 rfl;exact Rgs.val rfl (Reg.wanted_free rfl) (.int .i64 (fr:Int)) (by have c:=Reg.consts a;generalize a.eval=ρ at *;simp[execOp,go_sem,c.1,c.2,e10]) (rfl) (hW.upd 0 81 _)
   ·have e10:a.eval (.tmp 10)=.int .i64 (fr:Int):=E 10 rfl;exact Rgs.val rfl (Reg.wanted_free rfl) (.int .i64 (fr:Int)) (by have c:=Reg.consts a;generalize a.eval=ρ at *;simp[execOp,go_sem,c.1,c.2,e10]) (rfl) (hW.upd 1 82 _)
   ·have d1:a.eval (.tmp 82)=.int .i64 (fr:Int):=D 1 rfl _ _ rfl rfl;have h4:IntKind.i64.wrap ((fr:Int)+1)=(fr:Int)+1:=wrap_small _ (by omega) (by omega);exact Rgs.val rfl (Reg.wanted_free rfl) (.int .i64 ((fr:Int)+1)) (by have c:=Reg.consts a;generalize a.eval=ρ at *;simp[execOp,go_sem,c.1,c.2,d1,h4]) (rfl) (hW.upd 2 83 _)
   ·have e0:a.eval (.tmp 0)=.pointer (some ⟨b,0,none⟩):=E 0 rfl;exact Rgs.val rfl (Reg.wanted_free rfl) (.pointer (some ⟨b,0,none⟩)) (by have c:=Reg.consts a;generalize a.eval=ρ at *;simp[execOp,go_sem,c.1,c.2,e0]) (rfl) (hW.upd 3 84 _)
   ·have e4:a.eval (.tmp 4)=.int .i64 (i:Int):=E 4 rfl;exact Rgs.val rfl (Reg.wanted_free rfl) (.int .i64 (i:Int)) (by have c:=Reg.consts a;generalize a.eval=ρ at *;simp[execOp,go_sem,c.1,c.2,e4]) (rfl) (hW.upd 4 85 _)
   ·have d4:a.eval (.tmp 85)=.int .i64 (i:Int):=D 4 rfl _ _ rfl rfl;have h4:IntKind.i64.wrap ((i:Int) - 1)=(i:Int) - 1:=wrap_small _ (by omega) (by omega);exact Rgs.val rfl (Reg.wanted_free rfl) (.int .i64 ((i:Int) - 1)) (by have c:=Reg.consts a;generalize a.eval=ρ at *;simp[execOp,go_sem,c.1,c.2,d4,h4]) (rfl) (hW.upd 5 86 _)
   ·have d3:_=_:=D 3 rfl _ _ rfl rfl;have d5:a.eval (.tmp 86)=.int .i64 ((i:Int) - 1):=D 5 rfl _ _ rfl rfl;obtain⟨at5,T5⟩:=hW.rn.tp;refine Rgs.call rfl (Reg.wanted_free rfl) 21 #[.pointer (some ⟨b,0,none⟩),.int .i64 ((i:Int) - 1)] (by have c:=Reg.consts a;generalize a.eval=ρ at *;simp[execOp,go_sem,c.1,c.2,d3,d5]) ?_;refine(next_at B b A m c f at5 (i - 1) _ w1 T5 (by omega) (by omega) (by omega) hm).mono ?_;rintro e w5⟨k5,at6,hk5,rfl,T6,G6⟩;exact⟨_,rfl,⟨k5,hk5,rfl⟩,(hW.next hbwo T6 G6).upd 6 87 _ (by decide) (by decide),fun j v _ h=>h.gb hbwo G6 j v⟩
   ·have d2:a.eval (.tmp 83)=.int .i64 ((fr:Int)+1):=D 2 rfl _ _ rfl rfl;obtain⟨k6,hk6,d6⟩:=D 6 rfl _ _ rfl rfl;have h4:IntKind.i64.wrap ((fr:Int)+1+(k6:Int))=(fr:Int)+1+(k6:Int):=wrap_small _ (by omega) (by omega);exact Rgs.val rfl (Reg.wanted_free rfl) (.int .i64 ((fr:Int)+1+(k6:Int))) (by have c:=Reg.consts a;generalize a.eval=ρ at *;simp[execOp,go_sem,c.1,c.2,d2,d6,h4]) (⟨k6,hk6,rfl⟩) (hW.upd 7 88 _)
   ·have e4:a.eval (.tmp 4)=.int .i64 (i:Int):=E 4 rfl;exact Rgs.val rfl (Reg.wanted_free rfl) (.int .i64 (i:Int)) (by have c:=Reg.consts a;generalize a.eval=ρ at *;simp[execOp,go_sem,c.1,c.2,e4]) (rfl) (hW.upd 8 89 _)
   ·obtain⟨k7,hk7,d7⟩:=D 7 rfl _ _ rfl rfl;have d8:a.eval (.tmp 89)=.int .i64 (i:Int):=D 8 rfl _ _ rfl rfl;have hne:¬ (i:Int)=0:=by omega
    have hne2:¬ i=0:=by omega
    have htm:((fr:Int)+1+(k7:Int)).tmod (i:Int)=(((fr+1+k7) % i:Nat):Int):=by rw[show (fr:Int)+1+(k7:Int)=((fr+1+k7:Nat):Int) by omega];rfl
    exact Rgs.val rfl (Reg.wanted_free rfl) (.int .i64 (((fr+1+k7) % i:Nat):Int)) (by have c:=Reg.consts a;generalize a.eval=ρ at *;simp[execOp,go_sem,c.1,c.2,d7,d8,htm,hne,hne2]) (⟨_,⟨Nat.mod_lt _ (by omega),round_ne hfr hk7⟩,rfl⟩) (hW.upd 9 90 _)
   ·have e0:a.eval (.tmp 0)=.pointer (some ⟨b,0,none⟩):=E 0 rfl;exact Rgs.val rfl (Reg.wanted_free rfl) (.pointer (some ⟨b,0,none⟩)) (by have c:=Reg.consts a;generalize a.eval=ρ at *;simp[execOp,go_sem,c.1,c.2,e0]) (rfl) (hW.upd 10 91 _)
   ·have d10:_=_:=D 10 rfl _ _ rfl rfl;obtain⟨at5,T5⟩:=hW.rn.tp;refine Rgs.call rfl (Reg.wanted_free rfl) 21 #[.pointer (some ⟨b,0,none⟩),.int .i64 2] (by have c:=Reg.consts a;generalize a.eval=ρ at *;simp[execOp,go_sem,c.1,c.2,d10]) ?_;refine(next_at B b A m c f at5 2 _ w1 T5 rfl (by omega) (by omega) hm).mono ?_;rintro e w5⟨k5,at6,hk5,rfl,T6,G6⟩;exact⟨_,rfl,⟨_,rfl⟩,(hW.next hbwo T6 G6).upd 11 92 _ (by decide) (by decide),fun j v _ h=>h.gb hbwo G6 j v⟩
   ·obtain⟨k11,d11⟩:=D 11 rfl _ _ rfl rfl;exact Rgs.val rfl (Reg.wanted_free rfl) (.bool (k11 == 0)) (by have c:=Reg.consts a;generalize a.eval=ρ at *;simp[execOp,go_sem,c.1,c.2,d11]) (⟨_,rfl⟩) (hW.upd 12 93 _)
   ·refine Rgs.grow rfl (Reg.wanted_free rfl) (.slice (some ⟨w1.heap.size,0,none⟩) 3 3) (w1.alloc (.cells #[.int .u32 4294967295,.int .u32 200,.int .u32 3] 60)) (by have c:=Reg.consts a;generalize a.eval=ρ at *;simp[execOp,go_sem,c.1,c.2,go_sem]) ⟨w1.heap.size,rfl,hW.rn.on.size,by simp,fun k hk=>?_⟩ ((hW.bel hbwo (bl1 _ _)).upd 13 94 _ (by decide) (by decide)) (fun j v _ h=>h.bel (bl1 _ _) j v);rcases(by omega:k=0∨k=1∨k=2) with rfl | rfl | rfl
    ·exact⟨4294967295,World.cell?_alloc_mark _ _ _ _ _,by decide,by decide⟩
    ·exact⟨200,World.cell?_alloc_mark _ _ _ _ _,by decide,by decide⟩
    exact⟨3,World.cell?_alloc_mark _ _ _ _ _,by decide,by decide⟩
   ·have e0:a.eval (.tmp 0)=.pointer (some ⟨b,0,none⟩):=E 0 rfl;exact Rgs.val rfl (Reg.wanted_free rfl) (.pointer (some ⟨b,0,none⟩)) (by have c:=Reg.consts a;generalize a.eval=ρ at *;simp[execOp,go_sem,c.1,c.2,e0]) (rfl) (hW.upd 14 95 _)
   ·have d14:_=_:=D 14 rfl _ _ rfl rfl;obtain⟨at5,T5⟩:=hW.rn.tp;refine Rgs.call rfl (Reg.wanted_free rfl) 21 #[.pointer (some ⟨b,0,none⟩),.int .i64 3] (by have c:=Reg.consts a;generalize a.eval=ρ at *;simp[execOp,go_sem,c.1,c.2,d14]) ?_;refine(next_at B b A m c f at5 3 _ w1 T5 rfl (by omega) (by omega) hm).mono ?_;rintro e w5⟨k5,at6,hk5,rfl,T6,G6⟩;exact⟨_,rfl,⟨k5,hk5,rfl⟩,(hW.next hbwo T6 G6).upd 15 96 _ (by decide) (by decide),fun j v _ h=>h.gb hbwo G6 j v⟩
   ·obtain⟨g,d13,hg1,hg2,hg3⟩:=D 13 rfl _ _ rfl rfl;obtain⟨k,hk3,d15⟩:=D 15 rfl _ _ rfl rfl;obtain⟨z,hz,hz1⟩:=hg3 k hk3;obtain⟨z0,hz0,_⟩:=hg3 0 (by omega);have hk3':(k:Int) < 3:=by omega
    have ead:=mk_add g k;exact Rgs.val rfl (Reg.wanted_free rfl) (.pointer (some ⟨g,k,none⟩)) (by have c:=Reg.consts a;generalize a.eval=ρ at *;simp[execOp,go_sem,c.1,c.2,d13,d15,hk3,hk3',ead]) ⟨g,k,z,rfl,hg1,hg2,hz,hz1,z0,hz0⟩ (hW.upd 16 97 _)
   ·obtain⟨g,k,z,d16,hg1,hg2,hz,hz1,_⟩:=D 16 rfl _ _ rfl rfl;exact Rgs.val rfl (Reg.wanted_free rfl) (.int .u32 z) (by have c:=Reg.consts a;generalize a.eval=ρ at *;simp[execOp,go_sem,c.1,c.2,d16,hz]) (⟨_,rfl,hz1⟩) (hW.upd 17 98 _)
   ·have d0:a.eval (.tmp 81)=.int .i64 (fr:Int):=D 0 rfl _ _ rfl rfl;obtain⟨kt,⟨hkt,hkf⟩,d9⟩:=D 9 rfl _ _ rfl rfl;obtain⟨q,d12⟩:=D 12 rfl _ _ rfl rfl;obtain⟨z,d17,hz1⟩:=D 17 rfl _ _ rfl rfl;have hbd:Tryz.prog.built 63 [(0,.int .i64 (fr:Int)),(1,.int .i64 (kt:Int)),(2,.bool q),(4,.int .u32 z)]=some #[.int .i64 (fr:Int),.int .i64 (kt:Int),.bool q,.int .i64 0,.int .u32 z,.int .i64 0]:=by rfl
    exact Rgs.val rfl (Reg.wanted_free rfl) (.agg #[.int .i64 (fr:Int),.int .i64 (kt:Int),.bool q,.int .i64 0,.int .u32 z,.int .i64 0]) (by have c:=Reg.consts a;generalize a.eval=ρ at *;simp[execOp,go_sem,c.1,c.2,d0,d9,d12,d17,hbd]) (⟨⟨(fr:Int),(kt:Int),q,0,z,0⟩,⟨⟨by show (0:Int)≤(fr:Int);omega,by show (fr:Int) < (i:Int);omega,by show (0:Int)≤(kt:Int);omega,by show (kt:Int) < (i:Int);omega,hz1⟩,rfl,by show (fr:Int)≠(kt:Int);omega,rfl⟩,rfl⟩) (hW.upd 18 99 _)
   ·have l20:=Reg.not_live C h0 (j:=20) rfl rfl;have hb1:=bl1 w1 (.cells #[.int .i64 0,.int .i64 0,.bool false,.int .i64 0,.int .u32 0,.int .i64 0] 63);have hWb:=hW.bel hbwo hb1;refine Rgs.grow rfl (Reg.wanted_free rfl) (.pointer (some ⟨w1.heap.size,0,none⟩)) (w1.alloc (.cells #[.int .i64 0,.int .i64 0,.bool false,.int .i64 0,.int .u32 0,.int .i64 0] 63)) (by have c:=Reg.consts a;generalize a.eval=ρ at *;simp[execOp,go_sem,c.1,c.2,go_sem]) trivial ⟨hWb.rn,fun _ _=>⟨w1.heap.size,Reg.eval_same _ _ _ (by rw[S];exact(by decide:11 < 129)),hW.rn.on.size,Vec.lit w1 _ _ 6 _ fun j hj=>?_⟩,fun e=>?_⟩ (fun j v _ h=>h.bel hb1 j v)
    ·rcases(by omega:j=0∨j=1∨j=2∨j=3∨j=4∨j=5) with rfl | rfl | rfl | rfl | rfl | rfl <;> rfl
    have e:(20 == 19 || live 20)=true:=e;rw[l20] at e;cases e
   obtain⟨⟨x0,x1,x2,x3,x4,x5⟩,hxo,d18⟩:=D 18 rfl _ _ rfl rfl;obtain⟨g,d19,hg,hv⟩:=hW.un (hk 19 rfl) h0;have hgb:wo.heap.size≤g:=hg;have hv6:=(((((hv.set 0 (.int .i64 x0)).set 1 (.int .i64 x1)).set 2 (.bool x2)).set 3 (.int .i64 x3)).set 4 (.int .u32 x4)).set 5 (.int .i64 x5);have hbl:Below g w1 ((((((w1.setCell ⟨g,0,none⟩ (.int .i64 x0)).setCell ⟨g,1,none⟩ (.int .i64 x1)).setCell ⟨g,2,none⟩ (.bool x2)).setCell ⟨g,3,none⟩ (.int .i64 x3)).setCell ⟨g,4,none⟩ (.int .u32 x4)).setCell ⟨g,5,none⟩ (.int .i64 x5)):=((((((Below.refl _ _).setCell (p:=⟨g,0,none⟩) (Nat.le_refl _) _).setCell (p:=⟨g,1,none⟩) (Nat.le_refl _) _).setCell (p:=⟨g,2,none⟩) (Nat.le_refl _) _).setCell (p:=⟨g,3,none⟩) (Nat.le_refl _) _).setCell (p:=⟨g,4,none⟩) (Nat.le_refl _) _).setCell (p:=⟨g,5,none⟩) (Nat.le_refl _) _;have z0:=hv.cell 0 (by omega);have z1:=hv.cell 1 (by omega);have z2:=hv.cell 2 (by omega);have z3:=hv.cell 3 (by omega);have z4:=hv.cell 4 (by omega);have z5:=hv.cell 5 (by omega);have f0:=hv.thaw 0;have f1:=hv.thaw 1;have f2:=hv.thaw 2;have f3:=hv.thaw 3;have f4:=hv.thaw 4;have f5:=hv.thaw 5;refine Rgs.store rfl (Reg.wanted_free rfl) _ ?_ trivial ⟨hW.rn.blw hgb (by omega) hbl,fun _ e=>absurd e (by rw[Rgs.upd_self];decide),fun _=>⟨g,⟨x0,x1,x2,x3,x4,x5⟩,d19,hg,hxo,hv6.congr fun j hj=>?_⟩⟩ ?_
   ·have c:=Reg.consts a;generalize a.eval=ρ at *;simp[execOp,go_sem,c.1,c.2,d18,d19,z0,z1,z2,z3,z4,z5,f0,f1,f2,f3,f4,f5]
   ·rcases(by omega:j=0∨j=1∨j=2∨j=3∨j=4∨j=5) with rfl | rfl | rfl | rfl | rfl | rfl <;> rfl
   intro j v hj h;refine h.keep hbl.size j v fun k _ hz _=>?_;have hne:k≠g:=by
    rintro rfl;obtain⟨z,hz⟩:=hz;rw[z0] at hz;cases hz
   rw[Below.heap_setCell _ _ _ _ hne,Below.heap_setCell _ _ _ _ hne,Below.heap_setCell _ _ _ _ hne,Below.heap_setCell _ _ _ _ hne,Below.heap_setCell _ _ _ _ hne,Below.heap_setCell _ _ _ _ hne]
  intro a w3 live hs hd E D Hl hW;obtain⟨gy,x,ea,hgy,hxo,hv⟩:=hW.at_ (Hl 20 (by decide));rw[Rgs.act_ws a _ _ hs hd E [81,82,83,84,85,86,87,88,89,90,91,92,93,94,95,96,97,98,99,11] (by kernel_rfl)];simp only[List.foldl,List.setIfInBounds_toArray,List.set_cons_succ,List.set_cons_zero,ea];have HRN:=hid hW.rn;have HV:=hid hv;clear E D Hl hW ea hv;generalize a.eval=ρ;clear a hs hd;obtain⟨x0,x1,x2,x3,x4,x5⟩:=x;have hx2:=HV.out.cell 2 (by omega);have hx2':w3.cell? ⟨gy,2,none⟩=some (.bool x2):=hx2;have hbgy:b < gy:=by have:=HR3.out.on.size;omega
  clear hx2;generalize hw3:w3=w3' at *;cases x2 with
  | false =>
   have hxo:ChNew i ⟨x0,x1,false,x3,x4,x5⟩:=⟨hxo.1,hxo.2.1,hxo.2.2.1,hxo.2.2.2⟩;go_upto_region 24 with fail;have hC:=HS.out.only HCB.out HRN.out.on HRN.out.tp;have q0:=HV.out.cell 0 (by omega);have q1:=HV.out.cell 1 (by omega);have q2:=HV.out.cell 2 (by omega);have q3:=HV.out.cell 3 (by omega);have q4:=HV.out.cell 4 (by omega);have q5:=HV.out.cell 5 (by omega);simp only[ccf,cc,List.getElem?_cons_succ,List.getElem?_cons_zero,Option.getD_some] at q0 q1 q2 q3 q4 q5;have hbl:=bl1 (w3') (.cells #[.int .i64 x0,.int .i64 x1,.bool false,.int .i64 x3,.int .u32 x4,.int .i64 x5] 63);have hC2:=hC.bel HCB.out hbl;have hr2:=rdV_new (w3') #[.int .i64 x0,.int .i64 x1,.bool false,.int .i64 x3,.int .u32 x4,.int .i64 x5] 63 ([(⟨x0,x1,false,x3,x4,x5⟩:ChV)].flatMap cc) rfl;have m0:(w3').cell? ⟨gr+1,1,none⟩=some (.slice A2 n2 c2):=hC.cf.cell 1 (by omega);have hown:=hC2.ch.own;have hgl:=hC2.cf.lt;have hgcB:gr+1 < W.heap.size:=by have:=HSZ.out;omega
   have hsz:W.heap.size≤((w3').alloc (.cells #[.int .i64 x0,.int .i64 x1,.bool false,.int .i64 x3,.int .u32 x4,.int .i64 x5] 63)).heap.size:=by
    have h1:=HSZ.out;omega
   have HST:Hid (∀ w4,Below W.heap.size ((w3').alloc (.cells #[.int .i64 x0,.int .i64 x1,.bool false,.int .i64 x3,.int .u32 x4,.int .i64 x5] 63)) w4→w4.cell? ⟨gr+1,1,none⟩=some (.slice A2 n2 c2)∧w4.frozen? ⟨gr+1,1,none⟩=false):=hid fun w4 hb4 =>
    ⟨(hb4.cell (p:=⟨gr+1,1,none⟩) hgcB).trans (hC2.cf.cell 1 (by omega)),(hb4.frozen (p:=⟨gr+1,1,none⟩) hgcB).trans (hC2.cf.thaw 1)⟩
   have HFI:Hid (∀ A4 c4 w4,OwnV 63 6 w4 W.heap.size A4 (n2+1) c4 ((C++[(⟨x0,x1,false,x3,x4,x5⟩:ChV)]).flatMap cc)→Grew A2 A4 ((w3').alloc (.cells #[.int .i64 x0,.int .i64 x1,.bool false,.int .i64 x3,.int .u32 x4,.int .i64 x5] 63)) w4→CfgS B b A m c f w gr (gr+1) W.heap.size A1 A4 none i (n2+1) 0 c1 c4 0 P (C++[⟨x0,x1,false,x3,x4,x5⟩]) [] (w4.setCell ⟨gr+1,1,none⟩ (.slice A4 (n2+1:Nat) c4))):=hid fun A4 c4 w4 ho4 hg4 =>
    hC2.chan HCB.out hg4 ho4
   clear hC hC2 hbl hgl HRN HV HS;go_wp2_with (at_builtin;go_loud (refine wpList_appX elCh rfl (.tmp 107) (.tmp 109) rfl rfl W.heap.size A2 n2 c2 _ rfl hown _ 1 1 _ _ rfl hr2 rfl Nat.one_pos (cc_one _) (by omega) (by unfold maxLen;omega) hsz (n2+1) rfl ((C++[(⟨x0,x1,false,x3,x4,x5⟩:ChV)]).flatMap cc) (by rw[List.flatMap_append]) ?_;intro A4 c4 w4 hw4 hb4 hg4;obtain⟨z0,z1⟩:=HST.out w4 hb4));go_roundw
   case rel=>exact⟨k - 1,n2+1,c4,A4,_,by go_num,by omega,by omega,(fun y hy=>by
    rcases List.mem_append.1 hy with hy | hy
    ·exact HCO.out y hy
    simp at hy;subst hy;exact hxo),HFI.out A4 c4 w4 hw4 hg4⟩
   simp[intOf];omega
  | true =>
   go_wp2_with fail;obtain⟨at7,T7⟩:=HRN.out.tp;refine(next_at B b A m c f at7 3 _ w3' T7 rfl (by omega) (by omega) hm).mono ?_;rintro e w7⟨k7,at8,hk7,rfl,T8,G8⟩;have hv7:=HV.out.keep (G8.block gy HV.out.lt (fun e=>by injection e with e;omega)) G8.size;have hc7:=hv7.cell 3 (by omega);have hf7:=hv7.thaw 3;have hc7':w7.cell? ⟨gy,3,none⟩=some (.int .i64 x3):=hc7;have hv8:=hv7.set 3 (.int .i64 (1+(k7:Int)));have HR8:=hid ((HRN.out.next T8 G8).blw hgy (by omega) ((Below.refl _ w7).setCell (p:=⟨gy,3,none⟩) (Nat.le_refl _) (.int .i64 (1+(k7:Int)))));have HV8:Hid (Vec (w7.setCell ⟨gy,3,none⟩ (.int .i64 (1+(k7:Int)))) gy 6 (ccf ⟨x0,x1,true,1+(k7:Int),x4,x5⟩)):=hid (hv8.congr fun j hj=>by rcases(by omega:j=0∨j=1∨j=2∨j=3∨j=4∨j=5) with rfl | rfl | rfl | rfl | rfl | rfl <;> rfl);clear T7 T8 G8 hv7 hc7 hv8 HV HRN hx2';go_upto_region 24 with fail;generalize hw9:w7.setCell ⟨gy,3,none⟩ (.int .i64 (1+(k7:Int)))=w9 at HR8 HV8 ⊢;have hxo:ChNew i ⟨x0,x1,true,1+(k7:Int),x4,x5⟩:=⟨hxo.1,hxo.2.1,hxo.2.2.1,by show 1≤1+(k7:Int)∧1+(k7:Int)≤8;omega⟩;generalize 1+(k7:Int)=y3 at HV8 hxo;have hC:=HS.out.only HCB.out HR8.out.on HR8.out.tp;have q0:=HV8.out.cell 0 (by omega);have q1:=HV8.out.cell 1 (by omega);have q2:=HV8.out.cell 2 (by omega);have q3:=HV8.out.cell 3 (by omega);have q4:=HV8.out.cell 4 (by omega);have q5:=HV8.out.cell 5 (by omega);simp only[ccf,cc,List.getElem?_cons_succ,List.getElem?_cons_zero,Option.getD_some] at q0 q1 q2 q3 q4 q5;have hbl:=bl1 (w9) (.cells #[.int .i64 x0,.int .i64 x1,.bool true,.int .i64 y3,.int .u32 x4,.int .i64 x5] 63);have hC2:=hC.bel HCB.out hbl;have hr2:=rdV_new (w9) #[.int .i64 x0,.int .i64 x1,.bool true,.int .i64 y3,.int .u32 x4,.int .i64 x5] 63 ([(⟨x0,x1,true,y3,x4,x5⟩:ChV)].flatMap cc) rfl;have m0:(w9).cell? ⟨gr+1,1,none⟩=some (.slice A2 n2 c2):=hC.cf.cell 1 (by omega);have hown:=hC2.ch.own;have hgl:=hC2.cf.lt;have hgcB:gr+1 < W.heap.size:=by have:=HSZ.out;omega
   have hsz:W.heap.size≤((w9).alloc (.cells #[.int .i64 x0,.int .i64 x1,.bool true,.int .i64 y3,.int .u32 x4,.int .i64 x5] 63)).heap.size:=by
    have h1:=HSZ.out;omega
   have HST:Hid (∀ w4,Below W.heap.size ((w9).alloc (.cells #[.int .i64 x0,.int .i64 x1,.bool true,.int .i64 y3,.int .u32 x4,.int .i64 x5] 63)) w4→w4.cell? ⟨gr+1,1,none⟩=some (.slice A2 n2 c2)∧w4.frozen? ⟨gr+1,1,none⟩=false):=hid fun w4 hb4 =>
    ⟨(hb4.cell (p:=⟨gr+1,1,none⟩) hgcB).trans (hC2.cf.cell 1 (by omega)),(hb4.frozen (p:=⟨gr+1,1,none⟩) hgcB).trans (hC2.cf.thaw 1)⟩
   have HFI:Hid (∀ A4 c4 w4,OwnV 63 6 w4 W.heap.size A4 (n2+1) c4 ((C++[(⟨x0,x1,true,y3,x4,x5⟩:ChV)]).flatMap cc)→Grew A2 A4 ((w9).alloc (.cells #[.int .i64 x0,.int .i64 x1,.bool true,.int .i64 y3,.int .u32 x4,.int .i64 x5] 63)) w4→CfgS B b A m c f w gr (gr+1) W.heap.size A1 A4 none i (n2+1) 0 c1 c4 0 P (C++[⟨x0,x1,true,y3,x4,x5⟩]) [] (w4.setCell ⟨gr+1,1,none⟩ (.slice A4 (n2+1:Nat) c4))):=hid fun A4 c4 w4 ho4 hg4 =>
    hC2.chan HCB.out hg4 ho4
   clear hC hC2 hbl hgl HR8 HV8 HS;go_wp2_with (at_builtin;go_loud (refine wpList_appX elCh rfl (.tmp 107) (.tmp 109) rfl rfl W.heap.size A2 n2 c2 _ rfl hown _ 1 1 _ _ rfl hr2 rfl Nat.one_pos (cc_one _) (by omega) (by unfold maxLen;omega) hsz (n2+1) rfl ((C++[(⟨x0,x1,true,y3,x4,x5⟩:ChV)]).flatMap cc) (by rw[List.flatMap_append]) ?_;intro A4 c4 w4 hw4 hb4 hg4;obtain⟨z0,z1⟩:=HST.out w4 hb4));go_roundw
   case rel=>exact⟨k - 1,n2+1,c4,A4,_,by go_num,by omega,by omega,(fun y hy=>by
    rcases List.mem_append.1 hy with hy | hy
    ·exact HCO.out y hy
    simp at hy;subst hy;exact hxo),HFI.out A4 c4 w4 hw4 hg4⟩
   simp[intOf];omega
 have hex:¬ 0 < k∨(0 < k∧¬ 1 < i):=by omega
 have HS:=hid hS;obtain⟨at5,T5⟩:=hS.tp;clear hS;rcases hex with hk0 | ⟨hk0,hi2⟩
 all_goals
  try have hi2':¬ (1:Int) < (i:Int):=by omega
  go_wp2_with fail;refine(next_at B b A m c f at5 2 _ wr T5 rfl (by omega) (by omega) hm).mono ?_;rintro e w5⟨k5,at6,hk5,rfl,T6,G6⟩;have HS5:=hid (HS.out.next HCB.out T6 G6);clear T5 T6 G6 HS;go_wp2_with fail;go_loopw [12] (fun s wx=>∃(q:Int) (n3 c3:Nat) (A3:Option Addr) (T:List TbV),s=.int .i64 q∧-1≤q∧q+n3=k5∧(∀ t∈T,TbQ i t)∧CfgS B b A m c f w gr (gr+1) W.heap.size A1 A2 A3 i n2 n3 c1 c2 c3 P C T wx) (fun s _=>(intOf s+1).toNat)
  case atStart=>exact⟨k5,0,0,none,[],rfl,by omega,by omega,(fun t ht=>by cases ht),HS5.out⟩
  obtain⟨q,n3,c3,A3,T,rfl,hq,hqn,htq,hS⟩:=hrel;have HTQ:=hid htq;clear htq;clear HS5;by_cases hq0:0≤q
  ·go_wp2_with fail;refine Rgs.region (by kernel_rfl) (by kernel_rfl) (TbqV B b A m c f w gr (gr+1) W.heap.size A1 A2 A3 i n2 n3 c1 c2 c3 P C T) (fun live _=>TbqW B b A m c f w gr (gr+1) W.heap.size A1 A2 A3 i n2 n3 c1 c2 c3 P C T live) ⟨fun _=>hS.bel HCB.out (Below.refl _ _).drew,fun _=>⟨hS.cf.cell 2 (by omega),hS.cf.thaw 2,by have h1:=hS.cf.lt;have h2:=HSZ.out;show W.heap.size≤wr.heap.size;omega⟩⟩ (Rgs.steps_of ?_) ?_
   ·refine⟨?_,?_,?_,?_,?_,?_,?_,?_,?_,trivial⟩<;>intro a w1 live S E D C h0 hk hW
    ·have e3:a.eval (.tmp 3)=.pointer (some ⟨gr+1,0,none⟩):=E 3 rfl;exact Rgs.val rfl (Reg.wanted_free rfl) (.pointer (some ⟨gr+1,2,none⟩)) (by have c:=Reg.consts a;generalize a.eval=ρ at *;simp[execOp,go_sem,c.1,c.2,e3]) (rfl) (hW.upd _)
    ·have d0:_=_:=D 0 rfl _ _ rfl rfl;have l6:=Reg.not_live C h0 (j:=6) rfl rfl;have l8:=Reg.not_live C l6 (j:=8) rfl rfl;have hc2:=(hW.ce l8).1;exact Rgs.va (.slice A3 n3 c3) (hW.upd _)
    ·have e0:a.eval (.tmp 0)=.pointer (some ⟨b,0,none⟩):=E 0 rfl;exact Rgs.val rfl (Reg.wanted_free rfl) (.pointer (some ⟨b,0,none⟩)) (by have c:=Reg.consts a;generalize a.eval=ρ at *;simp[execOp,go_sem,c.1,c.2,e0]) (rfl) (hW.upd _)
    ·have e4:a.eval (.tmp 4)=.int .i64 (i:Int):=E 4 rfl;exact Rgs.val rfl (Reg.wanted_free rfl) (.int .i64 (i:Int)) (by have c:=Reg.consts a;generalize a.eval=ρ at *;simp[execOp,go_sem,c.1,c.2,e4]) (rfl) (hW.upd _)
    ·have d2:_=_:=D 2 rfl _ _ rfl rfl;have d3:a.eval (.tmp 121)=.int .i64 (i:Int):=D 3 rfl _ _ rfl rfl;have l5:=Reg.not_live C h0 (j:=5) rfl rfl;have l6:=Reg.not_live C l5 (j:=6) rfl rfl;have l8:=Reg.not_live C l6 (j:=8) rfl rfl;have hCf:=hW.cf l6;obtain⟨at5,T5⟩:=hCf.tp;refine Rgs.call rfl (Reg.wanted_free rfl) 22 #[.pointer (some ⟨b,0,none⟩),.int .i64 (i:Int)] (by have c:=Reg.consts a;generalize a.eval=ρ at *;simp[execOp,go_sem,c.1,c.2,d2,d3]) ?_;refine(frame_anyp B b A m c f hm i hi1 (by omega) at5 w1 T5).mono ?_;rintro e w5⟨x,kf,A',n',c',at6,rfl,hok,ho5,hz5,ht5,_,hpq5,T6,G6⟩;have hC5:=hCf.next HCB.out T6 G6;have hn5:=(ofz_ok hz5).1;have hBw:=(hW.ce l8).2.2;have hg:TbGood W.heap.size A1 A2 A3 i ⟨A',n',c',x,kf⟩ w5:=⟨hpq5,⟨⟨ho5.rdn,ho5.own.cap,hok,by show n'≤1048576;omega⟩,hz5,ht5⟩,fun k hk=>by
      have h1:=ho5.own.obk_ge hk;exact⟨by omega,h1.2,fun e=>by have:=(hCf.pp.own.obk_ge e).2;omega,fun e=>by have:=(hCf.ch.own.obk_ge e).2;omega,fun e=>by have:=(hCf.tb.own.obk_ge e).2;omega⟩⟩
     refine⟨_,rfl,⟨⟨A',n',c',x,kf⟩,rfl,hg⟩,TbqW.upd ⟨fun _=>hC5,fun _=>⟨hC5.cf.cell 2 (by omega),hC5.cf.thaw 2,Nat.le_trans hBw G6.size⟩⟩ 4,fun j v hj h=>?_⟩;have hbB:b < W.heap.size:=by have h1:=HBL.out;have h2:=HSZ.out;omega
     refine TbqV.keep (p:=fun k=>k=b) j v (Only.gb G6 rfl) (fun k e=>.inl (by omega)) ?_ ?_ h
     ·rintro rfl;rw[l6] at hj;cases hj
     rintro rfl;rw[l8] at hj;cases hj
    ·obtain⟨x,d4,hg⟩:=D 4 rfl _ _ rfl rfl;have l6:=Reg.not_live C h0 (j:=6) rfl rfl;have l8:=Reg.not_live C l6 (j:=8) rfl rfl;have hb1:=bl1 w1 (.cells #[.slice x.A x.n x.c] 64);have hCf:=hW.cf l6;have hC5:=hCf.bel HCB.out hb1;refine Rgs.grow rfl (Reg.wanted_free rfl) (.slice (some ⟨w1.heap.size,0,none⟩) 1 1) (w1.alloc (.cells #[.slice x.A x.n x.c] 64)) (by have c:=Reg.consts a;generalize a.eval=ρ at *;simp[execOp,go_sem,c.1,c.2,d4]) ⟨w1.heap.size,x,rfl,(hW.ce l8).2.2,by simp,fun e=>by have:=(hCf.tb.own.obk_ge e).2;omega,by simp[World.cell?_alloc_mark],hg.only (p:=fun _=>False) (Only.bel hb1) (fun k e=>e.elim)⟩ (TbqW.upd ⟨fun _=>hC5,fun _=>⟨hC5.cf.cell 2 (by omega),hC5.cf.thaw 2,Nat.le_trans (hW.ce l8).2.2 hb1.size⟩⟩ 5) (fun j v hj h=>?_);refine TbqV.keep (p:=fun _=>False) j v (Only.bel hb1) (fun k e=>e.elim) ?_ ?_ h
     ·rintro rfl;rw[l6] at hj;cases hj
     rintro rfl;rw[l8] at hj;cases hj
    ·have d1:_=_:=D 1 rfl _ _ rfl rfl;obtain⟨g,x,d5,hg1,hg2,hg3,hg4,hg5⟩:=D 5 rfl _ _ rfl rfl;have l8:=Reg.not_live C h0 (j:=8) rfl rfl;have hCf:=hW.cf h0;have hce:=hW.ce l8;obtain⟨A',c',w',hrun,h1,h2,h3⟩:=run_appX elNN w1 W.heap.size A3 n3 c3 _ hCf.tb.own ⟨g,0,none⟩ 1 1 [.slice x.A x.n x.c] w1.heap.size (box1_rd hg4) rfl (by omega) (tcl_one [x]) (by omega) (by unfold maxLen;omega) hce.2.2;have hgcB:gr+1 < W.heap.size:=by have:=HSZ.out;omega
     refine Rgs.grow rfl (Reg.wanted_free rfl) (.slice A' (n3+1:Nat) c') w' ?_ (fun _=>⟨A',c',w1,x,rfl,hCf,hg5,h3,by rw[List.flatMap_append];exact h1⟩) ⟨fun e=>absurd e (by rw[Rgs.upd_self];decide),fun _=>⟨(h2.cell (p:=⟨gr+1,2,none⟩) hgcB).trans hce.1,(h2.frozen (p:=⟨gr+1,2,none⟩) hgcB).trans hce.2.1,Nat.le_trans hce.2.2 h2.size⟩⟩ ?_
     ·have c:=Reg.consts a;generalize a.eval=ρ at *;simp only[execOp,resolve,invoke,builtin,Sem.run_bind,Sem.run_pure,Result.andThen_ok,List.map_toArray,List.map_cons,List.map_nil,d1,d5,hrun]
     intro j v hj h;refine TbqV.keep (p:=fun k=>obk A3=some k) j v (Only.grew h3) (fun k e=>.inr e) ?_ ?_ h
     ·rintro rfl;rw[h0] at hj;cases hj
     rintro rfl;rw[l8] at hj;cases hj
    ·have e3:a.eval (.tmp 3)=.pointer (some ⟨gr+1,0,none⟩):=E 3 rfl;exact Rgs.val rfl (Reg.wanted_free rfl) (.pointer (some ⟨gr+1,2,none⟩)) (by have c:=Reg.consts a;generalize a.eval=ρ at *;simp[execOp,go_sem,c.1,c.2,e3]) (rfl) (hW.upd _)
    obtain d6:=D 6 rfl _ _ rfl rfl;have d7:_=_:=D 7 rfl _ _ rfl rfl;have hce:=hW.ce h0;obtain⟨A',c',w2',x,d6,hCf,hg,hgr,hown⟩:=d6 hce.1;have hfin:=hCf.tabl HCB.out hgr hown ⟨hg.at_,hg.ap⟩;have hm0:=hce.1;have hfr:=hce.2.1;have hgcB:gr+1 < W.heap.size:=by have:=HSZ.out;omega
    refine Rgs.store rfl (Reg.wanted_free rfl) (w1.setCell ⟨gr+1,2,none⟩ (.slice A' (n3+1:Nat) c')) ?_ ⟨A',c',x,hfin,hg.q⟩ ⟨fun e=>absurd (Rgs.upd_off e) (by rw[hk 6 rfl];decide),fun e=>absurd e (by rw[Rgs.upd_self];decide)⟩ ?_
    ·have c:=Reg.consts a;generalize a.eval=ρ at *;simp[execOp,go_sem,c.1,c.2,d6,d7,hm0,hfr]
    intro j v hj h;by_cases hj6:j=6
    ·subst hj6;intro hcell;rw[World.cell?_setCell_same _ _ _ hm0] at hcell;injection hcell with hcell;injection hcell with _ hn _;omega
    refine TbqV.keep (p:=fun k=>k=gr+1) j v (Only.set _ _ _ rfl) (fun k e=>.inl (by omega)) hj6 ?_ h;rintro rfl;rw[h0] at hj;cases hj
   intro a w3 live hs hd E D Hl hW;obtain⟨A',c',x,hC,hxq⟩:TbqV B b A m c f w gr (gr+1) W.heap.size A1 A2 A3 i n2 n3 c1 c2 c3 P C T 8 undef w3:=by
    obtain⟨v8,hv,_⟩:=D 8 _ rfl;exact hv
   rw[Rgs.act_ws a _ _ hs hd E [118,119,120,121,122,123,124,125] (by kernel_rfl)];simp only[List.foldl,List.setIfInBounds_toArray,List.set_cons_succ,List.set_cons_zero];have HC9:=hid hC;clear E D Hl hW hC;generalize a.eval=ρ;clear a hs hd;go_wp2_with fail;go_roundw
   case rel=>exact⟨q - 1,n3+1,c',A',_,by go_num,by omega,by omega,(fun t ht=>by
    rcases List.mem_append.1 ht with ht | ht
    ·exact HTQ.out t ht
    simp at ht;subst ht;exact hxq),HC9.out⟩
   simp[intOf];omega
  have hq':q=-1:=by omega
  have hn3:1≤n3:=by omega
  have hn3':n3≤2:=by omega
  have hn2:n2≤3:=by omega
  obtain⟨at7,T7⟩:=hS.tp;have m0:wr.cell? ⟨gr+1,0,none⟩=some (.slice A1 i c1):=hS.cf.cell 0 (by omega);have m1:wr.cell? ⟨gr+1,1,none⟩=some (.slice A2 n2 c2):=hS.cf.cell 1 (by omega);have m2:wr.cell? ⟨gr+1,2,none⟩=some (.slice A3 n3 c3):=hS.cf.cell 2 (by omega);have HAS:=hid (asks_any (pO b A1 A2) B b A m c f hm at7 A1 A2 A3 i n2 n3 c1 c2 c3 W.heap.size P C T wr T7 hS.pp hS.ch (hS.asked HCB.out) (by have h1:=HBL.out;have h2:=HSZ.out;omega) (fun k=>Iff.rfl) hS.d12 (by omega) (by omega) (by omega) hn3 (fun x hx=>(HCO.out x hx).2.1) HBU.out.bud);have HFI:Hid (∀ w',AsksP (pO b A1 A2) B b A m c f A1 A2 A3 i n2 n3 c1 c2 c3 P C T W.heap.size wr (.returned (.agg #[.slice A1 i c1,.slice A2 n2 c2,.slice A3 n3 c3])) w'→Vec w' gr 3 (box3 (.slice none 0 0) (.slice none 0 0) (.slice none 0 0))∧CfgZ RtW B b A m c f w (.returned (.agg #[.slice A1 i c1,.slice A2 n2 c2,.slice A3 n3 c3])) (set3 w' gr (.slice A1 i c1) (.slice A2 n2 c2) (.slice A3 n3 c3))):=hid fun w' h=>by
   obtain⟨P',C',at',_,h1,h2,h2b,h3,h4,h5,h6,h7,h8,h9,h10,h11⟩:=h;exact hS.fin HCB.out hi1 hi4 hn2 hn3 hn3' (fun x hx=>(HCO.out x hx).1) h1 h2 h3 h4 h5 h6 (fun x hx=>(h7 x hx).2) h8 h9 h10 (hS.rt HCB.out h5 h2b h3 h6 (fun x hx=>(h7 x hx).1) HBU.out HCO.out HTQ.out h11 _ _ _)
  clear hS T7;go_wp2_with fail;refine HAS.out.mono ?_;intro e w6 h6;have he:=h6;obtain⟨_,_,_,rfl,_⟩:=he;obtain⟨hv,hfin⟩:=HFI.out w6 h6;have HF:=hid hfin
  have r0:w6.cell? ⟨gr,0,none⟩=some (.slice none 0 0):=hv.cell 0 (by omega);have r1:w6.cell? ⟨gr,1,none⟩=some (.slice none 0 0):=hv.cell 1 (by omega);have r2:w6.cell? ⟨gr,2,none⟩=some (.slice none 0 0):=hv.cell 2 (by omega);have s0:=hv.thaw 0;have s1:=hv.thaw 1;have s2:=hv.thaw 2;obtain⟨d0,d1,d2⟩:=set3_cells hv (.slice A1 i c1) (.slice A2 n2 c2) (.slice A3 n3 c3);have D0:=hid d0;have D1:=hid d1;have D2:=hid d2;clear d0 d1 d2 hfin h6 HAS HFI hv m0 m1 m2;go_wp2_with fail;exact bodyPost_ret (results_runC rfl rfl D0.out D1.out D2.out) rfl HF.out
theorem OwnV.ne{E E' s s' B B' n n' c c':Nat}{w:World}{A A':Option Addr}{l l':List Value}(h:OwnV E s w B A n c l)(h':OwnV E' s' w B' A' n' c' l')(hE:E≠E'):∀ k,obk A=some k→obk A'≠some k:=fun k hk hk'=>by
 rcases h.2 with ⟨hv,_⟩ | ⟨g,_,cur,hv,_,hg,_⟩
 ·injection hv with h1
  rw[h1] at hk
  cases hk
 ·rcases h'.2 with ⟨hv',_⟩ | ⟨g',_,cur',hv',_,hg',_⟩
  ·injection hv' with h1
   rw[h1] at hk'
   cases hk'
  ·injection hv with h1
   injection hv' with h2
   rw[h1] at hk
   rw[h2] at hk'
   have e1:g=k:=by injection hk
   have e2:g'=k:=by injection hk'
   subst e1
   subst e2
   rw[hg] at hg'
   injection hg' with hg'
   injection hg' with _ h3
   exact hE h3
theorem OwnV.ne'{E E' s s' B B' n n' c c' g:Nat}{w:World}{A:Option Addr}{l l':List Value}(h:OwnV E s w B A n c l)(h':OwnV E' s' w B' (some ⟨g,0,none⟩) n' c' l')(hE:E≠E'):∀ k,A=some ⟨k,0,none⟩→k≠g:=fun k e e2=>h.ne h' hE k (by rw[e];rfl) (by rw[e2];rfl)
structure CpS(B gc:Nat)(A1 A2 A3:Option Addr)(n1 n2 n3 c1 c2 c3:Nat)(Q:List Pq)(C:List ChV)(T:List NdT)(w:World):Prop where
 cf:OwnV 26 3 w B (some ⟨gc,0,none⟩) 1 1 [.slice A1 n1 c1,.slice A2 n2 c2,.slice A3 n3 c3]
 pp:OwnB 57 11 pcq w B A1 n1 c1 Q
 ch:OwnB 63 6 cc w B A2 n2 c2 C
 tb:OwnB 64 1 tcn w B A3 n3 c3 T
theorem CpS.on{B gc:Nat}{A1 A2 A3:Option Addr}{n1 n2 n3 c1 c2 c3:Nat}{Q:List Pq}{C:List ChV}{T:List NdT}{w w':World}(h:CpS B gc A1 A2 A3 n1 n2 n3 c1 c2 c3 Q C T w)(hb:Below w.heap.size w w'):CpS B gc A1 A2 A3 n1 n2 n3 c1 c2 c3 Q C T w' :=
 ⟨h.cf.below rfl hb,h.pp.below hb,h.ch.below hb,h.tb.below hb⟩
theorem CpS.cells{B gc:Nat}{A1 A2 A3:Option Addr}{n1 n2 n3 c1 c2 c3:Nat}{Q:List Pq}{C:List ChV}{T:List NdT}{w:World}(h:CpS B gc A1 A2 A3 n1 n2 n3 c1 c2 c3 Q C T w):w.cell? ⟨gc,0,none⟩=some (.slice A1 n1 c1)∧w.cell? ⟨gc,1,none⟩=some (.slice A2 n2 c2)∧w.cell? ⟨gc,2,none⟩=some (.slice A3 n3 c3) :=
 ⟨World.ownsRow.cellAt h.cf 0 (by omega),World.ownsRow.cellAt h.cf 1 (by omega),World.ownsRow.cellAt h.cf 2 (by omega)⟩
theorem set_self{α:Type}{l:List α}{i:Nat}{x:α}(h:l[i]? = some x):l.set i x=l:=by
 apply List.ext_getElem?;intro j;rw[List.getElem?_set];split
 ·rename_i e;subst e;rw[h];have:=(List.getElem?_eq_some_iff.1 h).1;simp[this]
 rfl
theorem CpS.put{B gc g1:Nat}{A2 A3:Option Addr}{n1 n2 n3 c1 c2 c3:Nat}{Q:List Pq}{C:List ChV}{T:List NdT}{w:World}(h:CpS B gc (some ⟨g1,0,none⟩) A2 A3 n1 n2 n3 c1 c2 c3 Q C T w){i k:Nat}{x y:Pq}{v:Value}(hx:Q[i]? = some x)(hk:k < 11)(hy:pcq y=(pcq x).set k v):
  CpS B gc (some ⟨g1,0,none⟩) A2 A3 n1 n2 n3 c1 c2 c3 (Q.set i y) C T (w.setCell ⟨g1,i*11+k,none⟩ v) :=
 ⟨h.cf.other _ _ (h.cf.ne' h.pp.own (by decide)),h.pp.put pcq_len hx hk hy,⟨h.ch.len,h.ch.own.other _ _ (h.ch.own.ne' h.pp.own (by decide))⟩,⟨h.tb.len,h.tb.own.other _ _ (h.tb.own.ne' h.pp.own (by decide))⟩⟩
theorem CpS.putT{B gc g3:Nat}{A1 A2:Option Addr}{n1 n2 n3 c1 c2 c3:Nat}{Q:List Pq}{C:List ChV}{T:List NdT}{w:World}(h:CpS B gc A1 A2 (some ⟨g3,0,none⟩) n1 n2 n3 c1 c2 c3 Q C T w){i:Nat}{x y:NdT}{v:Value}(hx:T[i]? = some x)(hy:tcn y=(tcn x).set 0 v):
  CpS B gc A1 A2 (some ⟨g3,0,none⟩) n1 n2 n3 c1 c2 c3 Q C (T.set i y) (w.setCell ⟨g3,i,none⟩ v):=by
 have h1:=h.tb.put tcn_len hx (by omega) hy;rw[Nat.mul_one,Nat.add_zero] at h1;exact⟨h.cf.other _ _ (h.cf.ne' h.tb.own (by decide)),⟨h.pp.len,h.pp.own.other _ _ (h.pp.own.ne' h.tb.own (by decide))⟩,⟨h.ch.len,h.ch.own.other _ _ (h.ch.own.ne' h.tb.own (by decide))⟩,h1⟩
theorem pcq_one(l:List Pq):∀ u∈l.flatMap pcq,u.oneCell'=true:=by
 rw[pcq_map];exact pcl_one _
theorem tcn_one(l:List NdT):∀ u∈l.flatMap tcn,u.oneCell'=true:=by
 intro u hu;obtain⟨x,_,hx⟩:=List.mem_flatMap.1 hu;simp[tcn] at hx;subst hx;rfl
structure CpW1(B:Nat)(W0:World)(n1 n2 n3:Nat)(P:List Pq)(C:List ChV)(T:List NdT)(live:Nat→Bool)(a:Act)(w:World):Prop where
 on:Below B W0 w
 un:live 10=true→live 11=false→∃ g,a.eval (.tmp 3)=.pointer (some ⟨g,0,none⟩)∧OwnV 26 3 w B (some ⟨g,0,none⟩) 1 1 [.slice none 0 0,.slice none 0 0,.slice none 0 0]
 at_:live 11=true→∃(gc:Nat) (B1 B2 B3:Option Addr) (d1 d2 d3:Nat),a.eval (.tmp 3)=.pointer (some ⟨gc,0,none⟩)∧CpS B gc B1 B2 B3 n1 n2 n3 d1 d2 d3 P C T w
section
variable {B g0:Nat} {A1 A2 A3:Option Addr} {n1 n2 n3 c1 c2 c3:Nat} {P:List Pq} {C:List ChV} {T:List NdT} {w w' W0:World} {live:Nat→Bool} {a:Act}
end
end Go.Proofs.YtdkngfdnfekgfaaGreat
