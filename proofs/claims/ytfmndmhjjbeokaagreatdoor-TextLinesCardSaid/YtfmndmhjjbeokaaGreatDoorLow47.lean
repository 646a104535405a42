import Derived.Test.YtfmndmhjjbeokaaGreatDoorLow40
import Derived.Test.YtfmndmhjjbeokaaGreatDoorLow41
import Derived.Test.YtfmndmhjjbeokaaGreatDoorLow32
import Derived.Test.YtfmndmhjjbeokaaGreatDoorLow29
import Derived.Test.YtfmndmhjjbeokaaGreatDoorLow46
import Derived.Test.YtfmndmhjjbeokaaGreatDoorLow23
import Derived.Test.YtfmndmhjjbeokaaGreatDoorLow45
import Derived.Test.YtfmndmhjjbeokaaGreatDoorLow19
import Derived.Test.YtfmndmhjjbeokaaGreatDoorLow39
import Derived.Test.YtfmndmhjjbeokaaGreatDoorLow3
import Derived.LoopTactic
import Derived.Test.YtfmndmhjjbeokaaGreatDoorLow6
namespace Go.Proofs.YtfmndmhjjbeokaaGreatDoor
open Tab Txt
set_option linter.unusedSimpArgs false
set_option linter.unusedVariables false
theorem tick_num:∀ (f:F),f.ok→∀ y∈f.flat,y.n.toNat≤128∨y.n.toNat≤f.len
 | .nil,_,y,hy=>by simp [F.flat] at hy
 | .cons x k r,h,y,hy=>by
  have hx1:=fine_one h.1
  have hk:=h.2.1
  simp only [F.flat,List.mem_cons,List.mem_append] at hy
  simp only [F.len]
  rcases hy with rfl | hy | hy
  ·unfold F.tick
   unfold kn at hk
   split
   ·rename_i h3
    have hf:=h.1
    unfold fine at hf
    rw [if_neg (by omega),if_neg (by omega),if_pos h3] at hf
    simp only [Bool.and_eq_true,decide_eq_true_eq] at hf
    omega
   ·rename_i h3
    rw [if_neg h3] at hk
    split
    ·rename_i h4
     rw [if_pos h4] at hk
     have hp:=F.len_pos h.2.2.1 (by omega)
     have:=Nat.le_mul_of_pos_left y.n.toNat hp
     omega
    ·omega
  ·have ih:=tick_num k h.2.2.1 y hy
   unfold F.tick
   unfold kn at hk
   split
   ·omega
   ·rename_i h3
    rw [if_neg h3] at hk
    split
    ·have:=Nat.le_mul_of_pos_right k.len (show 0 < x.n.toNat by omega)
     omega
    ·rename_i h4
     rw [if_neg h4] at hk
     rw [F.cnt_zero hk] at hy
     simp [F.flat] at hy
  ·have ih:=tick_num r h.2.2.2 y hy
   omega
theorem tbIn_of {n m:Nat} {x:Nd} {k:F} (hok:(F.cons x k .nil).ok) (hz:ofz m (k.dep+1) (one x k.lvs)=0) (hm:k.sz+1=m) (hq:∀ y∈x::k.flat,0≤y.p∧y.p < (n:Int)) :
  TbIn n (.cons x k .nil)∧(∀ y∈(F.cons x k .nil).flat,y.n.toNat < 100000)∧(F.cons x k .nil).sz≤128:=by
 obtain ⟨h1,h2,h3,_⟩:=ofz_ok hz
 rw [one_ticks,lvs_ticks] at h3
 have hfl:(F.cons x k .nil).flat=x::k.flat:=by simp [F.flat]
 have hnum:∀ y∈(F.cons x k .nil).flat,y.n.toNat < 100000:=fun y hy=>by
  have:=tick_num _ hok y hy
  simp only [F.len] at this
  omega
 have hsz:(F.cons x k .nil).sz≤128:=by simp only [F.sz];omega
 refine ⟨⟨⟨x,k,rfl⟩,hok,by simp only [F.dep];omega,hsz,fun y hy=>?_,fun y hy _=>hq y (by rw [← hfl];exact hy)⟩,hnum,hsz⟩
 have:=hnum y hy
 unfold lim40
 omega
theorem tx_few {nm:Int→List UInt8} (hnm:∀ p,(nm p).length≤12):∀ (f:F),(∀ y∈f.flat,y.n.toNat < 100000)→∀ b,(txX nm f b).length≤f.sz*20
 | .nil,_,_=>by simp [txX]
 | .cons x k r,h,b=>by
  have h1:=tx_few hnm k (fun y hy=>h y (by simp [F.flat,hy])) false
  have h2:=tx_few hnm r (fun y hy=>h y (by simp [F.flat,hy])) true
  have h3:=num_few (n:=x.n.toNat) (h x (by simp [F.flat]))
  have h4:=hnm x.p
  have h5:(txN nm x (txX nm k false)).length≤19+(txX nm k false).length:=by
   unfold txN
   split
   ·simp only [List.length_cons,List.length_append];omega
   ·split
    ·simp only [List.length_cons];omega
    ·split
     ·simp only [List.length_cons,List.length_append,List.length_nil];omega
     ·simp only [List.length_cons,List.length_append,List.length_nil];omega
  show ((if b=true then [44] else [])++(txN nm x (txX nm k false)++txX nm r true)).length≤(1+k.sz+r.sz)*20
  rw [List.length_append,List.length_append]
  have h6:(if b=true then ([44]:List UInt8) else []).length≤1:=by split <;> simp
  omega
theorem nmP_12 {L:List (List UInt8)} (h:∀ s∈L,s.length≤12) (p:Int):(nmP L p).length≤12:=by
 unfold nmP
 split
 ·rw [List.getD_eq_getElem?_getD]
  cases e:L[p.toNat]? with
  | none=>exact Nat.zero_le _
  | some x=>exact h x (List.mem_of_getElem? e)
 ·exact Nat.zero_le _
theorem fm_len {α:Type} (f:α→List UInt8) (k:Nat):∀ (L:List α),(∀ x∈L,(f x).length≤k)→(L.flatMap f).length≤L.length*k
 | [],_=>by simp
 | x::L,h=>by
  have h1:=h x (by simp)
  have h2:=fm_len f k L fun y hy=>h y (by simp [hy])
  rw [List.flatMap_cons,List.length_append,List.length_cons,Nat.succ_mul]
  omega
theorem text_few {P:List Pq} {C:List ChV} {T:List F} (hP:∀ y∈P,PrIn y∧y.2.length=y.1.pn) (hC:∀ x∈C,PcIn P.length x) (hT:∀ f∈T,(∃ x k,f=.cons x k .nil)∧(∀ y∈f.flat,y.n.toNat < 100000)∧f.sz≤128)
  (h1:P.length≤4) (h2:C.length≤3) (h3:T.length≤2):(textT (linesT P C T)).length≤7000:=by
 have hN:∀ s∈namesP P,s.length≤12:=fun s hs=>by
  obtain ⟨y,hy,rfl⟩:=List.mem_map.1 hs
  exact name_16 (hP y hy).1.name
 have l1:=fm_len partL 100 P fun y hy=>partL_len (hP y hy).1 (hP y hy).2
 have l2:=fm_len (chanL (namesP P)) 170 C fun x hx=>chanL_len (fun s hs=>by have:=hN s hs;omega) (hC x hx)
 have l3:=fm_len (tabL (namesP P)) 2570 T fun f hf=>by
  obtain ⟨⟨x,k,rfl⟩,q1,q2⟩:=hT f hf
  have:=tx_few (nmP_12 hN) _ q1 false
  rw [tabL_eq]
  simp only [List.length_append,List.length_cons,List.length_nil,show wTable.length=5 from rfl]
  omega
 rw [textT_lines,List.length_append,List.length_append]
 have m1:P.length*100≤4*100:=Nat.mul_le_mul_right _ h1
 have m2:C.length*170≤3*170:=Nat.mul_le_mul_right _ h2
 have m3:T.length*2570≤2*2570:=Nat.mul_le_mul_right _ h3
 omega
theorem text_lines {P:List Pq} {C:List ChV} {T:List F} (hP:∀ y∈P,PrIn y∧y.2≠[]) (hN:NmsR (namesP P)) (hC:∀ x∈C,PcIn P.length x) (hT:∀ f∈T,TbIn P.length f) :
  (∀ x∈linesT P C T,(10:UInt8) ∉ x)∧linesP 0 cft0 (linesT P C T++[[]])=.inr ⟨P.map stripP,C,T.map fun f=>ndT0 f.flat⟩:=by
 have hNl:(namesP P).length=P.length:=by unfold namesP;rw [List.length_map]
 constructor
 ·intro x hx
  unfold linesT at hx
  rcases List.mem_append.1 hx with h | h
  ·obtain ⟨y,hy,rfl⟩:=List.mem_map.1 h
   exact join_ne (by decide) (part_ne (hP y hy).1 (by decide))
  ·rcases List.mem_append.1 h with h | h
   ·obtain ⟨y,hy,rfl⟩:=List.mem_map.1 h
    exact join_ne (by decide) (chan_ne hN y (by decide))
   ·obtain ⟨y,hy,rfl⟩:=List.mem_map.1 h
    exact join_ne (by decide) (tab_ne hN y (by decide))
 ·unfold linesT
  rw [List.append_assoc,List.append_assoc,lines_part P _ _ _ hP,lines_chan (namesP P) hN C _ _ _ (by show namesP ([]++P.map stripP)=_;rw [List.nil_append,names_strip]) (by rw [hNl];exact hC),
   lines_tab (namesP P) hN T _ _ (by show namesP ([]++P.map stripP)=_;rw [List.nil_append,names_strip]) (by rw [hNl];exact hT)]
  rfl
theorem same_strip {a b:Pq} (h:stripP a=stripP b):SameP a b:=by
 obtain ⟨⟨a0,a1,a2,a3,a4,a5,a6,a7,a8,a9,aa,ab,ac⟩,al⟩:=a
 obtain ⟨⟨b0,b1,b2,b3,b4,b5,b6,b7,b8,b9,ba,bb,bc⟩,bl⟩:=b
 unfold stripP at h
 simp only [Prod.mk.injEq,PtV.mk.injEq] at h
 obtain ⟨⟨h0,h1,h2,h3,h4,-,-,-,h8,h9,ha,hb,hc⟩,hl⟩:=h
 exact ⟨h0,h1,h2,h3,h4,⟨h8,h9,ha,hb,hc⟩,hl⟩
theorem same_lists {P P':List Pq} {C C':List ChV} {T T':List NdT} (hP:P.map stripP=P'.map stripP) (hC:C=C') (hT:T.map (fun t=>ndT0 t.l)=T'.map fun t=>ndT0 t.l):SameC P C T P' C' T':=by
 have l1:P.length=P'.length:=by have:=congrArg List.length hP;rwa [List.length_map,List.length_map] at this
 have l3:T.length=T'.length:=by have:=congrArg List.length hT;rwa [List.length_map,List.length_map] at this
 refine ⟨⟨l1,fun i x y hx hy=>?_,hC⟩,l3,fun i x y hx hy=>?_⟩
 ·have h:=congrArg (fun l=>l[i]?) hP
  simp only [List.getElem?_map,hx,hy,Option.map_some] at h
  exact same_strip (Option.some.inj h)
 ·have h:=congrArg (fun l=>l[i]?) hT
  simp only [List.getElem?_map,hx,hy,Option.map_some] at h
  have h2:ndT0 x.l=ndT0 y.l:=Option.some.inj h
  have h3:x.l=y.l:=by unfold ndT0 at h2;injection h2
  rw [h3]
  exact sameN_refl _
theorem where_strip {x:Cf} (h:RiX x) (hl:∀ y∈x.P,y.2.length=y.1.pn):(whereF (x.P.map stripP) x.C (x.T.map fun t=>ndT0 t.l)).1=0:=by
 have hs:SamX x ⟨x.A1,x.A2,x.A3,x.n1,x.n2,x.n3,x.c1,x.c2,x.c3,x.P.map stripP,x.C,x.T.map fun t=>ndT0 t.l⟩ :=
  same_lists (by rw [List.map_map];exact (List.map_congr_left fun y _=>rfl)) rfl (by rw [List.map_map];exact (List.map_congr_left fun t _=>rfl))
 have e:=whF_same hs hl (fun z hz=>by
  obtain ⟨y,hy,rfl⟩:=List.mem_map.1 hz
  rfl)
 rw [h.ok] at e
 have e2:whereF (x.P.map stripP) x.C (x.T.map fun t=>ndT0 t.l)=(0,-1):=e.symm
 rw [e2]
theorem text_back {x:Cf} {Fs:List F} (hr:RiX x) (hl:∀ y∈x.P,PrIn y∧y.2.length=y.1.pn) (hC:∀ y∈x.C,PcIn x.P.length y) (hT:∀ f∈Fs,TbIn x.P.length f∧(∀ y∈f.flat,y.n.toNat < 100000)∧f.sz≤128)
  (hF:Fs.map (fun f=>ndT0 f.flat)=x.T.map fun t=>ndT0 t.l) (h1:x.P.length≤4) (h2:x.C.length≤3) (h3:Fs.length≤2) :
  (textT (linesT x.P x.C Fs)).length≤7000∧parseP (textT (linesT x.P x.C Fs))=(0,0,⟨x.P.map stripP,x.C,x.T.map fun t=>ndT0 t.l⟩) ∧
   parseP ([35,10,10]++(textT (linesT x.P x.C Fs)++[10,35,32,101,110,100]))=(0,0,⟨x.P.map stripP,x.C,x.T.map fun t=>ndT0 t.l⟩) ∧
   (∀ z∈linesT x.P x.C Fs,(10:UInt8) ∉ z)∧linesP 0 cft0 (linesT x.P x.C Fs++[[]])=.inr ⟨x.P.map stripP,x.C,x.T.map fun t=>ndT0 t.l⟩:=by
 have hP:∀ y∈x.P,PrIn y∧y.2≠[]:=fun y hy=>⟨(hl y hy).1,fun e=>by
  have a:=(hl y hy).2
  have b:=(hl y hy).1.few
  rw [e] at a
  simp at a
  omega⟩
 have hN:=right_names hr.pt
 have hw:=where_strip hr fun y hy=>(hl y hy).2
 have hlen:=text_few hl hC (fun f hf=>⟨(hT f hf).1.one,(hT f hf).2.1,(hT f hf).2.2⟩) h1 h2 h3
 obtain ⟨h10,hlin⟩:=text_lines hP hN hC fun f hf=>(hT f hf).1
 rw [hF] at hlin
 refine ⟨hlen,?_,parse_remarks _ _ h10 hlin (by omega) hw,h10,hlin⟩
 have:=parse_text x.P x.C Fs hP hN hC (fun f hf=>(hT f hf).1) (by omega) (by rw [hF];exact hw)
 rw [hF] at this
 exact this
end Go.Proofs.YtfmndmhjjbeokaaGreatDoor
namespace Go.Proofs.YtfmndmhjjbeokaaGreatDoor
open Go.RowKit Tab
set_option linter.unusedSimpArgs false
set_option linter.unusedVariables false
theorem flat_inj:∀ (a b:F) (s t:List Nd),a.ok→b.ok→a.cnt=b.cnt→a.flat++s=b.flat++t→a=b∧s=t
 | .nil,.nil,s,t,_,_,_,h=>⟨rfl,by simpa [F.flat] using h⟩
 | .nil,.cons _ _ _,_,_,_,_,hc,_=>by simp [F.cnt] at hc
 | .cons _ _ _,.nil,_,_,_,_,hc,_=>by simp [F.cnt] at hc
 | .cons x k r,.cons y k' r',s,t,ha,hb,hc,h=>by
  simp only [F.flat,List.cons_append,List.cons.injEq,List.append_assoc] at h
  obtain ⟨rfl,h⟩:=h
  obtain ⟨_,hk,hkok,hrok⟩:=ha
  obtain ⟨_,hk',hkok',hrok'⟩:=hb
  obtain ⟨rfl,h2⟩:=flat_inj k k' _ _ hkok hkok' (by rw [hk,hk']) h
  obtain ⟨rfl,h3⟩:=flat_inj r r' _ _ hrok hrok' (by simp [F.cnt] at hc;exact hc) h2
  exact ⟨rfl,h3⟩
theorem ofF_tree {x:Nd} {k:F} (hok:(F.cons x k .nil).ok):ofF (x::k.flat)=(ofz (x::k.flat).length (k.dep+1) (one x k.lvs),tidy (one x k.lvs)):=by
 obtain ⟨y,k',hok',hl,e⟩:=ofF_whole (tree_whole hok)
 simp only [List.cons.injEq] at hl
 obtain ⟨rfl,hl⟩:=hl
 obtain ⟨rfl,_⟩:=flat_inj k k' [] [] hok.2.2.1 hok'.2.2.1 (by rw [hok.2.1,hok'.2.1]) (by rw [hl])
 exact e
theorem nmL_name:∀ i,i < 4→nameF (nmL i)=true:=fun i hi=>by
 rcases (by omega:i=0∨i=1∨i=2∨i=3) with rfl | rfl | rfl | rfl <;> kernel_rfl
theorem nmL_ne:∀ i j,i < 4→j < 4→i≠j→decide (nmL i=nmL j)=false:=fun i j hi hj h=>by
 rcases (by omega:i=0∨i=1∨i=2∨i=3) with rfl | rfl | rfl | rfl <;> rcases (by omega:j=0∨j=1∨j=2∨j=3) with rfl | rfl | rfl | rfl <;> first | (exact absurd rfl h) | kernel_rfl
theorem heal_hl {x:PtV} (h:HealP x):∀ j,j < 5→hlF (hv5 x j)=true:=fun j hj=>by
 obtain ⟨h0,h1,h2,h3,h4⟩:=h
 unfold hlF
 simp only [Bool.and_eq_true,decide_eq_true_eq]
 rcases (by omega:j=0∨j=1∨j=2∨j=3∨j=4) with rfl | rfl | rfl | rfl | rfl
 ·exact h0
 ·exact h1
 ·exact h2
 ·exact h3
 ·exact h4
theorem rt_right {n1:Nat} {P:List PtV} {C:List ChV} {T:List TbV} {w:World} (h:RtW n1 P C T w) (hl:P.length=n1) (q1:1≤n1) (q2:n1≤4) (q3:C.length≤3) (q4:1≤T.length) (q5:T.length≤2)
  (hT:∀ t∈T,TbAt w w.heap.size t∧Frame t) (hlo:∀ x∈C,∀ t∈T,chLate (wordsL (rowF t)) x=false) (hso:∀ k x,P[k]? = some x→∀ t∈T,ptShort (wordsL (rowF t)) k x=false) :
  (whereF (P.map (pq w)) C (T.map ndT)).1=0:=by
 rcases h.dn with hz | hz
 case inr=>exact hz
 have hlen:(P.map (pq w)).length=n1:=by rw [List.length_map,hl]
 rw [whereF_ok]
 ·unfold sizesB
  rw [hlen,List.length_map]
  omega
 ·intro j hj
  rw [hlen] at hj
  obtain ⟨x,hx⟩:∃ x,P[j]? = some x:=⟨_,List.getElem?_eq_getElem (by omega)⟩
  obtain ⟨g1,g2,g3,g4⟩:=h.nm j x hx
  have hpx:(P.map (pq w))[j]? = some (pq w x):=by rw [List.getElem?_map,hx];rfl
  have hbx:=hz x (List.mem_of_getElem? hx)
  have hpt:=h.pt x (List.mem_of_getElem? hx)
  rw [ptE_end hpx (by show nameF x.name=true;rw [g1];exact nmL_name j (by omega)) fun k y hk hy=>by
   rw [List.getElem?_map] at hy
   cases hpk:P[k]? with
   | none=>rw [hpk] at hy;cases hy
   | some z =>
    rw [hpk] at hy
    injection hy with hy
    subst hy
    show decide (z.name=x.name)=false
    rw [(h.nm k z hpk).1,g1]
    exact nmL_ne k j (by omega) (by omega) (by omega)]
  have e:partF (pq w x).1 (pq w x).2=true:=by
   show partF x (prL w x.pa x.pn)=true
   rw [partF_end g3.1 (by omega) (fun j q hq=>List.all_eq_true.1 (prL_ok hpt.procs) q (List.mem_of_getElem? hq)) (heal_hl g2),hbx.1,hbx.2]
   rfl
  rw [if_pos e]
 ·intro j hj
  obtain ⟨x,hx⟩:∃ x,C[j]? = some x:=⟨_,List.getElem?_eq_getElem hj⟩
  rw [chE_at hx,hlen]
  have hc:=h.ch x (List.mem_of_getElem? hx)
  have e:chanF x (n1:Int)=true:=by
   obtain ⟨⟨a1,a2,a3,a4,_,_⟩,⟨a5,a6⟩,a7,a8⟩:=hc
   unfold chanF
   rw [decide_eq_true a1,decide_eq_true a2,decide_eq_true a3,decide_eq_true a4,decide_eq_true a5,decide_eq_true a6,decide_eq_true a7]
   cases hq:x.queue with
   | true =>
    rw [hq] at a8
    rw [decide_eq_true (if_pos rfl▸a8).1,decide_eq_true (if_pos rfl▸a8).2]
    rfl
   | false =>
    rw [hq] at a8
    have a9:x.cap=0:=a8
    rw [a9]
    rfl
  rw [if_pos e]
 ·intro j hj
  rw [List.length_map] at hj
  obtain ⟨t,ht⟩:∃ t,T[j]? = some t:=⟨_,List.getElem?_eq_getElem hj⟩
  have htm:=List.mem_of_getElem? ht
  obtain ⟨hta,hfr⟩:=hT t htm
  rw [tbE_at (by rw [List.getElem?_map,ht];rfl)]
  show tbW (P.map (pq w)) C (t.x::t.k.flat)=0
  unfold tbW
  rw [ofF_tree hta.ok]
  have hn:(t.x::t.k.flat).length=t.n:=hta.rd.len
  dsimp only
  rw [hn,hfr.1,if_pos rfl,hlen]
  have ha:(tidy (one t.x t.k.lvs)).any (fun r=>decide ((n1:Int)≤r.p))=false:=by
   rw [List.any_eq_false]
   intro r hr
   have hq:=h.tq t htm
   have h1:∀ r∈one t.x t.k.lvs,r.p < (n1:Int):=one_parts (by omega) (hq t.x (by simp)).2 (lvs_parts (by omega) t.k fun y hy=>(hq y (by simp [hy])).2)
   have h2:=tidy_part hr
   obtain ⟨r',hr',e⟩:=h2
   have:=h1 r' hr'
   simp
   omega
  rw [ha,if_neg (by decide)]
  have hmap:(P.map (pq w)).map Prod.fst=P:=by
   rw [List.map_map]
   exact List.map_id P
  rw [hmap]
  exact holdsF_ok (by
   rw [List.any_eq_false]
   intro x hx
   have:=hlo x hx t htm
   rw [show tidy (one t.x t.k.lvs)=rowF t from rfl,this]
   decide) (shortF_iff.2 fun k x hx=>hso k x hx t htm)
end Go.Proofs.YtfmndmhjjbeokaaGreatDoor
namespace Go.Proofs.YtfmndmhjjbeokaaGreatDoor
open Go.RowKit Tab Txt
set_option linter.unusedSimpArgs false
set_option linter.unusedVariables false
theorem cell_two {w:World} {b o:Nat} {v:Value} (h0:w.cell? ⟨b,0,none⟩=some v) (h2:w.cell? ⟨b,2,none⟩=none) (ho:2≤o):w.cell? ⟨b,o,none⟩=none:=by
 unfold World.cell? at h0 h2 ⊢
 dsimp only at h0 h2 ⊢
 split at h0
 ·rename_i c t fr e
  rw [e] at h2
  simp only [Option.isSome_none,Bool.false_eq_true,if_false] at h2 ⊢
  rw [Array.getElem?_eq_none_iff] at h2 ⊢
  omega
 ·cases h0
theorem rd_tape {w w':World} {B b:Nat} {A:Option Addr} {m c:Nat} {f:Nat→Int} {at_ at':Nat} (T:TapeW w B b A m c f at_) (T':TapeW w' B b A m c f at') (hg:w.grownBy w' (some b)) {A1:Option Addr} {l:List Value} {B1:Nat} (h:RdV w B1 A1 l)
  (h0:∀ z,l[0]? = some (.int .i64 z)→1 < l.length) (h1:∀ z,l[1]? = some (.int .i64 z)→∀ A n c,l[0]?≠some (.slice A n c)):RdV w' B1 A1 l:=by
 intro hpos
 obtain ⟨ad,rfl,hlt,hc⟩:=h hpos
 refine ⟨ad,rfl,hlt,fun j v hj=>?_⟩
 have hv:=hc j v hj
 by_cases hb:ad.block=b
 ·have c0:=hc 0 l[0] (List.getElem?_eq_getElem hpos)
  have hsp:ad.spot=none:=by
   have e:ad.add 0=ad:=by simp [Addr.add]
   rw [e] at c0
   unfold World.cell? at c0
   split at c0
   ·split at c0
    ·cases c0
    ·rename_i hs
     cases e2:ad.spot with
     | none=>rfl
     | some x=>rw [e2] at hs;exact absurd rfl hs
   ·cases c0
  have hadd:∀ i,ad.add i=⟨b,ad.off+i,none⟩:=fun i=>by
   unfold Addr.add
   split
   ·rename_i e
    subst e
    obtain ⟨x,y,z⟩:=ad
    dsimp only at hb hsp ⊢
    rw [hb,hsp,Nat.add_zero]
   ·obtain ⟨x,y,z⟩:=ad
    dsimp only at hb ⊢
    rw [hb]
  rw [hadd] at hv ⊢
  rcases (by omega:ad.off+j=0∨ad.off+j=1∨2≤ad.off+j) with e | e | e
  ·rw [e] at hv ⊢
   rw [T'.c0,← T.c0]
   exact hv
  ·exfalso
   rw [e,T.c1] at hv
   injection hv with hv
   subst hv
   rcases (by omega:j=0∨(j=1∧ad.off=0)) with e1 | ⟨e1,e2⟩
   ·subst e1
    have hl:=h0 _ hj
    have:=hc 1 l[1] (List.getElem?_eq_getElem hl)
    rw [hadd,show ad.off+1=2 by omega,T.two] at this
    cases this
   ·subst e1
    rw [hadd,e2,T.c0] at c0
    injection c0 with c0
    exact h1 _ hj _ _ _ (by rw [List.getElem?_eq_getElem hpos,← c0])
  ·rw [cell_two T.c0 T.two e] at hv
   cases hv
 ·have hbl:(ad.add j).block=ad.block:=add_block ad j
  refine (World.cell?_of_block (hg.block _ ?_ ?_)).trans hv
  ·exact World.block_lt_of_cell? w _ hv
  ·rw [hbl]
   intro e
   injection e with e
   exact hb e
theorem CfR.tape {w w':World} {B b:Nat} {A:Option Addr} {m c:Nat} {f:Nat→Int} {at_ at':Nat} (T:TapeW w B b A m c f at_) (T':TapeW w' B b A m c f at') (hg:w.grownBy w' (some b)) {x:Cf} (h:CfR w x):CfR w' x:=by
 refine ⟨⟨h.pp.len,((rd_tape T T' hg h.pp.rd ?_ ?_)).more hg.size⟩,⟨h.ch.len,(rd_tape T T' hg h.ch.rd ?_ ?_).more hg.size⟩,⟨h.tb.len,(rd_tape T T' hg h.tb.rd ?_ ?_).more hg.size⟩,fun y hy=>⟨⟨(h.pt y hy).1.per,(h.pt y hy).1.name,(h.pt y hy).1.procs.len,(rd_tape T T' hg (h.pt y hy).1.procs.rd ?_ ?_).more hg.size⟩,(h.pt y hy).2⟩,fun t ht=>⟨⟨(h.tt t ht).rd.len,(rd_tape T T' hg (h.tt t ht).rd.rd ?_ ?_).more hg.size,(h.tt t ht).rd.bd⟩,(h.tt t ht).cap,(h.tt t ht).few⟩,h.k1,h.k2,h.k3,h.m1,h.m2,h.m3,h.z⟩
 ·intro z e
  cases hP:x.P with
  | nil=>rw [hP] at e;cases e
  | cons y l=>rw [hP] at e;cases e
 ·intro z e A n c e2
  cases hP:x.P with
  | nil=>rw [hP] at e2;cases e2
  | cons y l=>rw [hP] at e2;cases e2
 ·intro z e
  cases hP:x.C with
  | nil=>rw [hP] at e;cases e
  | cons y l=>simp [cc]
 ·intro z e A n c e2
  cases hP:x.C with
  | nil=>rw [hP] at e2;cases e2
  | cons y l=>rw [hP] at e2;cases e2
 ·intro z e
  cases hP:x.T with
  | nil=>rw [hP] at e;cases e
  | cons y l=>rw [hP] at e;cases e
 ·intro z e A n c e2
  cases hP:x.T with
  | nil=>rw [hP] at e;cases e
  | cons y l =>
   cases l with
   | nil=>rw [hP] at e;cases e
   | cons y2 l=>rw [hP] at e;cases e
 ·intro z e
  cases hP:y.2 with
  | nil=>rw [hP] at e;cases e
  | cons q l=>simp [prc]
 ·intro z e A n c e2
  cases hP:y.2 with
  | nil=>rw [hP] at e2;cases e2
  | cons q l=>rw [hP] at e2;cases e2
 ·intro z e
  cases hP:t.l with
  | nil=>rw [hP] at e;cases e
  | cons q l=>simp [ns]
 ·intro z e A n c e2
  cases hP:t.l with
  | nil=>rw [hP] at e2;cases e2
  | cons q l=>rw [hP] at e2;cases e2
structure TxC (y:Cf) (Fs:List F) (w:World):Prop where
 rd:CfR w y
 sm:SmX 16 y
 ri:RiX y
 fl:Fs.length=y.n3
 ff:∀ (i:Nat) (t:NdT) (f:F),y.T[i]? = some t→Fs[i]? = some f→∃ z k,f=.cons z k .nil∧f.ok∧t.l=z::k.flat
 mx:∀ x∈y.C,0≤x.max∧x.max≤4294967295
 pp:∀ t∈y.T,∀ z∈t.l,z.k=1→z.p < y.n1
 len:(textT (linesT y.P y.C Fs)).length≤7000
 back:parseP (textT (linesT y.P y.C Fs))=(0,0,⟨y.P.map stripP,y.C,y.T.map fun t=>ndT0 t.l⟩)
 rem:parseP ([35,10,10]++(textT (linesT y.P y.C Fs)++[10,35,32,101,110,100]))=(0,0,⟨y.P.map stripP,y.C,y.T.map fun t=>ndT0 t.l⟩)
 free:∀ z∈linesT y.P y.C Fs,(10:UInt8) ∉ z
 lin:linesP 0 cft0 (linesT y.P y.C Fs++[[]])=.inr ⟨y.P.map stripP,y.C,y.T.map fun t=>ndT0 t.l⟩
set_option maxHeartbeats 2000000 in
theorem tape_text (B b:Nat) (A:Option Addr) (m c:Nat) (f:Nat→Int) (hm:m≤140737488351232) (at_:Nat) (w:World) (T0:TapeW w B b A m c f at_) :
  Calls Tryz.prog 8 #[.pointer (some ⟨b,0,none⟩)] w (fun e w'=>∃ y Fs at',e=.returned (cfv y)∧TxC y Fs w'∧TapeW w' B b A m c f at'∧w.grownBy w' (some b)):=by
 refine (config_anyr B b A m c f hm at_ w T0).mono ?_
 rintro e w1 ⟨A1,A2,A3,n1,n2,n3,c1,c2,c3,P,C,T,at',rfl,hCf,q1,q2,q3,q4,q5,hco,hT,hTt,q6,q7,q8,TW,G1,hper,hlo,hso,_,_,_,_,_,hrt⟩
 obtain ⟨hP,hC⟩:=hCf
 have hPl:P.length=n1:=hP.len
 have hCl:C.length=n2:=hC.len
 have hTl:T.length=n3:=hT.len
 have hnm:∀ x∈P,(1≤x.pn∧x.pn≤2)∧x.pn≤x.pc:=fun x hx=>by
  obtain ⟨i,hi⟩:=List.getElem?_of_mem hx
  exact (hrt.nm i x hi).2.2
 have hfew:∀ t∈T,t.n≤128:=fun t ht=>(ofz_ok (hTt t ht).2.1).1
 obtain ⟨y,hy⟩:∃ y:Cf,y=⟨A1,A2,A3,n1,n2,n3,c1,c2,c3,P.map (pq w1),C,T.map ndT⟩:=⟨_,rfl⟩
 have hcf:CfR w1 y:=by
  rw [hy]
  refine ⟨hP.pq w1,hC,hT.ndt,fun y hy=>?_,fun y hy=>?_,q4,q5,q8,by show n1≤_;omega,by show n2≤_;omega,by show n3≤_;omega,by show n1*104≤_;omega,by show n2*48≤_;omega,by show n3*24≤_;omega,fun y hy=>?_,fun y hy=>?_⟩
  ·obtain ⟨x,hx,rfl⟩:=List.mem_map.1 hy
   have h1:=hnm x hx
   exact ⟨(hrt.pt x hx).ax,h1.2,by show x.pn≤_;omega⟩
  ·obtain ⟨t,ht,rfl⟩:=List.mem_map.1 hy
   exact (hTt t ht).1.nd
  ·obtain ⟨x,hx,rfl⟩:=List.mem_map.1 hy
   have h1:=hnm x hx
   show x.pn*16≤_
   omega
  ·obtain ⟨t,ht,rfl⟩:=List.mem_map.1 hy
   have h1:=hfew t ht
   show t.n*24≤_
   omega
 have hsm:SmX 16 y:=by
  rw [hy]
  refine ⟨q1,by show n1≤_;omega,by show n2≤_;omega,by show n3≤_;omega,fun y hy=>?_,fun y hy=>?_⟩
  ·obtain ⟨x,hx,rfl⟩:=List.mem_map.1 hy
   have h1:=hnm x hx
   show x.pn≤16
   omega
  ·obtain ⟨t,ht,rfl⟩:=List.mem_map.1 hy
   have h1:=hfew t ht
   show t.n≤_
   omega
 have hwh:(whF y).1=0:=by
  have h3:C.length≤3:=by omega
  have h4:1≤T.length:=by omega
  have h5:T.length≤2:=by omega
  rw [hy]
  exact rt_right hrt hPl q1 q2 h3 h4 h5 hTt hlo hso
 have hri:=RiX.of hwh
 have hPn:y.P.length=n1:=by rw [hy];show (P.map (pq w1)).length=n1;rw [List.length_map];exact hPl
 have hyC:y.C=C:=by rw [hy]
 have hyT:y.T=T.map ndT:=by rw [hy]
 have hmx:∀ x∈y.C,0≤x.max∧x.max≤4294967295:=fun x hx=>by
  rw [hyC] at hx
  exact (hco x hx).2.2.2.2
 have hpr:∀ z∈y.P,PrIn z∧z.2.length=z.1.pn:=fun z hz=>by
  obtain ⟨k,hk⟩:=List.getElem?_of_mem hz
  exact ⟨PrIn.of hk (hri.pt k (List.getElem?_eq_some_iff.1 hk).1),hcf.lens z hz⟩
 have hpc:∀ x∈y.C,PcIn y.P.length x:=fun x hx=>by
  obtain ⟨k,hk⟩:=List.getElem?_of_mem hx
  exact PcIn.of hk (hri.ch k (List.getElem?_eq_some_iff.1 hk).1) (hmx x hx)
 have hft:∀ ff∈T.map (fun t=>F.cons t.x t.k .nil),TbIn y.P.length ff∧(∀ z∈ff.flat,z.n.toNat < 100000)∧ff.sz≤128:=fun ff hf=>by
  obtain ⟨t,ht,rfl⟩:=List.mem_map.1 hf
  rw [hPn]
  exact tbIn_of (hTt t ht).1.ok (hTt t ht).2.1 (by have:=(hTt t ht).1.rd.len;rw [List.length_cons,F.flat_length] at this;exact this) (hrt.tq t ht)
 have hFs:(T.map fun t=>F.cons t.x t.k .nil).map (fun ff=>ndT0 ff.flat)=y.T.map fun t=>ndT0 t.l:=by
  rw [hyT,List.map_map,List.map_map]
  refine List.map_congr_left fun t ht=>?_
  show ndT0 (F.cons t.x t.k .nil).flat=ndT0 (ndT t).l
  have e:(F.cons t.x t.k .nil).flat=t.x::t.k.flat:=by simp [F.flat]
  rw [e]
  rfl
 have hcl:y.C.length≤3:=by rw [hyC];omega
 have hfl:(T.map fun t=>F.cons t.x t.k .nil).length≤2:=by rw [List.length_map];omega
 have hbk:=text_back (x:=y) hri hpr hpc hft hFs (by omega) hcl hfl
 refine ⟨y,T.map (fun t=>F.cons t.x t.k .nil),at',by rw [hy],⟨hcf,hsm,hri,by rw [List.length_map,hTl,hy],fun i t ff ht hf=>?_,hmx,fun t ht z hz hk=>?_,hbk.1,hbk.2.1,hbk.2.2.1,hbk.2.2.2.1,hbk.2.2.2.2⟩,TW,G1⟩
 ·rw [hyT,List.getElem?_map] at ht
  rw [List.getElem?_map] at hf
  cases e:T[i]? with
  | none=>rw [e] at hf;cases hf
  | some u =>
   rw [e] at hf ht
   injection hf with hf
   injection ht with ht
   exact ⟨u.x,u.k,hf.symm,by rw [← hf];exact (hTt u (List.mem_of_getElem? e)).1.ok,by rw [← ht];rfl⟩
 ·rw [hyT] at ht
  obtain ⟨u,hu,rfl⟩:=List.mem_map.1 ht
  have:=(hrt.tq u hu z hz).2
  rw [hy]
  exact this
end Go.Proofs.YtfmndmhjjbeokaaGreatDoor
