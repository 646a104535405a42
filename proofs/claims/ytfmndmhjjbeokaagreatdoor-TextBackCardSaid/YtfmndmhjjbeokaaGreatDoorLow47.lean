import Derived.Test.YtfmndmhjjbeokaaGreatDoorLow40
import Derived.Test.YtfmndmhjjbeokaaGreatDoorLow41
import Derived.Test.YtfmndmhjjbeokaaGreatDoorLow32
import Derived.Test.YtfmndmhjjbeokaaGreatDoorLow29
import Derived.Test.YtfmndmhjjbeokaaGreatDoorLow46
import Derived.Test.YtfmndmhjjbeokaaGreatDoorLow23
import Derived.Test.YtfmndmhjjbeokaaGreatDoorLow45
import Derived.Test.YtfmndmhjjbeokaaGreatDoorLow19
import Derived.Test.YtfmndmhjjbeokaaGreatDoorLow6
namespace Go.Proofs.YtfmndmhjjbeokaaGreatDoor
open Tab Txt
set_option linter.unusedSimpArgs false
set_option linter.unusedVariables false
theorem few_right3 {x:Nd} {k:F} (hok:(F.cons x k .nil).ok) (hn:∀ y∈x::k.flat,y.n≤4) (hd:k.dep≤3):k.sz+1≤85∧F.tick x k.len≤256:=by
 have hn':∀ y∈(F.cons x k .nil).flat,y.n≤4:=fun y hy=>hn y (by simpa [F.flat] using hy)
 have h1:=few_sz _ hok hn'
 have h2:=few_len _ hok hn'
 have hdd:(F.cons x k .nil).dep=k.dep+1:=by simp [F.dep]
 have m1:s4 (k.dep+1)≤s4 4:=s4_mono (by omega)
 have m2:4 ^ (k.dep+1)≤4 ^ 4:=Nat.pow_le_pow_right (by omega) (by omega)
 rw [hdd] at h1 h2
 simp only [F.cnt,F.sz,F.len] at h1 h2
 have e1:s4 4=85:=by decide
 have e2:(4:Nat) ^ 4=256:=by decide
 omega
theorem few_rt3 {x:Nd} {k:F} {n:Nat} (hok:(F.cons x k .nil).ok) (hn:∀ y∈x::k.flat,y.n≤4) (hd:k.dep≤3) (hl:k.sz+1=n):rt n (k.dep+1) (F.tick x k.len)=0:=by
 have:=few_right3 hok hn hd
 unfold rt
 rw [if_neg (by omega),if_neg (by omega),if_neg (by omega)]
theorem tick_num:∀ (f:F),f.ok→∀ y∈f.flat,y.n.toNat≤128∨y.n.toNat≤f.len
 | .nil,_,y,hy=>by simp [F.flat] at hy
 | .cons x k r,h,y,hy=>by
  have hx1:=fine_one h.1
  have hk:=h.2.1
  simp only [F.flat,List.mem_cons,List.mem_append] at hy
  simp only [F.len]
  rcases hy with rfl | hy | hy
  ·unfold F.tick
   unfold kn at hk
   split
   ·rename_i h3
    have hf:=h.1
    unfold fine at hf
    rw [if_neg (by omega),if_neg (by omega),if_pos h3] at hf
    simp only [Bool.and_eq_true,decide_eq_true_eq] at hf
    omega
   ·rename_i h3
    rw [if_neg h3] at hk
    split
    ·rename_i h4
     rw [if_pos h4] at hk
     have hp:=F.len_pos h.2.2.1 (by omega)
     have:=Nat.le_mul_of_pos_left y.n.toNat hp
     omega
    ·omega
  ·have ih:=tick_num k h.2.2.1 y hy
   unfold F.tick
   unfold kn at hk
   split
   ·omega
   ·rename_i h3
    rw [if_neg h3] at hk
    split
    ·have:=Nat.le_mul_of_pos_right k.len (show 0 < x.n.toNat by omega)
     omega
    ·rename_i h4
     rw [if_neg h4] at hk
     rw [F.cnt_zero hk] at hy
     simp [F.flat] at hy
  ·have ih:=tick_num r h.2.2.2 y hy
   omega
theorem tbIn_of {n m:Nat} {x:Nd} {k:F} (hok:(F.cons x k .nil).ok) (hz:ofz m (k.dep+1) (one x k.lvs)=0) (hm:k.sz+1=m) (hq:∀ y∈x::k.flat,0≤y.p∧y.p < (n:Int)) :
  TbIn n (.cons x k .nil)∧(∀ y∈(F.cons x k .nil).flat,y.n.toNat < 100000)∧(F.cons x k .nil).sz≤128:=by
 obtain ⟨h1,h2,h3,_⟩:=ofz_ok hz
 rw [one_ticks,lvs_ticks] at h3
 have hfl:(F.cons x k .nil).flat=x::k.flat:=by simp [F.flat]
 have hnum:∀ y∈(F.cons x k .nil).flat,y.n.toNat < 100000:=fun y hy=>by
  have:=tick_num _ hok y hy
  simp only [F.len] at this
  omega
 have hsz:(F.cons x k .nil).sz≤128:=by simp only [F.sz];omega
 refine ⟨⟨⟨x,k,rfl⟩,hok,by simp only [F.dep];omega,hsz,fun y hy=>?_,fun y hy _=>hq y (by rw [← hfl];exact hy)⟩,hnum,hsz⟩
 have:=hnum y hy
 unfold lim40
 omega
theorem tx_few {nm:Int→List UInt8} (hnm:∀ p,(nm p).length≤12):∀ (f:F),(∀ y∈f.flat,y.n.toNat < 100000)→∀ b,(txX nm f b).length≤f.sz*20
 | .nil,_,_=>by simp [txX]
 | .cons x k r,h,b=>by
  have h1:=tx_few hnm k (fun y hy=>h y (by simp [F.flat,hy])) false
  have h2:=tx_few hnm r (fun y hy=>h y (by simp [F.flat,hy])) true
  have h3:=num_few (n:=x.n.toNat) (h x (by simp [F.flat]))
  have h4:=hnm x.p
  have h5:(txN nm x (txX nm k false)).length≤19+(txX nm k false).length:=by
   unfold txN
   split
   ·simp only [List.length_cons,List.length_append];omega
   ·split
    ·simp only [List.length_cons];omega
    ·split
     ·simp only [List.length_cons,List.length_append,List.length_nil];omega
     ·simp only [List.length_cons,List.length_append,List.length_nil];omega
  show ((if b=true then [44] else [])++(txN nm x (txX nm k false)++txX nm r true)).length≤(1+k.sz+r.sz)*20
  rw [List.length_append,List.length_append]
  have h6:(if b=true then ([44]:List UInt8) else []).length≤1:=by split <;> simp
  omega
theorem nmP_12 {L:List (List UInt8)} (h:∀ s∈L,s.length≤12) (p:Int):(nmP L p).length≤12:=by
 unfold nmP
 split
 ·rw [List.getD_eq_getElem?_getD]
  cases e:L[p.toNat]? with
  | none=>exact Nat.zero_le _
  | some x=>exact h x (List.mem_of_getElem? e)
 ·exact Nat.zero_le _
theorem fm_len {α:Type} (f:α→List UInt8) (k:Nat):∀ (L:List α),(∀ x∈L,(f x).length≤k)→(L.flatMap f).length≤L.length*k
 | [],_=>by simp
 | x::L,h=>by
  have h1:=h x (by simp)
  have h2:=fm_len f k L fun y hy=>h y (by simp [hy])
  rw [List.flatMap_cons,List.length_append,List.length_cons,Nat.succ_mul]
  omega
theorem text_few {P:List Pq} {C:List ChV} {T:List F} (hP:∀ y∈P,PrIn y∧y.2.length=y.1.pn) (hC:∀ x∈C,PcIn P.length x) (hT:∀ f∈T,(∃ x k,f=.cons x k .nil)∧(∀ y∈f.flat,y.n.toNat < 100000)∧f.sz≤128)
  (h1:P.length≤4) (h2:C.length≤3) (h3:T.length≤2):(textT (linesT P C T)).length≤7000:=by
 have hN:∀ s∈namesP P,s.length≤12:=fun s hs=>by
  obtain ⟨y,hy,rfl⟩:=List.mem_map.1 hs
  exact name_16 (hP y hy).1.name
 have l1:=fm_len partL 100 P fun y hy=>partL_len (hP y hy).1 (hP y hy).2
 have l2:=fm_len (chanL (namesP P)) 170 C fun x hx=>chanL_len (fun s hs=>by have:=hN s hs;omega) (hC x hx)
 have l3:=fm_len (tabL (namesP P)) 2570 T fun f hf=>by
  obtain ⟨⟨x,k,rfl⟩,q1,q2⟩:=hT f hf
  have:=tx_few (nmP_12 hN) _ q1 false
  rw [tabL_eq]
  simp only [List.length_append,List.length_cons,List.length_nil,show wTable.length=5 from rfl]
  omega
 rw [textT_lines,List.length_append,List.length_append]
 have m1:P.length*100≤4*100:=Nat.mul_le_mul_right _ h1
 have m2:C.length*170≤3*170:=Nat.mul_le_mul_right _ h2
 have m3:T.length*2570≤2*2570:=Nat.mul_le_mul_right _ h3
 omega
theorem text_lines {P:List Pq} {C:List ChV} {T:List F} (hP:∀ y∈P,PrIn y∧y.2≠[]) (hN:NmsR (namesP P)) (hC:∀ x∈C,PcIn P.length x) (hT:∀ f∈T,TbIn P.length f) :
  (∀ x∈linesT P C T,(10:UInt8) ∉ x)∧linesP 0 cft0 (linesT P C T++[[]])=.inr ⟨P.map stripP,C,T.map fun f=>ndT0 f.flat⟩:=by
 have hNl:(namesP P).length=P.length:=by unfold namesP;rw [List.length_map]
 constructor
 ·intro x hx
  unfold linesT at hx
  rcases List.mem_append.1 hx with h | h
  ·obtain ⟨y,hy,rfl⟩:=List.mem_map.1 h
   exact join_ne (by decide) (part_ne (hP y hy).1 (by decide))
  ·rcases List.mem_append.1 h with h | h
   ·obtain ⟨y,hy,rfl⟩:=List.mem_map.1 h
    exact join_ne (by decide) (chan_ne hN y (by decide))
   ·obtain ⟨y,hy,rfl⟩:=List.mem_map.1 h
    exact join_ne (by decide) (tab_ne hN y (by decide))
 ·unfold linesT
  rw [List.append_assoc,List.append_assoc,lines_part P _ _ _ hP,lines_chan (namesP P) hN C _ _ _ (by show namesP ([]++P.map stripP)=_;rw [List.nil_append,names_strip]) (by rw [hNl];exact hC),
   lines_tab (namesP P) hN T _ _ (by show namesP ([]++P.map stripP)=_;rw [List.nil_append,names_strip]) (by rw [hNl];exact hT)]
  rfl
theorem same_strip {a b:Pq} (h:stripP a=stripP b):SameP a b:=by
 obtain ⟨⟨a0,a1,a2,a3,a4,a5,a6,a7,a8,a9,aa,ab,ac⟩,al⟩:=a
 obtain ⟨⟨b0,b1,b2,b3,b4,b5,b6,b7,b8,b9,ba,bb,bc⟩,bl⟩:=b
 unfold stripP at h
 simp only [Prod.mk.injEq,PtV.mk.injEq] at h
 obtain ⟨⟨h0,h1,h2,h3,h4,-,-,-,h8,h9,ha,hb,hc⟩,hl⟩:=h
 exact ⟨h0,h1,h2,h3,h4,⟨h8,h9,ha,hb,hc⟩,hl⟩
theorem same_lists {P P':List Pq} {C C':List ChV} {T T':List NdT} (hP:P.map stripP=P'.map stripP) (hC:C=C') (hT:T.map (fun t=>ndT0 t.l)=T'.map fun t=>ndT0 t.l):SameC P C T P' C' T':=by
 have l1:P.length=P'.length:=by have:=congrArg List.length hP;rwa [List.length_map,List.length_map] at this
 have l3:T.length=T'.length:=by have:=congrArg List.length hT;rwa [List.length_map,List.length_map] at this
 refine ⟨⟨l1,fun i x y hx hy=>?_,hC⟩,l3,fun i x y hx hy=>?_⟩
 ·have h:=congrArg (fun l=>l[i]?) hP
  simp only [List.getElem?_map,hx,hy,Option.map_some] at h
  exact same_strip (Option.some.inj h)
 ·have h:=congrArg (fun l=>l[i]?) hT
  simp only [List.getElem?_map,hx,hy,Option.map_some] at h
  have h2:ndT0 x.l=ndT0 y.l:=Option.some.inj h
  have h3:x.l=y.l:=by unfold ndT0 at h2;injection h2
  rw [h3]
  exact sameN_refl _
theorem where_strip {x:Cf} (h:RiX x) (hl:∀ y∈x.P,y.2.length=y.1.pn):(whereF (x.P.map stripP) x.C (x.T.map fun t=>ndT0 t.l)).1=0:=by
 have hs:SamX x ⟨x.A1,x.A2,x.A3,x.n1,x.n2,x.n3,x.c1,x.c2,x.c3,x.P.map stripP,x.C,x.T.map fun t=>ndT0 t.l⟩ :=
  same_lists (by rw [List.map_map];exact (List.map_congr_left fun y _=>rfl)) rfl (by rw [List.map_map];exact (List.map_congr_left fun t _=>rfl))
 have e:=whF_same hs hl (fun z hz=>by
  obtain ⟨y,hy,rfl⟩:=List.mem_map.1 hz
  rfl)
 rw [h.ok] at e
 have e2:whereF (x.P.map stripP) x.C (x.T.map fun t=>ndT0 t.l)=(0,-1):=e.symm
 rw [e2]
theorem text_back {x:Cf} {Fs:List F} (hr:RiX x) (hl:∀ y∈x.P,PrIn y∧y.2.length=y.1.pn) (hC:∀ y∈x.C,PcIn x.P.length y) (hT:∀ f∈Fs,TbIn x.P.length f∧(∀ y∈f.flat,y.n.toNat < 100000)∧f.sz≤128)
  (hF:Fs.map (fun f=>ndT0 f.flat)=x.T.map fun t=>ndT0 t.l) (h1:x.P.length≤4) (h2:x.C.length≤3) (h3:Fs.length≤2) :
  (textT (linesT x.P x.C Fs)).length≤7000∧parseP (textT (linesT x.P x.C Fs))=(0,0,⟨x.P.map stripP,x.C,x.T.map fun t=>ndT0 t.l⟩) ∧
   parseP ([35,10,10]++(textT (linesT x.P x.C Fs)++[10,35,32,101,110,100]))=(0,0,⟨x.P.map stripP,x.C,x.T.map fun t=>ndT0 t.l⟩) ∧
   (∀ z∈linesT x.P x.C Fs,(10:UInt8) ∉ z)∧linesP 0 cft0 (linesT x.P x.C Fs++[[]])=.inr ⟨x.P.map stripP,x.C,x.T.map fun t=>ndT0 t.l⟩:=by
 have hP:∀ y∈x.P,PrIn y∧y.2≠[]:=fun y hy=>⟨(hl y hy).1,fun e=>by
  have a:=(hl y hy).2
  have b:=(hl y hy).1.few
  rw [e] at a
  simp at a
  omega⟩
 have hN:=right_names hr.pt
 have hw:=where_strip hr fun y hy=>(hl y hy).2
 have hlen:=text_few hl hC (fun f hf=>⟨(hT f hf).1.one,(hT f hf).2.1,(hT f hf).2.2⟩) h1 h2 h3
 obtain ⟨h10,hlin⟩:=text_lines hP hN hC fun f hf=>(hT f hf).1
 rw [hF] at hlin
 refine ⟨hlen,?_,parse_remarks _ _ h10 hlin (by omega) hw,h10,hlin⟩
 have:=parse_text x.P x.C Fs hP hN hC (fun f hf=>(hT f hf).1) (by omega) (by rw [hF];exact hw)
 rw [hF] at this
 exact this
end Go.Proofs.YtfmndmhjjbeokaaGreatDoor
namespace Go.Proofs.YtfmndmhjjbeokaaGreatDoor
open Go.RowKit Tab
set_option linter.unusedSimpArgs false
set_option linter.unusedVariables false
theorem flat_inj:∀ (a b:F) (s t:List Nd),a.ok→b.ok→a.cnt=b.cnt→a.flat++s=b.flat++t→a=b∧s=t
 | .nil,.nil,s,t,_,_,_,h=>⟨rfl,by simpa [F.flat] using h⟩
 | .nil,.cons _ _ _,_,_,_,_,hc,_=>by simp [F.cnt] at hc
 | .cons _ _ _,.nil,_,_,_,_,hc,_=>by simp [F.cnt] at hc
 | .cons x k r,.cons y k' r',s,t,ha,hb,hc,h=>by
  simp only [F.flat,List.cons_append,List.cons.injEq,List.append_assoc] at h
  obtain ⟨rfl,h⟩:=h
  obtain ⟨_,hk,hkok,hrok⟩:=ha
  obtain ⟨_,hk',hkok',hrok'⟩:=hb
  obtain ⟨rfl,h2⟩:=flat_inj k k' _ _ hkok hkok' (by rw [hk,hk']) h
  obtain ⟨rfl,h3⟩:=flat_inj r r' _ _ hrok hrok' (by simp [F.cnt] at hc;exact hc) h2
  exact ⟨rfl,h3⟩
theorem ofF_tree {x:Nd} {k:F} (hok:(F.cons x k .nil).ok):ofF (x::k.flat)=(ofz (x::k.flat).length (k.dep+1) (one x k.lvs),tidy (one x k.lvs)):=by
 obtain ⟨y,k',hok',hl,e⟩:=ofF_whole (tree_whole hok)
 simp only [List.cons.injEq] at hl
 obtain ⟨rfl,hl⟩:=hl
 obtain ⟨rfl,_⟩:=flat_inj k k' [] [] hok.2.2.1 hok'.2.2.1 (by rw [hok.2.1,hok'.2.1]) (by rw [hl])
 exact e
theorem nmL_name:∀ i,i < 4→nameF (nmL i)=true:=fun i hi=>by
 rcases (by omega:i=0∨i=1∨i=2∨i=3) with rfl | rfl | rfl | rfl <;> kernel_rfl
theorem nmL_ne:∀ i j,i < 4→j < 4→i≠j→decide (nmL i=nmL j)=false:=fun i j hi hj h=>by
 rcases (by omega:i=0∨i=1∨i=2∨i=3) with rfl | rfl | rfl | rfl <;> rcases (by omega:j=0∨j=1∨j=2∨j=3) with rfl | rfl | rfl | rfl <;> first | (exact absurd rfl h) | kernel_rfl
theorem heal_hl {x:PtV} (h:HealP x):∀ j,j < 5→hlF (hv5 x j)=true:=fun j hj=>by
 obtain ⟨h0,h1,h2,h3,h4⟩:=h
 unfold hlF
 simp only [Bool.and_eq_true,decide_eq_true_eq]
 rcases (by omega:j=0∨j=1∨j=2∨j=3∨j=4) with rfl | rfl | rfl | rfl | rfl
 ·exact h0
 ·exact h1
 ·exact h2
 ·exact h3
 ·exact h4
theorem rt_right {n1:Nat} {P:List PtV} {C:List ChV} {T:List TbV} {w:World} (h:RtW n1 P C T w) (hl:P.length=n1) (q1:1≤n1) (q2:n1≤4) (q3:C.length≤3) (q4:1≤T.length) (q5:T.length≤2)
  (hT:∀ t∈T,TbAt w w.heap.size t∧Frame t) (hlo:∀ x∈C,∀ t∈T,chLate (wordsL (rowF t)) x=false) (hso:∀ k x,P[k]? = some x→∀ t∈T,ptShort (wordsL (rowF t)) k x=false) :
  (whereF (P.map (pq w)) C (T.map ndT)).1=0:=by
 rcases h.dn with hz | hz
 case inr=>exact hz
 have hlen:(P.map (pq w)).length=n1:=by rw [List.length_map,hl]
 rw [whereF_ok]
 ·unfold sizesB
  rw [hlen,List.length_map]
  omega
 ·intro j hj
  rw [hlen] at hj
  obtain ⟨x,hx⟩:∃ x,P[j]? = some x:=⟨_,List.getElem?_eq_getElem (by omega)⟩
  obtain ⟨g1,g2,g3,g4⟩:=h.nm j x hx
  have hpx:(P.map (pq w))[j]? = some (pq w x):=by rw [List.getElem?_map,hx];rfl
  have hbx:=hz x (List.mem_of_getElem? hx)
  have hpt:=h.pt x (List.mem_of_getElem? hx)
  rw [ptE_end hpx (by show nameF x.name=true;rw [g1];exact nmL_name j (by omega)) fun k y hk hy=>by
   rw [List.getElem?_map] at hy
   cases hpk:P[k]? with
   | none=>rw [hpk] at hy;cases hy
   | some z =>
    rw [hpk] at hy
    injection hy with hy
    subst hy
    show decide (z.name=x.name)=false
    rw [(h.nm k z hpk).1,g1]
    exact nmL_ne k j (by omega) (by omega) (by omega)]
  have e:partF (pq w x).1 (pq w x).2=true:=by
   show partF x (prL w x.pa x.pn)=true
   rw [partF_end g3.1 (by omega) (fun j q hq=>List.all_eq_true.1 (prL_ok hpt.procs) q (List.mem_of_getElem? hq)) (heal_hl g2),hbx.1,hbx.2]
   rfl
  rw [if_pos e]
 ·intro j hj
  obtain ⟨x,hx⟩:∃ x,C[j]? = some x:=⟨_,List.getElem?_eq_getElem hj⟩
  rw [chE_at hx,hlen]
  have hc:=h.ch x (List.mem_of_getElem? hx)
  have e:chanF x (n1:Int)=true:=by
   obtain ⟨⟨a1,a2,a3,a4,_,_⟩,⟨a5,a6⟩,a7,a8⟩:=hc
   unfold chanF
   rw [decide_eq_true a1,decide_eq_true a2,decide_eq_true a3,decide_eq_true a4,decide_eq_true a5,decide_eq_true a6,decide_eq_true a7]
   cases hq:x.queue with
   | true =>
    rw [hq] at a8
    rw [decide_eq_true (if_pos rfl▸a8).1,decide_eq_true (if_pos rfl▸a8).2]
    rfl
   | false =>
    rw [hq] at a8
    have a9:x.cap=0:=a8
    rw [a9]
    rfl
  rw [if_pos e]
 ·intro j hj
  rw [List.length_map] at hj
  obtain ⟨t,ht⟩:∃ t,T[j]? = some t:=⟨_,List.getElem?_eq_getElem hj⟩
  have htm:=List.mem_of_getElem? ht
  obtain ⟨hta,hfr⟩:=hT t htm
  rw [tbE_at (by rw [List.getElem?_map,ht];rfl)]
  show tbW (P.map (pq w)) C (t.x::t.k.flat)=0
  unfold tbW
  rw [ofF_tree hta.ok]
  have hn:(t.x::t.k.flat).length=t.n:=hta.rd.len
  dsimp only
  rw [hn,hfr.1,if_pos rfl,hlen]
  have ha:(tidy (one t.x t.k.lvs)).any (fun r=>decide ((n1:Int)≤r.p))=false:=by
   rw [List.any_eq_false]
   intro r hr
   have hq:=h.tq t htm
   have h1:∀ r∈one t.x t.k.lvs,r.p < (n1:Int):=one_parts (by omega) (hq t.x (by simp)).2 (lvs_parts (by omega) t.k fun y hy=>(hq y (by simp [hy])).2)
   have h2:=tidy_part hr
   obtain ⟨r',hr',e⟩:=h2
   have:=h1 r' hr'
   simp
   omega
  rw [ha,if_neg (by decide)]
  have hmap:(P.map (pq w)).map Prod.fst=P:=by
   rw [List.map_map]
   exact List.map_id P
  rw [hmap]
  exact holdsF_ok (by
   rw [List.any_eq_false]
   intro x hx
   have:=hlo x hx t htm
   rw [show tidy (one t.x t.k.lvs)=rowF t from rfl,this]
   decide) (shortF_iff.2 fun k x hx=>hso k x hx t htm)
end Go.Proofs.YtfmndmhjjbeokaaGreatDoor
namespace Go.Proofs.YtfmndmhjjbeokaaGreatDoor
open Go.RowKit Tab
set_option linter.unusedSimpArgs false
set_option linter.unusedVariables false
def TabsN (B b:Nat) (A:Option Addr) (m c:Nat) (f:Nat→Int) (Q X D:Nat) (w:World) (e:Ending) (w':World):Prop :=
 ∃ (x:Nd) (k:F) (A':Option Addr) (n' c' at':Nat),e=.returned (.slice A' n' c')∧(F.cons x k .nil).ok∧OwnN w' w.heap.size A' n' c' (x::k.flat)∧k.sz+1≤X∧k.dep≤D∧(∀ y∈x::k.flat,0≤y.p∧y.p < (Q:Int)∧y.n≤4)∧TapeW w' B b A m c f at'∧w.grownBy w' (some b)
set_option maxRecDepth 100000 in
set_option maxHeartbeats 4000000 in
theorem table_anyn (B b:Nat) (A:Option Addr) (m c:Nat) (f:Nat→Int) (hm:m≤140737488351232) (parts:Nat) (hp1:1≤parts) (hp2:parts≤6) (d:Nat):∀ (at_:Nat) (w:World),d≤6→TapeW w B b A m c f at_ →
  Calls Tryz.prog 10 #[.pointer (some ⟨b,0,none⟩),.int .i64 (parts:Int),.int .i64 (d:Int)] w (TabsN B b A m c f parts (5 ^ (d+1)) d w):=by
 induction d with
 | zero =>
  intro at_ w hd T
  have hX:5 ^ (0+1)=5:=rfl
  rw [hX]
  clear hX
  go_enter Tryz.func10,Tryz.ntmps10
  go_wp2_with fail
  refine (next_at B b A m c f at_ 7 _ w T rfl (by omega) (by omega) hm).mono ?_
  rintro e w1 ⟨k,at1,hk,rfl,T1,G1⟩
  by_cases hk0:k=0
  ·subst hk0
   go_wp2_with fail
   refine (next_at B b A m c f at1 4 _ w1 T1 rfl (by omega) (by omega) hm).mono ?_
   rintro e w2 ⟨j,at2,hj,rfl,T2,G2⟩
   go_wp2_with fail
   go_ret
   exact ⟨⟨2,0,1+(j:Int)⟩,.nil,_,1,1,at2,rfl,⟨(fine_iff _ _ _).2 (by omega),by simp [F.cnt,kn],trivial,trivial⟩,OwnN.lit w2 w.heap.size #[.int .i64 2,.int .i64 0,.int .i64 (1+(j:Int))] [⟨2,0,1+(j:Int)⟩] 1 rfl rfl (Nat.le_trans G1.size G2.size) (by omega) (by intro x hx;simp at hx;subst hx;exact ndIn_mk (by omega) (by omega) (by omega)),by simp only [F.sz];omega,by simp only [F.dep];omega,(by intro y hy;simp [F.flat] at hy;subst hy;dsimp only;omega),T2.below (bl1 w2 _) T2.lt,gb_alloc (gb_trans G1 G2) _⟩
  ·have hk0':((k:Int) == 0)=false:=beq_eq_false_iff_ne.2 (by omega)
   go_wp2_with fail
   refine (next_at B b A m c f at1 parts _ w1 T1 rfl hp1 (by omega) hm).mono ?_
   rintro e w2 ⟨p,at2,hp,rfl,T2,G2⟩
   go_wp2_with fail
   refine (next_at B b A m c f at2 4 _ w2 T2 rfl (by omega) (by omega) hm).mono ?_
   rintro e w3 ⟨j,at3,hj,rfl,T3,G3⟩
   go_wp2_with fail
   go_ret
   exact ⟨⟨1,(p:Int),1+(j:Int)⟩,.nil,_,1,1,at3,rfl,⟨(fine_iff _ _ _).2 (by omega),by simp [F.cnt,kn],trivial,trivial⟩,OwnN.lit w3 w.heap.size #[.int .i64 1,.int .i64 (p:Int),.int .i64 (1+(j:Int))] [⟨1,(p:Int),1+(j:Int)⟩] 1 rfl rfl (Nat.le_trans G1.size (Nat.le_trans G2.size G3.size)) (by omega) (by intro x hx;simp at hx;subst hx;exact ndIn_mk (by omega) (by omega) (by omega)),by simp only [F.sz];omega,by simp only [F.dep];omega,(by intro y hy;simp [F.flat] at hy;subst hy;dsimp only;omega),T3.below (bl1 w3 _) T3.lt,gb_alloc (gb_trans G1 (gb_trans G2 G3)) _⟩
 | succ d ih =>
  intro at_ w hd T
  have HIH:=Lib.hid ih
  clear ih
  have hX:5 ^ (d+1)≤78125:=Nat.le_trans (Nat.pow_le_pow_right (by omega) (show d+1≤7 by omega)) (by decide)
  have hX2:5 ^ (d+1+1)=5*5 ^ (d+1):=by rw [Nat.pow_succ,Nat.mul_comm]
  have hX1:1≤5 ^ (d+1):=Nat.pow_pos (by omega)
  rw [hX2]
  generalize 5 ^ (d+1)=X at hX hX1 HIH ⊢
  clear hX2
  have hd1:decide (((d+1:Nat):Int) < 1)=false:=decide_eq_false (by omega)
  go_enter Tryz.func10,Tryz.ntmps10
  go_wp2_with fail
  refine (next_at B b A m c f at_ 7 _ w T rfl (by omega) (by omega) hm).mono ?_
  rintro e w1 ⟨k,at1,hk,rfl,T1,G1⟩
  by_cases hk2:k < 2
  ·by_cases hk0:k=0
   ·subst hk0
    go_wp2_with fail
    refine (next_at B b A m c f at1 4 _ w1 T1 rfl (by omega) (by omega) hm).mono ?_
    rintro e w2 ⟨j,at2,hj,rfl,T2,G2⟩
    go_wp2_with fail
    go_ret
    exact ⟨⟨2,0,1+(j:Int)⟩,.nil,_,1,1,at2,rfl,⟨(fine_iff _ _ _).2 (by omega),by simp [F.cnt,kn],trivial,trivial⟩,OwnN.lit w2 w.heap.size #[.int .i64 2,.int .i64 0,.int .i64 (1+(j:Int))] [⟨2,0,1+(j:Int)⟩] 1 rfl rfl (Nat.le_trans G1.size G2.size) (by omega) (by intro x hx;simp at hx;subst hx;exact ndIn_mk (by omega) (by omega) (by omega)),by simp only [F.sz];omega,by simp only [F.dep];omega,(by intro y hy;simp [F.flat] at hy;subst hy;dsimp only;omega),T2.below (bl1 w2 _) T2.lt,gb_alloc (gb_trans G1 G2) _⟩
   ·have hk0':((k:Int) == 0)=false:=beq_eq_false_iff_ne.2 (by omega)
    go_wp2_with fail
    refine (next_at B b A m c f at1 parts _ w1 T1 rfl hp1 (by omega) hm).mono ?_
    rintro e w2 ⟨p,at2,hp,rfl,T2,G2⟩
    go_wp2_with fail
    refine (next_at B b A m c f at2 4 _ w2 T2 rfl (by omega) (by omega) hm).mono ?_
    rintro e w3 ⟨j,at3,hj,rfl,T3,G3⟩
    go_wp2_with fail
    go_ret
    exact ⟨⟨1,(p:Int),1+(j:Int)⟩,.nil,_,1,1,at3,rfl,⟨(fine_iff _ _ _).2 (by omega),by simp [F.cnt,kn],trivial,trivial⟩,OwnN.lit w3 w.heap.size #[.int .i64 1,.int .i64 (p:Int),.int .i64 (1+(j:Int))] [⟨1,(p:Int),1+(j:Int)⟩] 1 rfl rfl (Nat.le_trans G1.size (Nat.le_trans G2.size G3.size)) (by omega) (by intro x hx;simp at hx;subst hx;exact ndIn_mk (by omega) (by omega) (by omega)),by simp only [F.sz];omega,by simp only [F.dep];omega,(by intro y hy;simp [F.flat] at hy;subst hy;dsimp only;omega),T3.below (bl1 w3 _) T3.lt,gb_alloc (gb_trans G1 (gb_trans G2 G3)) _⟩
  ·by_cases hk3:k=2
   ·subst hk3
    go_wp2_with fail
    refine (next_at B b A m c f at1 3 _ w1 T1 rfl (by omega) (by omega) hm).mono ?_
    rintro e w2 ⟨j,at2,hj,rfl,T2,G2⟩
    go_wp2_with fail
    have ql:=OwnN.lit w2 w.heap.size #[.int .i64 4,.int .i64 0,.int .i64 (1+(j:Int))] [⟨4,0,1+(j:Int)⟩] 1 rfl rfl (Nat.le_trans G1.size G2.size) (by omega) (by intro x hx;simp at hx;subst hx;exact ndIn_mk (by omega) (by omega) (by omega))
    have T3:=T2.below (bl1 w2 (.cells #[.int .i64 4,.int .i64 0,.int .i64 (1+(j:Int))] 54)) T2.lt
    have G3:=gb_alloc (gb_trans G1 G2) (.cells #[.int .i64 4,.int .i64 0,.int .i64 (1+(j:Int))] 54)
    refine (HIH.out at2 _ (by omega) T3).mono ?_
    rintro e w4 ⟨x,k,A4,n4,c4,at4,rfl,hok,hown,hsz,hdp,hqq,T4,G4⟩
    have hb0:b < w.heap.size:=T.lt
    have ql4:=ql.gb G4 hb0
    have G5:=gb_trans G3 G4
    have hlen4:=hown.len
    simp only [List.length_cons,F.flat_length] at hlen4
    go_wp2_with (at_builtin;go_loud (refine wpList_appV elN rfl (.tmp 40) (.tmp 45) rfl rfl w.heap.size _ 1 1 _ rfl ql4.own A4 n4 c4 _ _ rfl hown.own.rd (by rw [ns_length,hown.len]) (ns_one _) (by omega) (by unfold maxLen;omega) G5.size (1+n4) rfl _ rfl ?_;intro A5 c5 w5 hw5 hb5 _))
    go_ret
    refine ⟨⟨4,0,1+(j:Int)⟩,.cons x k .nil,A5,1+n4,c5,at4,rfl,⟨(fine_iff _ _ _).2 (by omega),by simp [F.cnt,kn],hok,trivial⟩,⟨?_,?_,?_⟩,?_,?_,?_,T4.below hb5 hb0,gb_below G5 hb5 (Nat.le_refl _)⟩
    ·simp only [List.length_cons,F.flat,List.append_nil,F.flat_length];omega
    ·have e:(F.cons x k .nil).flat=x::k.flat:=by simp [F.flat]
     rw [e]
     exact hw5
    ·intro y hy
     have e:(F.cons x k .nil).flat=x::k.flat:=by simp [F.flat]
     rw [e] at hy
     rcases List.mem_cons.1 hy with rfl | hy
     ·exact ndIn_mk (by omega) (by omega) (by omega)
     ·exact hown.bd y hy
    ·simp only [F.sz];omega
    ·simp only [F.dep];omega
    ·intro y hy
     have e:(F.cons x k .nil).flat=x::k.flat:=by simp [F.flat]
     rw [e] at hy
     rcases List.mem_cons.1 hy with rfl | hy
     ·dsimp only;omega
     ·exact hqq y hy
   ·have hk3':((k:Int) == 2)=false:=beq_eq_false_iff_ne.2 (by omega)
    go_wp2_with fail
    refine (next_at B b A m c f at1 4 _ w1 T1 rfl (by omega) (by omega) hm).mono ?_
    rintro e w2 ⟨j,at2,hj,rfl,T2,G2⟩
    have hb0:b < w.heap.size:=T.lt
    have ql:=OwnN.lit w2 w.heap.size #[.int .i64 3,.int .i64 0,.int .i64 (1+(j:Int))] [⟨3,0,1+(j:Int)⟩] 1 rfl rfl (Nat.le_trans G1.size G2.size) (by omega) (by intro x hx;simp at hx;subst hx;exact ndIn_mk (by omega) (by omega) (by omega))
    have T3:=T2.below (bl1 w2 (.cells #[.int .i64 3,.int .i64 0,.int .i64 (1+(j:Int))] 54)) T2.lt
    have G3:=gb_alloc (gb_trans G1 G2) (.cells #[.int .i64 3,.int .i64 0,.int .i64 (1+(j:Int))] 54)
    go_wp2_with fail
    generalize w2.alloc (.cells #[.int .i64 3,.int .i64 0,.int .i64 (1+(j:Int))] 54)=w3 at ql T3 G3 ⊢
    go_loopw [9,10] (fun q s wr=>∃ (i:Nat) (g:F) (A1:Option Addr) (n1 c1 at':Nat),i≤1+j∧s=.int .i64 i∧q=.slice A1 n1 c1∧g.ok∧g.cnt=i∧OwnN wr w.heap.size A1 n1 c1 (⟨3,0,1+(j:Int)⟩::g.flat)∧g.sz≤i*X∧g.dep≤d+1∧(∀ y∈g.flat,0≤y.p∧y.p < (parts:Int)∧y.n≤4)∧TapeW wr B b A m c f at'∧w.grownBy wr (some b)) (fun _ s _=>1+j - (intOf s).toNat)
    case atStart=>exact ⟨0,.nil,_,1,1,at2,by omega,rfl,rfl,trivial,rfl,ql,by simp [F.sz],by simp [F.dep],(fun y hy=>by simp [F.flat] at hy),T3,G3⟩
    case round =>
     obtain ⟨i,g,A1,n1,c1,at3,hi,rfl,rfl,hgok,hgc,hown,hgs,hgd,hgq,T4,G4⟩:=hrel
     have HOK:=Lib.hid hgok
     have HGC:=Lib.hid hgc
     have HLEN:=Lib.hid hown.len
     have hiX:(i+1)*X=i*X+X:=Nat.succ_mul i X
     have hiX4:i*X≤4*X:=Nat.mul_le_mul_right _ (by omega)
     clear hgok hgc T1 T2 T3 G1 G2 G3 ql
     by_cases hlt:i < 1+j
     ·have hlt':decide ((i:Int) < 1+(j:Int))=true:=decide_eq_true (by omega)
      go_wp2_with fail
      refine (HIH.out at3 _ (by omega) T4).mono ?_
      rintro e w5 ⟨x,kk,A5,n5,c5,at5,rfl,hok,hown5,hsz,hdp,hqq5,T5,G5⟩
      have q5:=hown.gb G5 hb0
      have G6:=gb_trans G4 G5
      have hlen5:=hown5.len
      have hlen:=HLEN.out
      simp only [List.length_cons,F.flat_length] at hlen5 hlen
      go_wp2_with (at_builtin;go_loud (refine wpList_appV elN rfl (.tmp 58) (.tmp 63) rfl rfl w.heap.size _ n1 c1 _ rfl q5.own A5 n5 c5 _ _ rfl hown5.own.rd (by rw [ns_length,hown5.len]) (ns_one _) (by omega) (by unfold maxLen;omega) G6.size (n1+n5) rfl _ rfl ?_;intro A6 c6 w6 hw6 hb6 _))
      go_roundw
      case rel =>
       have e:(g.app (.cons x kk .nil)).flat=g.flat++x::kk.flat:=by rw [F.app_flat];simp [F.flat]
       refine ⟨i+1,g.app (.cons x kk .nil),A6,n1+n5,c6,at5,by omega,by go_num,rfl,F.app_ok HOK.out hok,by rw [F.app_cnt,HGC.out];rfl,⟨?_,?_,?_⟩,?_,?_,?_,T5.below hb6 hb0,gb_below G6 hb6 (Nat.le_refl _)⟩
       ·rw [e];simp only [List.length_cons,List.length_append,F.flat_length];omega
       ·rw [e,← List.cons_append,ns_append];exact hw6
       ·intro y hy
        rw [e,← List.cons_append] at hy
        rcases List.mem_append.1 hy with hy | hy
        ·exact hown.bd y hy
        ·exact hown5.bd y hy
       ·rw [F.app_sz,hiX];simp only [F.sz];omega
       ·rw [F.app_dep];simp only [F.dep];omega
       ·intro y hy
        rw [e] at hy
        rcases List.mem_append.1 hy with hy | hy
        ·exact hgq y hy
        ·exact hqq5 y hy
      case measure=>simp [intOf];omega
     ·have hlt':decide ((i:Int) < 1+(j:Int))=false:=decide_eq_false (by omega)
      go_wp2_with fail
      go_ret
      refine ⟨⟨3,0,1+(j:Int)⟩,g,A1,n1,c1,at3,rfl,⟨(fine_iff _ _ _).2 (by omega),?_,HOK.out,trivial⟩,hown,by omega,hgd,?_,T4,G4⟩
      rotate_left
      ·intro y hy
       rcases List.mem_cons.1 hy with rfl | hy
       ·dsimp only;omega
       ·exact hgq y hy
      have:=HGC.out
      simp only [kn]
      rw [if_pos trivial]
      omega
end Go.Proofs.YtfmndmhjjbeokaaGreatDoor
