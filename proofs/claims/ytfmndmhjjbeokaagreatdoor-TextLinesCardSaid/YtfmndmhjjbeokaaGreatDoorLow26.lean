import Derived.Test.YtfmndmhjjbeokaaGreatDoorLow25
import Derived.Test.YtfmndmhjjbeokaaGreatDoorLow24
import Derived.Test.YtfmndmhjjbeokaaGreatDoorLow21
import Derived.Test.YtfmndmhjjbeokaaGreatDoorLow22
import Derived.Laws.StructEq
import Derived.Test.YtfmndmhjjbeokaaGreatDoorLow11
import Derived.Test.YtfmndmhjjbeokaaGreatDoorLow5
namespace Go.Proofs.YtfmndmhjjbeokaaGreatDoor
open Go.RowKit Tab
set_option linter.unusedSimpArgs false
set_option linter.unusedVariables false
theorem bs_eq (a b:ByteArray):(a == b)=decide (a=b):=by
 show (a.data == b.data)=_
 by_cases h:a=b
 ·subst h;simp
 ·rw [decide_eq_false h]
  have:a.data≠b.data:=fun e=>h (ByteArray.ext e)
  simpa using this
theorem bs_eq_of {a b:ByteArray} {q:Bool} (h:decide (a=b)=q):(a.toList == b.toList)=q:=by rw [← beq_toListBytes,bs_eq,h]
abbrev Pq:=PtV×List (Int×Int)
def pcq (x:Pq):List Value:=pcl x.1
theorem pcq_len (x:Pq):(pcq x).length=11:=rfl
structure PtAx (w:World) (B:Nat) (x:Pq):Prop where
 per:In64 x.1.per
 name:x.1.name.size≤140737488351232
 procs:RdB prc w B x.1.pa x.1.pn x.2
theorem PtAx.on {w w':World} {x:Pq} (h:PtAx w w.heap.size x) (hb:Below w.heap.size w w'):PtAx w' w'.heap.size x:=⟨h.per,h.name,h.procs.on hb⟩
theorem pcq_map (P:List Pq):P.flatMap pcq=(P.map Prod.fst).flatMap pcl:=by
 rw [List.flatMap_map]
 rfl
theorem RdB.fsts {w:World} {B n:Nat} {A:Option Addr} {P:List Pq} (h:RdB pcq w B A n P):RdB pcl w B A n (P.map Prod.fst):=⟨by rw [List.length_map];exact h.len,by rw [← pcq_map];exact h.rd⟩
structure NdT where
 A:Option Addr
 n:Nat
 c:Nat
 l:List Nd
def tcn (t:NdT):List Value:=[.slice t.A t.n t.c]
theorem tcn_len (t:NdT):(tcn t).length=1:=rfl
structure NdAt (w:World) (B:Nat) (t:NdT):Prop where
 rd:RdN w B t.A t.n t.l
 cap:t.n≤t.c
 few:t.n≤140737488351232
theorem NdAt.on {w w':World} {t:NdT} (h:NdAt w w.heap.size t) (hb:Below w.heap.size w w'):NdAt w' w'.heap.size t:=⟨h.rd.on hb,h.cap,h.few⟩
noncomputable def ofF (l : List Nd) : Int × List Rn :=
  if h : wholeB l = true then
    (ofz l.length ((Classical.choose (Classical.choose_spec (whole_tree h))).dep + 1) (one (Classical.choose (whole_tree h)) (Classical.choose (Classical.choose_spec (whole_tree h))).lvs),
     tidy (one (Classical.choose (whole_tree h)) (Classical.choose (Classical.choose_spec (whole_tree h))).lvs))
  else (rn l.length, [])
theorem ofF_whole {l:List Nd} (h:wholeB l=true):∃ (x:Nd) (k:F),(F.cons x k .nil).ok∧l=x::k.flat∧ofF l=(ofz l.length (k.dep+1) (one x k.lvs),tidy (one x k.lvs)):=by
 have e:=Classical.choose_spec (Classical.choose_spec (whole_tree h))
 exact ⟨_,_,e.1,e.2,by unfold ofF;rw [dif_pos h]⟩
theorem ofF_none {l:List Nd} (h:¬ wholeB l=true):ofF l=(rn l.length,[]):=by unfold ofF;rw [dif_neg h]
theorem ofF_ok {l:List Nd} (hz:(ofF l).1=0):ticks (ofF l).2≤4096∧(ofF l).2.length≤96:=by
 by_cases h:wholeB l=true
 ·obtain ⟨x,k,hok,hl,e⟩:=ofF_whole h
  rw [e] at hz ⊢
  dsimp only at hz ⊢
  obtain ⟨_,_,h3,h4⟩:=ofz_ok hz
  exact ⟨by rw [ticks_tidy];exact h3,h4⟩
 ·rw [ofF_none h] at hz
  dsimp only at hz
  unfold rn at hz
  split at hz <;> omega
theorem ofg_none {z:Int} (hz:¬ z=0) {w w':World} {e:Ending} (h:Ans (.tuple #[.slice none 0 0,.int .i64 z]) w e w'):OfG z [] w e w' :=
 ⟨none,0,0,h.1,Nat.le_refl _,fun h0=>absurd h0 hz,h.2⟩
theorem ofg_some {z:Int} {T:List Rn} (hz:¬ z=0) {w w':World} {e:Ending} (h:Ans (.tuple #[.slice none 0 0,.int .i64 z]) w e w'):OfG z T w e w' :=
 ⟨none,0,0,h.1,Nat.le_refl _,fun h0=>absurd h0 hz,h.2⟩
theorem ofF_big {l:List Nd} (h:128 < l.length):(ofF l).1=3:=by
 by_cases hw:wholeB l=true
 ·obtain ⟨x,k,_,_,e⟩:=ofF_whole hw
  rw [e]
  show ofz l.length _ _=3
  have e3:rt l.length (k.dep+1) (ticks (one x k.lvs))=3:=by unfold rt;rw [if_pos h]
  unfold ofz
  rw [e3,if_neg (by decide)]
 ·rw [ofF_none hw]
  exact if_pos h
set_option maxRecDepth 100000 in
theorem rofx_any (t:NdT) (w:World) (h:NdAt w w.heap.size t):Calls Tryz.prog 51 #[.slice t.A t.n t.c] w (OfG (ofF t.l).1 (ofF t.l).2 w):=by
 have hl:=h.rd.len
 by_cases hb:128 < t.n
 ·have hn:¬ (3:Int)=0:=by decide
  rw [ofF_big (by rw [hl];exact hb)]
  refine (rof_wrong t.A t.n t.c w _ ?_ hn).mono fun _ _ k=>ofg_some hn k
  have h1':(128:Int) < (t.n:Int):=by omega
  clear h hl hb
  go_enter Tryz.func18,Tryz.ntmps18
  go_wp2_with fail
  go_ret
  exact Ans.mk rfl (Below.refl _ _)
 by_cases hw:wholeB t.l=true
 ·obtain ⟨x,k,hok,he,e⟩:=ofF_whole hw
  rw [e]
  have hr:=h.rd
  rw [he] at hr hl ⊢
  rw [hl]
  exact rof_any t.A t.n t.c x k w hr h.cap hok (by omega)
 ·have hw':wholeB t.l=false:=by simpa using hw
  rw [ofF_none hw,hl]
  have hn:¬ rn t.n=0:=by unfold rn;split <;> omega
  exact (rof_wrong t.A t.n t.c w _ (rright_none t.A t.n t.c t.l w h.rd h.cap (by omega) hw') hn).mono fun _ _ k=>ofg_none hn k
def ptW (P:List Pq) (i:Nat) (x:Pq):Int:=if (!nameF x.1.name || (P.take i).any (fun y=>decide (y.1.name=x.1.name)))=true then 15 else if partF x.1 x.2=true then 0 else 16
def ptE (P:List Pq) (i:Nat):Int:=match P[i]? with | some x=>ptW P i x | none=>0
def chE (C:List ChV) (n:Nat) (i:Nat):Int:=match C[i]? with | some x=>if chanF x n=true then 0 else 17 | none=>0
noncomputable def tbW (P:List Pq) (C:List ChV) (l:List Nd):Int :=
 if (ofF l).1=0 then (if (ofF l).2.any (fun r=>decide ((P.length:Int)≤r.p))=true then 16 else holdsF (wordsL (ofF l).2) (P.map Prod.fst) C) else (ofF l).1
noncomputable def tbE (P:List Pq) (C:List ChV) (T:List NdT) (i:Nat):Int:=match T[i]? with | some t=>tbW P C t.l | none=>0
def firstF (f:Nat→Int) (n:Nat):Option Nat:=(List.range n).find? (fun i=>f i != 0)
theorem firstF_some {f:Nat→Int} {n i:Nat} (hi:i < n) (h0:∀ j,j < i→f j=0) (h:f i≠0):firstF f n=some i:=by
 unfold firstF
 rw [List.find?_eq_some_iff_append]
 refine ⟨by simpa using h,List.range i,(List.range' (i+1) (n - i - 1)),?_,fun a ha=>?_⟩
 ·apply List.ext_getElem?
  intro k
  rw [List.getElem?_append]
  simp only [List.length_range]
  split
  ·rename_i hk
   rw [List.getElem?_range (by omega),List.getElem?_range hk]
  ·rename_i hk
   by_cases hkn:k < n
   ·rw [List.getElem?_range hkn,List.getElem?_cons]
    split
    ·congr 1;omega
    ·rw [List.getElem?_range' (by omega)];congr 1;omega
   ·rw [List.getElem?_eq_none (by simp;omega),List.getElem?_eq_none (by simp;omega)]
 ·have:=h0 a (List.mem_range.1 ha)
  simp [this]
theorem firstF_none {f:Nat→Int} {n:Nat} (h0:∀ j,j < n→f j=0):firstF f n=none:=by
 unfold firstF
 rw [List.find?_eq_none]
 intro a ha
 simp [h0 a (List.mem_range.1 ha)]
def sizesB (P:List Pq) (C:List ChV) (T:List NdT):Prop:=1≤P.length∧P.length≤6∧C.length≤8∧1≤T.length∧T.length≤3
instance (P:List Pq) (C:List ChV) (T:List NdT):Decidable (sizesB P C T):=by unfold sizesB;infer_instance
noncomputable def whereF (P:List Pq) (C:List ChV) (T:List NdT):Int×Int :=
 if sizesB P C T then
  match firstF (ptE P) P.length with
  | some i=>(ptE P i,(i:Int))
  | none=>match firstF (chE C P.length) C.length with
   | some i=>(chE C P.length i,(i:Int))
   | none=>match firstF (tbE P C T) T.length with
    | some i=>(tbE P C T i,(i:Int))
    | none=>(0,-1)
 else (3,0)
section
variable {P:List Pq} {C:List ChV} {T:List NdT}
theorem whereF_big (h:¬ sizesB P C T):whereF P C T=(3,0):=by unfold whereF;rw [if_neg h]
theorem whereF_part (h:sizesB P C T) {i:Nat} (hi:i < P.length) (h0:∀ j,j < i→ptE P j=0) (hz:ptE P i≠0):whereF P C T=(ptE P i,(i:Int)):=by
 unfold whereF;rw [if_pos h,firstF_some hi h0 hz]
theorem whereF_chan (h:sizesB P C T) (hp:∀ j,j < P.length→ptE P j=0) {i:Nat} (hi:i < C.length) (h0:∀ j,j < i→chE C P.length j=0) (hz:chE C P.length i≠0):whereF P C T=(chE C P.length i,(i:Int)):=by
 unfold whereF;rw [if_pos h,firstF_none hp,firstF_some hi h0 hz]
theorem whereF_tab (h:sizesB P C T) (hp:∀ j,j < P.length→ptE P j=0) (hc:∀ j,j < C.length→chE C P.length j=0) {i:Nat} (hi:i < T.length) (h0:∀ j,j < i→tbE P C T j=0) (hz:tbE P C T i≠0):whereF P C T=(tbE P C T i,(i:Int)):=by
 unfold whereF;rw [if_pos h,firstF_none hp,firstF_none hc,firstF_some hi h0 hz]
theorem whereF_ok (h:sizesB P C T) (hp:∀ j,j < P.length→ptE P j=0) (hc:∀ j,j < C.length→chE C P.length j=0) (ht:∀ j,j < T.length→tbE P C T j=0):whereF P C T=(0,-1):=by
 unfold whereF;rw [if_pos h,firstF_none hp,firstF_none hc,firstF_none ht]
theorem ptE_name {i:Nat} {x:Pq} (hx:P[i]? = some x) (h:nameF x.1.name=false):ptE P i=15:=by
 unfold ptE;rw [hx];show ptW P i x=15;unfold ptW;rw [h];rfl
theorem ptE_twice {i k:Nat} {x y:Pq} (hx:P[i]? = some x) (hk:k < i) (hy:P[k]? = some y) (h:(decide (y.1.name=x.1.name))=true):ptE P i=15:=by
 unfold ptE;rw [hx];show ptW P i x=15;unfold ptW
 have:(P.take i).any (fun y=>decide (y.1.name=x.1.name))=true:=List.any_eq_true.2 ⟨y,List.mem_of_getElem? (i:=k) (by rw [List.getElem?_take];simp [hk,hy]),h⟩
 rw [this,Bool.or_true];rfl
theorem ptE_end {i:Nat} {x:Pq} (hx:P[i]? = some x) (hn:nameF x.1.name=true) (h:∀ k y,k < i→P[k]? = some y→(decide (y.1.name=x.1.name))=false):ptE P i=if partF x.1 x.2=true then 0 else 16:=by
 unfold ptE;rw [hx];show ptW P i x=_;unfold ptW
 have:(P.take i).any (fun y=>decide (y.1.name=x.1.name))=false:=by
  rw [List.any_eq_false]
  intro y hy
  obtain ⟨k,hk⟩:=List.getElem?_of_mem hy
  rw [List.getElem?_take] at hk
  split at hk
  ·rename_i hki
   rw [h k y hki hk]
   decide
  ·cases hk
 rw [this,hn];rfl
theorem chE_at {n i:Nat} {x:ChV} (hx:C[i]? = some x):chE C n i=if chanF x n=true then 0 else 17:=by unfold chE;rw [hx]
theorem tbE_at {i:Nat} {t:NdT} (hx:T[i]? = some t):tbE P C T i=tbW P C t.l:=by unfold tbE;rw [hx]
end
theorem lt_more {p:Nat→Prop} {i:Nat} (h:∀ j,j < i→p j) (hi:p i):∀ j,j < i+1→p j:=fun j hj=>by
 rcases Nat.lt_or_ge j i with h1 | h1
 ·exact h j h1
 ·obtain rfl:j=i:=by omega
  exact hi
set_option maxRecDepth 100000 in
set_option maxHeartbeats 4000000 in
theorem xwhere_any (A1 A2 A3:Option Addr) (n1 n2 n3 c1 c2 c3:Nat) (P:List Pq) (C:List ChV) (T:List NdT) (w:World) (hP:RdB pcq w w.heap.size A1 n1 P) (hC:RdB cc w w.heap.size A2 n2 C) (hT:RdB tcn w w.heap.size A3 n3 T)
  (hp:∀ x∈P,PtAx w w.heap.size x) (ht:∀ t∈T,NdAt w w.heap.size t) :
  Calls Tryz.prog 55 #[.agg #[.slice A1 n1 c1,.slice A2 n2 c2,.slice A3 n3 c3]] w (Ans (.tuple #[.int .i64 (whereF P C T).1,.int .i64 (whereF P C T).2]) w):=by
 have hb0:=bl1 w (.cells #[.slice A1 n1 c1,.slice A2 n2 c2,.slice A3 n3 c3] 31)
 have e1:=hP.len
 have e2:=hC.len
 have e3:=hT.len
 have WBIG:Hid (¬ (1≤n1∧n1≤6∧n2≤8∧1≤n3∧n3≤3)→whereF P C T=(3,0)):=Lib.hid fun h=>whereF_big (by unfold sizesB;rw [e1,e2,e3];exact h)
 have WP:Hid ((1≤n1∧n1≤6∧n2≤8∧1≤n3∧n3≤3)→∀ i,i < n1→(∀ j,j < i→ptE P j=0)→ptE P i≠0→whereF P C T=(ptE P i,(i:Int))):=Lib.hid fun h i hi=>whereF_part (by unfold sizesB;rw [e1,e2,e3];exact h) (by omega)
 have WC:Hid ((1≤n1∧n1≤6∧n2≤8∧1≤n3∧n3≤3)→(∀ j,j < n1→ptE P j=0)→∀ i,i < n2→(∀ j,j < i→chE C n1 j=0)→chE C n1 i≠0→whereF P C T=(chE C n1 i,(i:Int))):=Lib.hid fun h hp i hi=>by
  have:=whereF_chan (T:=T) (by unfold sizesB;rw [e1,e2,e3];exact h) (by rw [e1];exact hp) (i:=i) (by omega)
  rw [e1] at this
  exact this
 have WT:Hid ((1≤n1∧n1≤6∧n2≤8∧1≤n3∧n3≤3)→(∀ j,j < n1→ptE P j=0)→(∀ j,j < n2→chE C n1 j=0)→∀ i,i < n3→(∀ j,j < i→tbE P C T j=0)→tbE P C T i≠0→whereF P C T=(tbE P C T i,(i:Int))):=Lib.hid fun h hp hc i hi =>
  whereF_tab (by unfold sizesB;rw [e1,e2,e3];exact h) (by rw [e1];exact hp) (by rw [e1,e2];exact hc) (i:=i) (by omega)
 have WOK:Hid ((1≤n1∧n1≤6∧n2≤8∧1≤n3∧n3≤3)→(∀ j,j < n1→ptE P j=0)→(∀ j,j < n2→chE C n1 j=0)→(∀ j,j < n3→tbE P C T j=0)→whereF P C T=(0,-1)):=Lib.hid fun h hp hc ht =>
  whereF_ok (by unfold sizesB;rw [e1,e2,e3];exact h) (by rw [e1];exact hp) (by rw [e1,e2];exact hc) (by rw [e3];exact ht)
 have HTW:Hid (∀ l,tbW P C l=if (ofF l).1=0 then (if (ofF l).2.any (fun r=>decide ((n1:Int)≤r.p))=true then 16 else holdsF (wordsL (ofF l).2) (P.map Prod.fst) C) else (ofF l).1):=Lib.hid fun l=>by unfold tbW;rw [e1]
 have HPM:Hid (∀ x∈P.map Prod.fst,In64 x.per):=Lib.hid fun x hx=>by
  obtain ⟨y,hy,rfl⟩:=List.mem_map.1 hx
  exact (hp y hy).per
 generalize whereF P C T=V at WBIG WP WC WT WOK ⊢
 obtain ⟨V1,V2⟩:=V
 dsimp only at WBIG WP WC WT WOK ⊢
 have HP:=Lib.hid hP
 have HC:=Lib.hid hC
 have HT:=Lib.hid hT
 have HPT:=Lib.hid hp
 have HTT:=Lib.hid ht
 have m0:(w.alloc (.cells #[.slice A1 n1 c1,.slice A2 n2 c2,.slice A3 n3 c3] 31)).cell? ⟨w.heap.size,0,none⟩=some (.slice A1 n1 c1):=World.cell?_alloc_mark _ _ _ _ _
 have m1:(w.alloc (.cells #[.slice A1 n1 c1,.slice A2 n2 c2,.slice A3 n3 c3] 31)).cell? ⟨w.heap.size,1,none⟩=some (.slice A2 n2 c2):=World.cell?_alloc_mark _ _ _ _ _
 have m2:(w.alloc (.cells #[.slice A1 n1 c1,.slice A2 n2 c2,.slice A3 n3 c3] 31)).cell? ⟨w.heap.size,2,none⟩=some (.slice A3 n3 c3):=World.cell?_alloc_mark _ _ _ _ _
 have hgs:w.heap.size < (w.alloc (.cells #[.slice A1 n1 c1,.slice A2 n2 c2,.slice A3 n3 c3] 31)).heap.size:=by simp
 clear hP hC hT hp ht e1 e2 e3
 go_enter Tryz.func55,Tryz.ntmps55
 by_cases qz:1≤n1∧n1≤6∧n2≤8∧1≤n3∧n3≤3
 case neg =>
  have hv:=WBIG.out qz
  injection hv with hv1 hv2
  subst hv1 hv2
  clear WBIG WP WC WT WOK HTW
  by_cases q1:(n1:Int) < 1
  ·have d1:=decide_eq_true q1
   go_wp2_with fail
   go_ret2
   exact Ans.mk rfl (bl1 _ _)
  have d1:=decide_eq_false q1
  by_cases q2:(6:Int) < (n1:Int)
  ·have d2:=decide_eq_true q2
   go_wp2_with fail
   go_ret2
   exact Ans.mk rfl (bl1 _ _)
  have d2:=decide_eq_false q2
  by_cases q3:(8:Int) < (n2:Int)
  ·have d3:=decide_eq_true q3
   go_wp2_with fail
   go_ret2
   exact Ans.mk rfl (bl1 _ _)
  have d3:=decide_eq_false q3
  by_cases q4:(n3:Int) < 1
  ·have d4:=decide_eq_true q4
   go_wp2_with fail
   go_ret2
   exact Ans.mk rfl (bl1 _ _)
  have d4:=decide_eq_false q4
  by_cases q5:(3:Int) < (n3:Int)
  ·have d5:=decide_eq_true q5
   go_wp2_with fail
   go_ret2
   exact Ans.mk rfl (bl1 _ _)
  omega
 have WP:=Lib.hid (WP.out qz)
 have WC:=Lib.hid (WC.out qz)
 have WT:=Lib.hid (WT.out qz)
 have WOK:=Lib.hid (WOK.out qz)
 clear WBIG
 have r0:1≤n1:=qz.1
 have r1:n1≤6:=qz.2.1
 have r2:n2≤8:=qz.2.2.1
 have r3:n3≤3:=qz.2.2.2.2
 have d1:decide ((n1:Int) < 1)=false:=decide_eq_false (by omega)
 have d2:decide ((6:Int) < (n1:Int))=false:=decide_eq_false (by omega)
 have d3:decide ((8:Int) < (n2:Int))=false:=decide_eq_false (by omega)
 have d4:decide ((n3:Int) < 1)=false:=decide_eq_false (by omega)
 have d5:decide ((3:Int) < (n3:Int))=false:=decide_eq_false (by omega)
 clear qz
 go_wp2_with fail
 clear d1 d2 d3 d4 d5
 generalize w.alloc (.cells #[.slice A1 n1 c1,.slice A2 n2 c2,.slice A3 n3 c3] 31)=W at hb0 m0 m1 m2 hgs ⊢
 obtain ⟨g,hg⟩:∃ g,g=w.heap.size:=⟨_,rfl⟩
 rw [← hg] at m0 m1 m2 hgs ⊢
 have HG:=Lib.hid hg
 have HB0:=Lib.hid hb0
 have HM:=Lib.hid fun (W':World) (hb:Below W.heap.size W W') (o:Nat) (v:Value) (hv:W.cell? ⟨g,o,none⟩=some v)=>(hb.cell (p:=⟨g,o,none⟩) hgs).trans hv
 have HW:=Lib.hid fun (W':World) (hb:Below W.heap.size W W')=>hb0.trans (hb.mono hb0.size)
 have M0:=Lib.hid m0
 have M1:=Lib.hid m1
 have M2:=Lib.hid m2
 clear hg m0 m1 m2 hb0
 go_loopw [4,5,6,47] (fun _ _ _ s wr=>∃ i:Nat,i≤n1∧s=.int .i64 i∧(∀ j,j < i→ptE P j=0)∧Below W.heap.size W wr) (fun _ _ _ s _=>n1 - (intOf s).toNat)
 case atStart=>exact ⟨0,by omega,rfl,fun j hj=>by omega,Below.refl _ _⟩
 case round =>
  obtain ⟨i,hi,rfl,hok,hb⟩:=hrel
  have HOK:=Lib.hid hok
  clear hok
  by_cases hlt:i < n1
  ·obtain ⟨ad,x,rfl,had,hx,c0,ck⟩:=(HP.out.on (HW.out _ hb)).at_ pcq_len (by omega) hlt
   have hPA:=(HPT.out x (List.mem_of_getElem? hx)).on (HW.out _ hb)
   have d0:=c0 _ rfl
   have d1:=ck 1 _ (by omega) rfl
   have d2:=ck 2 _ (by omega) rfl
   have d3:=ck 3 _ (by omega) rfl
   have d4:=ck 4 _ (by omega) rfl
   have d5:=ck 5 _ (by omega) rfl
   have d6:=ck 6 _ (by omega) rfl
   have d7:=ck 7 _ (by omega) rfl
   have d8:=ck 8 _ (by omega) rfl
   have d9:=ck 9 _ (by omega) rfl
   have d10:=ck 10 _ (by omega) rfl
   have HE1:Hid (nameF x.1.name=false→ptE P i=15):=Lib.hid fun h=>ptE_name hx h
   have HE2:Hid (∀ (k:Nat) (y:Pq),k < i→P[k]? = some y→(decide (y.1.name=x.1.name))=true→ptE P i=15):=Lib.hid fun k y hk hy h=>ptE_twice hx hk hy h
   have HE3:Hid (nameF x.1.name=true→(∀ (k:Nat) (y:Pq),k < i→P[k]? = some y→(decide (y.1.name=x.1.name))=false)→ptE P i=if partF x.1 x.2=true then 0 else 16):=Lib.hid fun hn h=>ptE_end hx hn h
   have HWP:=Lib.hid (WP.out i hlt HOK.out)
   have HNX:=Lib.hid fun (h:ptE P i=0)=>lt_more (p:=fun j=>ptE P j=0) HOK.out h
   obtain ⟨⟨nm,bu,pe,sc,st,pa,pn,pc,h0,h1,h2,h3,h4⟩,L⟩:=x
   dsimp only at d0 d1 d2 d3 d4 d5 d6 d7 d8 d9 d10 HE1 HE2 HE3
   have hbx:=bl1 wr (.cells #[.string nm,.int .i64 bu,.int .i64 pe,.bool sc,.bool st,.slice pa pn pc,.int .i64 h0,.int .i64 h1,.int .i64 h2,.int .i64 h3,.int .i64 h4] 60)
   have hb1:=hb.trans (hbx.mono hb.size)
   have hPA1:=Lib.hid (hPA.on hbx)
   have f:∀ o v,(#[Value.string nm,.int .i64 bu,.int .i64 pe,.bool sc,.bool st,.slice pa pn pc,.int .i64 h0,.int .i64 h1,.int .i64 h2,.int .i64 h3,.int .i64 h4]:Array Value)[o]? = some v→(wr.alloc (.cells #[.string nm,.int .i64 bu,.int .i64 pe,.bool sc,.bool st,.slice pa pn pc,.int .i64 h0,.int .i64 h1,.int .i64 h2,.int .i64 h3,.int .i64 h4] 60)).cell? ⟨wr.heap.size,o,none⟩=some v:=fun o v hv=>(World.cell?_alloc_mark _ _ _ _ _).trans hv
   have hgx:wr.heap.size < (wr.alloc (.cells #[.string nm,.int .i64 bu,.int .i64 pe,.bool sc,.bool st,.slice pa pn pc,.int .i64 h0,.int .i64 h1,.int .i64 h2,.int .i64 h3,.int .i64 h4] 60)).heap.size:=by simp
   have HF:=Lib.hid f
   have m0:=HM.out wr hb 0 _ M0.out
   clear c0 ck hx hbx hPA f HOK
   have f0:=HF.out 0 _ rfl
   have HNM:=Lib.hid (xname_any nm (wr.alloc (.cells #[.string nm,.int .i64 bu,.int .i64 pe,.bool sc,.bool st,.slice pa pn pc,.int .i64 h0,.int .i64 h1,.int .i64 h2,.int .i64 h3,.int .i64 h4] 60)) hPA1.out.name)
   generalize nameF nm=bn at HE1 HE3 HNM
   go_wp2_with fail
   refine HNM.out.mono ?_
   rintro e w5 ⟨rfl,rfl⟩
   generalize wr.alloc (.cells #[.string nm,.int .i64 bu,.int .i64 pe,.bool sc,.bool st,.slice pa pn pc,.int .i64 h0,.int .i64 h1,.int .i64 h2,.int .i64 h3,.int .i64 h4] 60)=w5 at hb1 HF hPA1 hgx HNM f0 ⊢
   generalize wr.heap.size=gx at HF hgx f0 ⊢
   have HB5:=Lib.hid hb1
   have hPA5:=hPA1
   have HF5:=Lib.hid fun (W':World) (hb:Below w5.heap.size w5 W') (o:Nat) v hv=>((hb.cell (p:=⟨gx,o,none⟩) hgx)).trans (HF.out o v hv)
   clear HNM HF hPA1 hb1 hgx f0 d0 d1 d2 d3 d4 d5 d6 d7 d8 d9 d10 had hb m0
   cases bn
   ·have k15:=HE1.out rfl
    have hv:=HWP.out (by rw [k15];decide)
    rw [k15] at hv
    injection hv with hv1 hv2
    subst hv1 hv2
    clear HE1 HE2 HE3 HWP HNX k15 WP WC WT WOK HTW
    go_wp2_with fail
    go_ret2
    exact Ans.mk rfl (HW.out _ HB5.out)
   ·have HE3b:=Lib.hid (HE3.out rfl)
    clear HE1 HE3
    go_wp2_with fail
    go_loopw [6] (fun s wx=>∃ j:Nat,j≤i∧s=.int .i64 j∧(∀ k (y:Pq),k < j→P[k]? = some y→(decide (y.1.name=nm))=false)∧Below w5.heap.size w5 wx) (fun s _=>i - (intOf s).toNat)
    case atStart=>exact ⟨0,by omega,rfl,fun k y hk=>by omega,Below.refl _ _⟩
    case round =>
     obtain ⟨j,hj,rfl,hok,hb⟩:=hrel
     have HOK:=Lib.hid hok
     clear hok
     have HBX:=Lib.hid (HB5.out.trans (hb.mono HB5.out.size))
     by_cases hji:j < i
     ·obtain ⟨ad2,y,hA2,had2,hy,c0,ck⟩:=(HP.out.on (HW.out _ HBX.out)).at_ pcq_len (by omega) (show j < n1 by omega)
      obtain rfl:ad=ad2:=by injection hA2
      have d0:=c0 _ rfl
      have f0:=HF5.out _ hb 0 _ rfl
      have m0:=HM.out _ HBX.out 0 _ M0.out
      have HE2:=Lib.hid (HE2.out j y hji hy)
      have HNJ:Hid ((decide (y.1.name=nm))=false→∀ k (y:Pq),k < j+1→P[k]? = some y→(decide (y.1.name=nm))=false):=Lib.hid fun h k y' hk hy'=>by
       rcases Nat.lt_or_ge k j with h5 | h5
       ·exact HOK.out k y' h5 hy'
       ·obtain rfl:k=j:=by omega
        rw [hy] at hy'
        injection hy' with hy'
        rw [← hy']
        exact h
      obtain ⟨⟨nm2,bu2,pe2,sc2,st2,pa2,pn2,pc2,k0,k1,k2,k3,k4⟩,L2⟩:=y
      dsimp only at d0 HE2 HNJ
      have hji':(j:Int) < (i:Int):=by omega
      have HBI:=Lib.hid hb
      clear c0 ck hy hA2 had2 hb HOK
      cases hq:decide (nm2=nm) with
      | true =>
       have k15:=HE2.out hq
       have hv:=HWP.out (by rw [k15];decide)
       rw [k15] at hv
       injection hv with hv1 hv2
       subst hv1 hv2
       clear HE2 HE3b HWP HNX k15 WP WC WT WOK HTW HNJ
       have hqd:(nm2.toList == nm.toList)=true:=bs_eq_of hq
       go_wp2_with fail
       go_quiet (fail)
       go_wp2_with fail
       go_ret2
       exact Ans.mk rfl (HW.out _ (Below.drewN HBX.out nq))
      | false =>
       have HNJ2:=Lib.hid (HNJ.out hq)
       have hqd:(nm2.toList == nm.toList)=false:=bs_eq_of hq
       clear HE2 HE3b HNJ
       go_wp2_with fail
       go_quiet (fail)
       go_wp2_with fail
       go_roundw
       case rel=>exact ⟨j+1,by omega,by go_num,HNJ2.out,Below.drewN HBI.out nq⟩
       case measure=>simp [intOf];omega
     ·have hji':¬ (j:Int) < (i:Int):=by omega
      have HE4:=Lib.hid (HE3b.out fun k y hk hy=>HOK.out k y (by omega) hy)
      have f0:=HF5.out _ hb 0 _ rfl
      have f1:=HF5.out _ hb 1 _ rfl
      have f2:=HF5.out _ hb 2 _ rfl
      have f3:=HF5.out _ hb 3 _ rfl
      have f4:=HF5.out _ hb 4 _ rfl
      have f5:=HF5.out _ hb 5 _ rfl
      have f6:=HF5.out _ hb 6 _ rfl
      have f7:=HF5.out _ hb 7 _ rfl
      have f8:=HF5.out _ hb 8 _ rfl
      have f9:=HF5.out _ hb 9 _ rfl
      have f10:=HF5.out _ hb 10 _ rfl
      have HPX:=hPA5.out.on hb
      have HPR:=Lib.hid (xpart_any ⟨nm,bu,pe,sc,st,pa,pn,pc,h0,h1,h2,h3,h4⟩ L wr HPX.procs)
      generalize partF ⟨nm,bu,pe,sc,st,pa,pn,pc,h0,h1,h2,h3,h4⟩ L=b at HPR HE4
      clear HPX hb HE2 HE3b HOK
      go_wp2_with fail
      refine HPR.out.mono ?_
      rintro e w6 ⟨rfl,hb6⟩
      have HB6:=Lib.hid (HBX.out.trans (hb6.mono HBX.out.size))
      clear hb6 f0 f1 f2 f3 f4 f5 f6 f7 f8 f9 f10
      cases b
      ·have k16:ptE P i=16:=HE4.out
       have hv:=HWP.out (by rw [k16];decide)
       rw [k16] at hv
       injection hv with hv1 hv2
       subst hv1 hv2
       clear HE4 HWP HNX k16 WP WC WT WOK HTW
       go_wp2_with fail
       go_ret2
       exact Ans.mk rfl (HW.out _ HB6.out)
      ·have k0:ptE P i=0:=HE4.out
       have HNX2:=Lib.hid (HNX.out k0)
       clear k0 HE4 HWP HNX
       go_wp2_with fail
       go_roundw
       case rel=>exact ⟨i+1,by omega,by go_num,HNX2.out,HB6.out⟩
       case measure=>simp [intOf];omega
  ·have hge:n1≤i:=by omega
   have HPK:Hid (∀ j,j < n1→ptE P j=0):=Lib.hid fun j hj=>HOK.out j (by omega)
   have WC2:=Lib.hid (WC.out HPK.out)
   have WT2:=Lib.hid (WT.out HPK.out)
   have WOK2:=Lib.hid (WOK.out HPK.out)
   have m1:=HM.out wr hb 1 _ M1.out
   clear WP WC WT WOK HOK
   go_wp2_with fail
   go_loopw [7,8,80] (fun _ _ s wx=>∃ j:Nat,j≤n2∧s=.int .i64 j∧(∀ k,k < j→chE C n1 k=0)∧Below W.heap.size W wx) (fun _ _ s _=>n2 - (intOf s).toNat)
   case atStart=>exact ⟨0,by omega,rfl,fun k hk=>by omega,hb⟩
   case round =>
    obtain ⟨j,hj,rfl,hok,hb⟩:=hrel
    have HOK:=Lib.hid hok
    clear hok
    by_cases hlt:j < n2
    ·obtain ⟨ad,x,rfl,had,hx,c0,ck⟩:=(HC.out.on (HW.out _ hb)).at_ cc_len (by omega) hlt
     have d0:=c0 _ rfl
     have d1:=ck 1 _ (by omega) rfl
     have d2:=ck 2 _ (by omega) rfl
     have d3:=ck 3 _ (by omega) rfl
     have d4:=ck 4 _ (by omega) rfl
     have d5:=ck 5 _ (by omega) rfl
     have HE:=Lib.hid (chE_at (n:=n1) hx)
     have HWC:=Lib.hid (WC2.out j hlt HOK.out)
     have HNX:=Lib.hid fun (h:chE C n1 j=0)=>lt_more (p:=fun j=>chE C n1 j=0) HOK.out h
     obtain ⟨xf,xt,xq,xc,xm,xl⟩:=x
     dsimp only at d0 d1 d2 d3 d4 d5
     have hbx:=bl1 wr (.cells #[.int .i64 xf,.int .i64 xt,.bool xq,.int .i64 xc,.int .u32 xm,.int .i64 xl] 66)
     have HB1:=Lib.hid (hb.trans (hbx.mono hb.size))
     have m0:=HM.out _ HB1.out 0 _ M0.out
     have HCR:=Lib.hid (xchan_any ⟨xf,xt,xq,xc,xm,xl⟩ (n1:Int))
     generalize chanF ⟨xf,xt,xq,xc,xm,xl⟩ (n1:Int)=b at HCR HE
     clear c0 ck hx hbx HOK
     go_wp2_with fail
     refine (HCR.out _).mono ?_
     rintro e w5 ⟨rfl,hb5⟩
     have HB5:=Lib.hid (HB1.out.trans (hb5.mono HB1.out.size))
     clear hb5 d0 d1 d2 d3 d4 d5 m0
     cases b
     ·have k17:chE C n1 j=17:=HE.out
      have hv:=HWC.out (by rw [k17];decide)
      rw [k17] at hv
      injection hv with hv1 hv2
      subst hv1 hv2
      clear HE HWC HNX k17 WC2 WT2 WOK2 HTW
      go_wp2_with fail
      go_ret2
      exact Ans.mk rfl (HW.out _ HB5.out)
     ·have k0:chE C n1 j=0:=HE.out
      have HNX2:=Lib.hid (HNX.out k0)
      clear k0 HE HWC HNX
      go_wp2_with fail
      go_roundw
      case rel=>exact ⟨j+1,by omega,by go_num,HNX2.out,HB5.out⟩
      case measure=>simp [intOf];omega
    ·have hge:n2≤j:=by omega
     have HCK:Hid (∀ k,k < n2→chE C n1 k=0):=Lib.hid fun k hk=>HOK.out k (by omega)
     have WT3:=Lib.hid (WT2.out HCK.out)
     have WOK3:=Lib.hid (WOK2.out HCK.out)
     have m2:=HM.out wr hb 2 _ M2.out
     clear WC2 WT2 WOK2 HOK
     go_wp2_with fail
     go_loopw [9,10,11,12,14,15,96] (fun _ _ _ _ _ _ s wx=>∃ j:Nat,j≤n3∧s=.int .i64 j∧(∀ k,k < j→tbE P C T k=0)∧Below W.heap.size W wx) (fun _ _ _ _ _ _ s _=>n3 - (intOf s).toNat)
     case atStart=>exact ⟨0,by omega,rfl,fun k hk=>by omega,hb⟩
     case round =>
      obtain ⟨j,hj,rfl,hok,hb⟩:=hrel
      have HOK:=Lib.hid hok
      clear hok
      by_cases hlt:j < n3
      ·obtain ⟨ad,t,rfl,had,hx,c0,ck⟩:=(HT.out.on (HW.out _ hb)).at_ tcn_len (by omega) hlt
       have d0:=c0 _ rfl
       rw [Nat.mul_one] at d0
       have hTA:=(HTT.out t (List.mem_of_getElem? hx)).on (HW.out _ hb)
       have hte:=(tbE_at (P:=P) (C:=C) hx).trans (HTW.out t.l)
       have HWT:=Lib.hid (WT3.out j hlt HOK.out)
       have HNX:=Lib.hid fun (h:tbE P C T j=0)=>lt_more (p:=fun j=>tbE P C T j=0) HOK.out h
       have HOF:=Lib.hid (rofx_any t wr hTA)
       have hz4:=fun e=>(ofF_ok (l:=t.l) e).1
       have hz5:=fun e=>(ofF_ok (l:=t.l) e).2
       obtain ⟨A,n,c,ll⟩:=t
       dsimp only at d0 hte HOF hz4 hz5
       generalize (ofF ll).1=z at HOF hz4 hz5 hte
       generalize (ofF ll).2=L at HOF hz4 hz5 hte
       have HTE:=Lib.hid hte
       have HZ4:=Lib.hid hz4
       have HZ5:=Lib.hid hz5
       clear c0 ck hx hTA hz4 hz5 hte HOK
       go_wp2_with fail
       refine HOF.out.mono ?_
       rintro e w5 ⟨A4,n4,c4,rfl,hc4,hr4,hb5⟩
       have hb6:=hb.trans (hb5.mono hb.size)
       clear hb5 d0
       by_cases hz:z=0
       ·have hzd:(z != 0)=false:=by rw [hz];rfl
        have hr:=hr4 hz
        have h4:=HZ4.out hz
        have h5:=HZ5.out hz
        have HR:=Lib.hid hr
        have hn4:n4≤96:=by rw [← hr.len];exact h5
        have HTE2:=Lib.hid (HTE.out.trans (if_pos hz))
        clear hr4 hr
        subst hz
        clear HTE
        go_wp2_with fail
        go_loopw [14,112] (fun _ s wx=>∃ i:Nat,i≤n4∧s=.int .i64 i∧(∀ (k:Nat) (r:Rn),k < i→L[k]? = some r→¬ (n1:Int)≤r.p)∧Below w5.heap.size w5 wx) (fun _ s _=>n4 - (intOf s).toNat)
        case atStart=>exact ⟨0,by omega,rfl,fun k r hk=>by omega,Below.refl _ _⟩
        case round =>
         obtain ⟨i,hi4,rfl,hok,hb⟩:=hrel
         have HOK:=Lib.hid hok
         clear hok
         have HBX:=Lib.hid (hb6.trans (hb.mono hb6.size))
         by_cases hlt4:i < n4
         ·obtain ⟨ad4,r,rfl,had4,hx4,e0,e1⟩:=(HR.out.on hb).at_ hlt4
          have hbx:=bl1 wr (.cells #[.int .i64 r.p,.int .i64 r.n] 129)
          have HB1:=Lib.hid (hb.trans (hbx.mono hb.size))
          have HB2:=Lib.hid (HBX.out.trans (hbx.mono HBX.out.size))
          have m0:=HM.out _ HB2.out 0 _ M0.out
          have HNI:Hid (¬ (n1:Int)≤r.p→∀ (k:Nat) (r:Rn),k < i+1→L[k]? = some r→¬ (n1:Int)≤r.p):=Lib.hid fun h k r' hk hy'=>by
           rcases Nat.lt_or_ge k i with h5 | h5
           ·exact HOK.out k r' h5 hy'
           ·obtain rfl:k=i:=by omega
            rw [hx4] at hy'
            injection hy' with hy'
            rw [← hy']
            exact h
          have HAN:Hid ((n1:Int)≤r.p→L.any (fun r=>decide ((n1:Int)≤r.p))=true):=Lib.hid fun h=>List.any_eq_true.2 ⟨r,List.mem_of_getElem? hx4,decide_eq_true h⟩
          clear hbx hx4 had4 hb HOK
          by_cases hrp:(n1:Int)≤r.p
          ·have k16:tbE P C T j=16:=by
            have e:=HTE2.out
            rw [HAN.out hrp] at e
            exact e
           have hv:=HWT.out (by rw [k16];decide)
           rw [k16] at hv
           injection hv with hv1 hv2
           subst hv1 hv2
           clear HTE2 HWT HNX k16 WT3 WOK3 HTW HNI HAN
           go_wp2_with fail
           go_ret2
           exact Ans.mk rfl (HW.out _ HB2.out)
          ·have HNI2:=Lib.hid (HNI.out hrp)
           clear HNI HAN
           go_wp2_with fail
           go_roundw
           case rel=>exact ⟨i+1,by omega,by go_num,HNI2.out,HB1.out⟩
           case measure=>simp [intOf];omega
         ·have hge4:n4≤i:=by omega
          have HTE3:Hid (tbE P C T j=holdsF (wordsL L) (P.map Prod.fst) C):=Lib.hid (by
           have e:=HTE2.out
           have ha:L.any (fun r=>decide ((n1:Int)≤r.p))=false:=by
            rw [List.any_eq_false]
            intro r hr
            obtain ⟨k,hk⟩:=List.getElem?_of_mem hr
            have:=HOK.out k r (by have:=(List.getElem?_eq_some_iff.1 hk).1;have:=HR.out.len;omega) hk
            simpa using this
           rw [ha] at e
           exact e)
          have m0:=HM.out _ HBX.out 0 _ M0.out
          have m1:=HM.out _ HBX.out 1 _ M1.out
          have m2:=HM.out _ HBX.out 2 _ M2.out
          have HHO:=Lib.hid (holdsx_any A1 A2 (some ad) A4 n1 n2 n3 n4 c1 c2 c3 c4 (P.map Prod.fst) C L wr (HP.out.on (HW.out _ HBX.out)).fsts (HC.out.on (HW.out _ HBX.out)) (HR.out.on hb) (by omega) (by omega) hc4 (by omega) (by omega) HPM.out)
          generalize holdsF (wordsL L) (P.map Prod.fst) C=z at HHO HTE3
          clear hb HTE2 HOK
          go_wp2_with fail
          refine HHO.out.mono ?_
          rintro e w7 ⟨rfl,hb7⟩
          have HB7:=Lib.hid (HBX.out.trans (hb7.mono HBX.out.size))
          clear hb7 m0 m1 m2 HHO
          by_cases hz:z=0
          ·have hzd:(z != 0)=false:=by rw [hz];rfl
           have HNX2:=Lib.hid (HNX.out (HTE3.out.trans hz))
           clear HTE3 HNX HWT
           subst hz
           go_wp2_with fail
           go_roundw
           case rel=>exact ⟨j+1,by omega,by go_num,HNX2.out,HB7.out⟩
           case measure=>simp [intOf];omega
          ·have hzd:(z != 0)=true:=bne_iff_ne.2 hz
           have hv:=HWT.out (by rw [HTE3.out];exact hz)
           rw [HTE3.out] at hv
           injection hv with hv1 hv2
           subst hv1 hv2
           clear HTE3 HWT HNX WT3 WOK3 HTW
           go_wp2_with fail
           go_ret2
           exact Ans.mk rfl (HW.out _ HB7.out)
       ·have hzd:(z != 0)=true:=bne_iff_ne.2 hz
        have kz:tbE P C T j=z:=HTE.out.trans (if_neg hz)
        have hv:=HWT.out (by rw [kz];exact hz)
        rw [kz] at hv
        injection hv with hv1 hv2
        subst hv1 hv2
        clear HTE HWT HNX kz WT3 WOK3 HTW
        go_wp2_with fail
        go_ret2
        exact Ans.mk rfl (HW.out _ hb6)
      ·have hge:n3≤j:=by omega
       have hv:=WOK3.out fun k hk=>HOK.out k (by omega)
       injection hv with hv1 hv2
       subst hv1 hv2
       clear WT3 WOK3 HTW HOK
       go_wp2_with fail
       go_ret2
       exact Ans.mk rfl (HW.out _ hb)
set_option maxRecDepth 100000 in
theorem xright_any (A1 A2 A3:Option Addr) (n1 n2 n3 c1 c2 c3:Nat) (P:List Pq) (C:List ChV) (T:List NdT) (w:World) (hP:RdB pcq w w.heap.size A1 n1 P) (hC:RdB cc w w.heap.size A2 n2 C) (hT:RdB tcn w w.heap.size A3 n3 T)
  (hp:∀ x∈P,PtAx w w.heap.size x) (ht:∀ t∈T,NdAt w w.heap.size t) :
  Calls Tryz.prog 27 #[.agg #[.slice A1 n1 c1,.slice A2 n2 c2,.slice A3 n3 c3]] w (Ans (.int .i64 (whereF P C T).1) w):=by
 have hb0:=bl1 w (.cells #[.slice A1 n1 c1,.slice A2 n2 c2,.slice A3 n3 c3] 31)
 have HW:=Lib.hid (xwhere_any A1 A2 A3 n1 n2 n3 c1 c2 c3 P C T _ (hP.on hb0) (hC.on hb0) (hT.on hb0) (fun x hx=>(hp x hx).on hb0) (fun t ht'=>(ht t ht').on hb0))
 clear hP hC hT hp ht
 go_enter Tryz.func27,Tryz.ntmps27
 go_wp2_with fail
 refine HW.out.mono ?_
 rintro e w5 ⟨rfl,hb5⟩
 go_wp2_with fail
 go_ret
 exact Ans.mk rfl (hb0.trans (hb5.mono hb0.size))
end Go.Proofs.YtfmndmhjjbeokaaGreatDoor
namespace Go.Proofs.YtfmndmhjjbeokaaGreatDoor
namespace Tab
def leafN (r:Rn):Nd:=if r.p=-1 then ⟨2,0,(r.n:Int)⟩ else ⟨1,r.p,(r.n:Int)⟩
def itemsF:List Rn→F
 | []=>.nil
 | r::s=>.cons (leafN r) .nil (itemsF s)
theorem leafN_one (r:Rn) (s:List Rn):one (leafN r) s=[r]:=by
 unfold leafN one whose
 split
 ·rename_i h
  simp
  rw [← h]
 ·simp
theorem itemsF_lvs (L:List Rn):(itemsF L).lvs=L:=by
 induction L with
 | nil=>rfl
 | cons r s ih=>simp only [itemsF,F.lvs,leafN_one,ih];rfl
theorem itemsF_cnt (L:List Rn):(itemsF L).cnt=L.length:=by
 induction L with
 | nil=>rfl
 | cons r s ih=>simp only [itemsF,F.cnt,ih,List.length_cons]
theorem itemsF_sz (L:List Rn):(itemsF L).sz=L.length:=by
 induction L with
 | nil=>rfl
 | cons r s ih=>simp only [itemsF,F.sz,ih,List.length_cons];omega
theorem leafN_kn (r:Rn):kn (leafN r)=0:=by
 unfold leafN kn
 split <;> simp
theorem leafN_fine {r:Rn} (h:1≤r.n∧-1≤r.p∧r.p≤5):fine (leafN r)=true:=by
 unfold leafN fine
 split <;> simp <;> omega
theorem itemsF_ok {L:List Rn} (h:∀ r∈L,1≤r.n∧-1≤r.p∧r.p≤5):(itemsF L).ok:=by
 induction L with
 | nil=>trivial
 | cons r s ih=>exact ⟨leafN_fine (h r (by simp)),by rw [leafN_kn];rfl,trivial,ih fun q hq=>h q (by simp [hq])⟩
theorem app_lvs (f g:F):(f.app g).lvs=f.lvs++g.lvs:=by
 induction f with
 | nil=>rfl
 | cons x k r _ hr=>simp only [F.app,F.lvs,hr,List.append_assoc]
theorem app_nil (f:F):f.app .nil=f:=by
 induction f with
 | nil=>rfl
 | cons x k r _ hr=>simp only [F.app,hr]
theorem app_ok_iff (f g:F):(f.app g).ok↔f.ok∧g.ok:=by
 induction f with
 | nil=>simp [F.app,F.ok]
 | cons x k r _ hr=>simp only [F.app,F.ok,hr];exact ⟨fun ⟨a,b,c,d,e⟩=>⟨⟨a,b,c,d⟩,e⟩,fun ⟨⟨a,b,c,d⟩,e⟩=>⟨a,b,c,d,e⟩⟩
def wrapF (g:F):F:=if g.cnt=1 then g else .cons ⟨3,0,(g.cnt:Int)⟩ g .nil
theorem wrapF_cnt (g:F):(wrapF g).cnt=1:=by
 unfold wrapF
 split
 ·assumption
 ·rfl
theorem wrapF_lvs (g:F):(wrapF g).lvs=g.lvs:=by
 unfold wrapF
 split
 ·rfl
 ·simp only [F.lvs,List.append_nil]
  exact lvs_seq rfl _
theorem wrapF_ok {g:F} (h:g.ok) (h1:1≤g.cnt) (h2:g.cnt≤128):(wrapF g).ok:=by
 unfold wrapF
 split
 ·exact h
 ·refine ⟨?_,by simp [kn],h,trivial⟩
  unfold fine
  simp
  omega
theorem wrapF_sz (g:F):(wrapF g).sz=g.sz+if g.cnt=1 then 0 else 1:=by
 unfold wrapF
 split
 ·rfl
 ·simp only [F.sz];omega
theorem wrapF_dep (g:F):(wrapF g).dep≤g.dep+1∧(g.cnt=1→(wrapF g).dep=g.dep):=by
 unfold wrapF
 split
 ·exact ⟨by omega,fun _=>rfl⟩
 ·rename_i h
  exact ⟨by simp only [F.dep];omega,fun h'=>absurd h' h⟩
theorem wrapF_tree (g:F):∃ x k,wrapF g=.cons x k .nil:=by
 have h:=wrapF_cnt g
 cases hw:wrapF g with
 | nil=>rw [hw] at h;simp [F.cnt] at h
 | cons x k r =>
  rw [hw] at h
  simp only [F.cnt] at h
  have:r=.nil:=F.cnt_zero (by omega)
  exact ⟨x,k,by rw [this]⟩
def timesF:Nat→F→F
 | 0,_=>.nil
 | n+1,g=>g.app (timesF n g)
theorem timesF_lvs (n:Nat) (g:F):(timesF n g).lvs=reps n g.lvs:=by
 induction n with
 | zero=>rfl
 | succ n ih=>simp only [timesF,app_lvs,ih];rfl
theorem timesF_cnt (n:Nat) (g:F):(timesF n g).cnt=n*g.cnt:=by
 induction n with
 | zero=>simp [timesF,F.cnt]
 | succ n ih=>simp only [timesF,F.app_cnt,ih,Nat.succ_mul];omega
theorem timesF_sz (n:Nat) (g:F):(timesF n g).sz=n*g.sz:=by
 induction n with
 | zero=>simp [timesF,F.sz]
 | succ n ih=>simp only [timesF,F.app_sz,ih,Nat.succ_mul];omega
def foldF (n:Nat) (g:F):F:=.cons ⟨4,0,(n:Int)⟩ (wrapF g) .nil
theorem foldF_lvs (n:Nat) (g:F):(foldF n g).lvs=reps n g.lvs:=by
 unfold foldF
 simp only [F.lvs,List.append_nil,wrapF_lvs]
 rw [lvs_rep rfl]
 rfl
theorem foldF_ok {n:Nat} {g:F} (h:g.ok) (h1:1≤g.cnt) (h2:g.cnt≤128) (hn:1≤n):(foldF n g).ok:=by
 refine ⟨?_,by rw [wrapF_cnt];rfl,wrapF_ok h h1 h2,trivial⟩
 unfold fine
 simp
 omega
theorem foldF_sz (n:Nat) (g:F):(foldF n g).sz=1+g.sz+if g.cnt=1 then 0 else 1:=by
 simp only [foldF,F.sz,wrapF_sz]
 omega
def wide:F→Prop
 | .nil=>True
 | .cons x k r=>2 ^ k.dep≤(one x k.lvs).length*(one x k.lvs).length∧wide r
theorem wide_app (f g:F):wide (f.app g)↔wide f∧wide g:=by
 induction f with
 | nil=>simp [F.app,wide]
 | cons x k r _ hr=>simp only [F.app,wide,hr,and_assoc]
theorem wide_items (L:List Rn):wide (itemsF L):=by
 induction L with
 | nil=>trivial
 | cons r s ih=>exact ⟨by rw [leafN_one];simp [F.dep],ih⟩
theorem sq_le {a b:Nat} (h:a≤b):a*a≤b*b:=Nat.mul_le_mul h h
theorem wide_dep {f:F} (h:wide f) (hc:1≤f.cnt):2 ^ f.dep≤2*(f.lvs.length*f.lvs.length)∧1≤f.lvs.length:=by
 induction f with
 | nil=>simp [F.cnt] at hc
 | cons x k r _ hr =>
  obtain ⟨h1,h2⟩:=h
  have h3:1≤2 ^ k.dep:=Nat.one_le_two_pow
  have h4:1≤(one x k.lvs).length:=by
   rcases Nat.eq_zero_or_pos (one x k.lvs).length with e | e
   ·rw [e] at h1;omega
   ·exact e
  have e:(F.cons x k r).lvs.length=(one x k.lvs).length+r.lvs.length:=by simp [F.lvs]
  rw [e]
  refine ⟨?_,by omega⟩
  have h5:=sq_le (show (one x k.lvs).length≤(one x k.lvs).length+r.lvs.length by omega)
  have h6:2 ^ (k.dep+1)≤2*(((one x k.lvs).length+r.lvs.length)*((one x k.lvs).length+r.lvs.length)):=by
   rw [Nat.pow_succ,Nat.mul_comm]
   omega
  simp only [F.dep]
  by_cases hm:r.dep≤k.dep+1
  ·rw [Nat.max_eq_left hm]
   exact h6
  ·rw [Nat.max_eq_right (by omega)]
   have hc2:1≤r.cnt:=by
    rcases Nat.eq_zero_or_pos r.cnt with e | e
    ·rw [F.cnt_zero e] at hm;simp [F.dep] at hm
    ·exact e
   have h7:=(hr h2 hc2).1
   have h8:=sq_le (show r.lvs.length≤(one x k.lvs).length+r.lvs.length by omega)
   omega
theorem reps_length (n:Nat) (s:List Rn):(reps n s).length=n*s.length:=by
 induction n with
 | zero=>simp [reps]
 | succ n ih=>simp only [reps,List.length_append,ih,Nat.succ_mul];omega
theorem wide_fold {n:Nat} {g:F} (h:wide g) (hn:2≤n) (hc:1≤g.cnt):wide (foldF n g):=by
 refine ⟨?_,trivial⟩
 have e:(one ⟨4,0,(n:Int)⟩ (wrapF g).lvs).length=n*g.lvs.length:=by
  rw [wrapF_lvs,lvs_rep rfl,reps_length]
  rfl
 rw [e]
 obtain ⟨h1,h2⟩:=wide_dep h hc
 have h3:=(wrapF_dep g).1
 have h4:2 ^ (wrapF g).dep≤2 ^ (g.dep+1):=Nat.pow_le_pow_right (by omega) h3
 have h5:=sq_le (Nat.mul_le_mul_right g.lvs.length hn)
 have h6:2*g.lvs.length*(2*g.lvs.length)=4*(g.lvs.length*g.lvs.length):=by
  rw [Nat.mul_assoc,Nat.mul_left_comm g.lvs.length 2,← Nat.mul_assoc]
 rw [Nat.pow_succ] at h4
 omega
structure Folds (f f':F):Prop where
 ex:∃ (a g b:F) (n:Nat),f=a.app ((timesF n g).app b)∧f'=a.app ((foldF n g).app b)∧2≤n∧1≤g.cnt∧(if g.cnt=1 then 1 else 2) < g.sz*(n - 1)
theorem Folds.lvs {f f':F} (h:Folds f f'):f'.lvs=f.lvs:=by
 obtain ⟨a,g,b,n,rfl,rfl,_⟩:=h.ex
 simp only [app_lvs,foldF_lvs,timesF_lvs]
theorem Folds.cnt {f f':F} (h:Folds f f'):f'.cnt < f.cnt∧1≤f'.cnt:=by
 obtain ⟨a,g,b,n,rfl,rfl,hn,hc,_⟩:=h.ex
 simp only [F.app_cnt,timesF_cnt]
 have e:(foldF n g).cnt=1:=rfl
 have:2*1≤n*g.cnt:=Nat.mul_le_mul hn hc
 omega
theorem Folds.sz {f f':F} (h:Folds f f'):f'.sz+1≤f.sz:=by
 obtain ⟨a,g,b,n,rfl,rfl,hn,hc,hs⟩:=h.ex
 simp only [F.app_sz,timesF_sz,foldF_sz]
 obtain ⟨j,rfl⟩:∃ j,n=j+1:=⟨n - 1,by omega⟩
 rw [Nat.succ_mul]
 rw [Nat.add_sub_cancel,Nat.mul_comm] at hs
 split at hs
 ·rename_i h1
  rw [if_pos h1]
  omega
 ·rename_i h1
  rw [if_neg h1]
  omega
theorem Folds.ok {f f':F} (h:Folds f f') (hok:f.ok) (hc:f.cnt≤128):f'.ok:=by
 obtain ⟨a,g,b,n,rfl,rfl,hn,hg,hs⟩:=h.ex
 rw [app_ok_iff,app_ok_iff] at hok ⊢
 obtain ⟨j,rfl⟩:∃ j,n=j+1:=⟨n - 1,by omega⟩
 simp only [timesF,app_ok_iff] at hok
 simp only [F.app_cnt,timesF] at hc
 exact ⟨hok.1,foldF_ok hok.2.1.1 hg (by omega) (by omega),hok.2.2⟩
theorem Folds.wide {f f':F} (h:Folds f f') (hw:Tab.wide f):Tab.wide f':=by
 obtain ⟨a,g,b,n,rfl,rfl,hn,hg,hs⟩:=h.ex
 rw [wide_app,wide_app] at hw ⊢
 obtain ⟨j,rfl⟩:∃ j,n=j+1:=⟨n - 1,by omega⟩
 simp only [timesF,wide_app] at hw
 exact ⟨hw.1,wide_fold hw.2.1.1 hn hg,hw.2.2⟩
structure Items (L:List Rn) (f:F):Prop where
 lvs:f.lvs=L
 ok:f.ok
 cnt:1≤f.cnt∧f.cnt≤L.length
 wide:Tab.wide f
 sz:f=itemsF L∨f.sz+1≤L.length
theorem Items.start {L:List Rn} (h:∀ r∈L,1≤r.n∧-1≤r.p∧r.p≤5) (h1:1≤L.length):Items L (itemsF L) :=
 ⟨itemsF_lvs L,itemsF_ok h,by rw [itemsF_cnt];exact ⟨h1,Nat.le_refl _⟩,wide_items L,.inl rfl⟩
theorem Items.step {L:List Rn} {f f':F} (h:Items L f) (hL:L.length≤128) (hf:Folds f f'):Items L f':=by
 have h1:=hf.cnt
 have h2:=h.cnt
 refine ⟨hf.lvs.trans h.lvs,hf.ok h.ok (by omega),⟨h1.2,by omega⟩,hf.wide h.wide,.inr ?_⟩
 have h3:=hf.sz
 rcases h.sz with e | e
 ·rw [e,itemsF_sz] at h3
  omega
 ·omega
theorem plain_sz (L:List Rn):(wrapF (itemsF L)).sz=L.length+if L.length=1 then 0 else 1:=by rw [wrapF_sz,itemsF_sz,itemsF_cnt]
theorem Items.table {L:List Rn} {f:F} (h:Items L f) (hL:L.length≤96):∃ x k,wrapF f=.cons x k .nil∧(F.cons x k .nil).ok∧one x k.lvs=L∧k.dep+1≤16∧F.tick x k.len=ticks L∧k.sz+1≤(wrapF (itemsF L)).sz∧k.sz+1≤L.length+1:=by
 obtain ⟨x,k,e⟩:=wrapF_tree f
 have hc:=h.cnt
 have hok:(F.cons x k .nil).ok:=by rw [← e];exact wrapF_ok h.ok hc.1 (by omega)
 have hl:one x k.lvs=L:=by
  have:=wrapF_lvs f
  rw [e,h.lvs] at this
  simpa [F.lvs] using this
 have hd:k.dep+1≤16:=by
  have h1:=(wide_dep h.wide hc.1).1
  rw [h.lvs] at h1
  have h2:=sq_le hL
  have h3:f.dep < 15:=by
   rcases Nat.lt_or_ge f.dep 15 with h | h
   ·exact h
   ·have:=Nat.pow_le_pow_right (show 0 < 2 by omega) h
    have h4:2 ^ 15=32768:=by decide
    omega
  have h4:=(wrapF_dep f).1
  rw [e] at h4
  simp only [F.dep] at h4
  omega
 have hs:(wrapF f).sz≤(wrapF (itemsF L)).sz:=by
  rcases h.sz with e | h1
  ·rw [e];exact Nat.le_refl _
  ·rw [wrapF_sz,plain_sz]
   split <;> split <;> omega
 have hp:=plain_sz L
 rw [e] at hs
 simp only [F.sz] at hs
 refine ⟨x,k,e,hok,hl,hd,by rw [← hl,one_ticks,lvs_ticks],by omega,?_⟩
 split at hp <;> omega
theorem Apart.tail {r:Rn} {l:List Rn} (h:Apart (r::l)):Apart l:=by
 cases l with
 | nil=>trivial
 | cons q s=>exact h.2.2
theorem Apart.append {a b:List Rn} (ha:Apart a) (hb:Apart b) (h:∀ y x,a.getLast? = some y→b.head? = some x→y.p≠x.p):Apart (a++b):=by
 induction a with
 | nil=>exact hb
 | cons r a ih =>
  cases a with
  | nil =>
   cases b with
   | nil=>simpa using ha
   | cons x s=>exact ⟨ha,h r x rfl rfl,hb⟩
  | cons q s=>exact ⟨ha.1,ha.2.1,ih ha.tail fun y x hy hx=>h y x (by simpa [List.getLast?_cons_cons] using hy) hx⟩
end Tab
end Go.Proofs.YtfmndmhjjbeokaaGreatDoor
namespace Go.Proofs.YtfmndmhjjbeokaaGreatDoor
namespace Tab
abbrev Itr:=List (List Nd)
def szI:Itr→Nat
 | []=>0
 | x::I=>x.length+szI I
def savI (I:Itr) (n:Nat):Int:=if n < 2 then 0 else ((szI I*(n - 1):Nat):Int) - 1 - (if 1 < I.length then 1 else 0)
def sameAt (I:Itr) (i j:Nat):Bool:=match I[i]?,I[j]? with
 | some a,some b=>sameN a b
 | _,_=>false
def fwdI (I:Itr) (p:Nat):Nat→Nat→Nat
 | 0,tq=>tq
 | f+1,tq=>if tq+p < I.length∧sameAt I tq (tq+p)=true then fwdI I p f (tq+1) else tq
structure Bst where
 most:Int
 at_:Nat
 p:Nat
 n:Nat
structure Good (I:Itr) (s:Bst):Prop where
 n:2≤s.n
 p:1≤s.p
 le:s.at_+s.p*s.n≤I.length
 same:∀ i,s.at_≤i→i+s.p < s.at_+s.p*s.n→I[i]? = I[i+s.p]?
 most:s.most=savI ((I.drop s.at_).take s.p) s.n
 pos:0 < s.most
def Fit (I:Itr) (s:Bst):Prop:=s=⟨0,0,0,0⟩∨Good I s
theorem Fit.most {I:Itr} {s:Bst} (h:Fit I s):0≤s.most:=by
 rcases h with rfl | h
 ·exact Int.le_refl _
 ·have:=h.pos;omega
def parts:F→Itr
 | .nil=>[]
 | .cons x k r=>(x::k.flat)::parts r
theorem parts_app (f g:F):parts (f.app g)=parts f++parts g:=by
 induction f with
 | nil=>rfl
 | cons x k r _ hr=>simp only [F.app,parts,hr,List.cons_append]
theorem parts_len (f:F):(parts f).length=f.cnt:=by
 induction f with
 | nil=>rfl
 | cons x k r _ hr=>simp only [parts,List.length_cons,hr,F.cnt]
theorem parts_sz (f:F):szI (parts f)=f.sz:=by
 induction f with
 | nil=>rfl
 | cons x k r _ hr=>simp only [parts,szI,List.length_cons,F.flat_length,hr,F.sz];omega
theorem parts_flat (f:F):(parts f).flatten=f.flat:=by
 induction f with
 | nil=>rfl
 | cons x k r _ hr=>simp only [parts,List.flatten_cons,hr,F.flat,List.cons_append]
theorem flat_inj (f:F):∀ (g:F) (s t:List Nd),f.ok→g.ok→f.cnt=g.cnt→f.flat++s=g.flat++t→f=g∧s=t:=by
 induction f with
 | nil =>
  intro g s t _ _ hc h
  have:g=.nil:=F.cnt_zero hc.symm
  subst this
  exact ⟨rfl,by simpa [F.flat] using h⟩
 | cons x k r hk hr =>
  intro g s t h1 h2 hc h
  cases g with
  | nil=>simp [F.cnt] at hc
  | cons y k' r' =>
   simp only [F.flat,List.cons_append,List.append_assoc,List.cons.injEq] at h
   obtain ⟨rfl,h3⟩:=h
   obtain ⟨rfl,h4⟩:=hk k' _ _ h1.2.2.1 h2.2.2.1 (by rw [h1.2.1,h2.2.1]) h3
   obtain ⟨rfl,h5⟩:=hr r' _ _ h1.2.2.2 h2.2.2.2 (by simp only [F.cnt] at hc;omega) h4
   exact ⟨rfl,h5⟩
theorem parts_inj (f g:F) (hf:f.ok) (hg:g.ok) (h:parts f=parts g):f=g:=by
 refine (flat_inj f g [] [] hf hg ?_ ?_).1
 ·rw [← parts_len,← parts_len,h]
 ·rw [← parts_flat,← parts_flat,h]
theorem times_of (n:Nat):∀ (p:Nat) (h:F),h.ok→h.cnt=p*(n+1)→(∀ i,i+p < p*(n+1)→(parts h)[i]? = (parts h)[i+p]?)→∃ g:F,g.ok∧g.cnt=p∧h=timesF (n+1) g∧∃ r,h=g.app r:=by
 induction n with
 | zero =>
  intro p h hok hc _
  refine ⟨h,hok,by omega,by simp [timesF,app_nil],.nil,(app_nil h).symm⟩
 | succ n ih =>
  intro p h hok hc hs
  have hp:p*(n+1+1)=p*(n+1)+p:=by rw [Nat.mul_succ]
  obtain ⟨a,b,ha,hb,hca,hcb,e⟩:=F.split hok p (by omega)
  have hla:=parts_len a
  have hlb:=parts_len b
  obtain ⟨g,hg,hcg,e2,r,e3⟩:=ih p b hb (by omega) (fun i hi=>by
   have:=hs (i+p) (by omega)
   rw [e,parts_app,List.getElem?_append_right (by omega),List.getElem?_append_right (by omega),hla,hca] at this
   rwa [show i+p - p=i by omega,show i+p+p - p=i+p by omega] at this)
  have hag:a=g:=by
   refine parts_inj a g ha hg (List.ext_getElem? fun i=>?_)
   have hlg:=parts_len g
   by_cases hi:i < p
   ·have:=hs i (by rw [hp];have:=Nat.le_mul_of_pos_right p (show 0 < n+1 by omega);omega)
    rw [e,parts_app,List.getElem?_append_left (by omega),List.getElem?_append_right (by omega),hla,hca,show i+p - p=i by omega,e3,parts_app,List.getElem?_append_left (by omega)] at this
    exact this
   ·rw [List.getElem?_eq_none (by omega),List.getElem?_eq_none (by omega)]
  subst hag
  exact ⟨a,ha,hca,by rw [e,e2];rfl,b,e⟩
theorem Good.folds {f:F} {s:Bst} (h:Good (parts f) s) (hok:f.ok):∃ (a g b:F),f=a.app ((timesF s.n g).app b)∧a.cnt=s.at_∧g.cnt=s.p∧g.ok∧Folds f (a.app ((foldF s.n g).app b)):=by
 have hlen:=parts_len f
 have hle:=h.le
 obtain ⟨m,hm⟩:∃ m,s.n=m+2:=⟨s.n - 2,by have:=h.n;omega⟩
 obtain ⟨a,u,ha,hu,hca,hcu,e⟩:=F.split hok s.at_ (by omega)
 obtain ⟨v,b,hv,hb,hcv,hcb,e2⟩:=F.split hu (s.p*s.n) (by omega)
 have hla:=parts_len a
 have hlv:=parts_len v
 have hget:∀ j,j < s.p*s.n→(parts f)[s.at_+j]? = (parts v)[j]?:=fun j hj=>by
  rw [e,e2,parts_app,parts_app,List.getElem?_append_right (by omega),hla,hca,show s.at_+j - s.at_=j by omega,List.getElem?_append_left (by omega)]
 obtain ⟨g,hg,hcg,e3,r,e4⟩:=times_of (m+1) s.p v hv (by rw [hcv,hm]) (fun i hi=>by
  have h1:s.p*s.n=s.p*(m+1+1):=by rw [hm]
  have h2:=h.same (s.at_+i) (by omega) (by omega)
  rwa [hget i (by omega),Nat.add_assoc,hget (i+s.p) (by omega)] at h2)
 have hgI:((parts f).drop s.at_).take s.p=parts g:=by
  rw [e,e2,e4,parts_app,parts_app,parts_app,List.drop_append_of_le_length (by omega),List.drop_eq_nil_of_le (by omega),List.nil_append,List.append_assoc,List.take_append_of_le_length (by rw [parts_len,hcg];omega),List.take_of_length_le (by rw [parts_len,hcg];omega)]
 have hp:=h.pos
 rw [h.most,hgI] at hp
 have hf:f=a.app ((timesF s.n g).app b):=by rw [e,e2,e3,hm]
 refine ⟨a,g,b,hf,hca,hcg,hg,⟨a,g,b,s.n,hf,rfl,h.n,by have:=h.p;omega,?_⟩⟩
 unfold savI at hp
 rw [if_neg (by omega),parts_sz,parts_len,hcg] at hp
 rw [hcg]
 have h1:=h.p
 split
 ·rename_i h2
  rw [if_neg (by omega)] at hp
  omega
 ·rw [if_pos (by omega)] at hp
  omega
def joinI (I:Itr):List Nd:=match I with
 | [x]=>x
 | I=>⟨3,0,(I.length:Int)⟩::I.flatten
theorem joinI_more {I:Itr} (h:¬ I.length=1):joinI I=⟨3,0,(I.length:Int)⟩::I.flatten:=by
 unfold joinI
 split
 ·simp at h
 ·rfl
theorem joinI_parts (f:F):joinI (parts f)=(wrapF f).flat:=by
 unfold wrapF
 split
 ·rename_i h
  cases f with
  | nil=>simp [F.cnt] at h
  | cons x k r =>
   have hr:r=.nil:=F.cnt_zero (by simp only [F.cnt] at h;omega)
   subst hr
   simp [parts,joinI,F.flat]
 ·rename_i h
  rw [joinI_more (by rw [parts_len];exact h),parts_flat,parts_len]
  simp [F.flat]
def stepI (I:Itr) (s:Bst):Itr:=I.take s.at_++(((⟨4,0,(s.n:Int)⟩:Nd)::joinI ((I.drop s.at_).take s.p))::I.drop (s.at_+s.p*s.n))
theorem Good.step {f:F} {s:Bst} (h:Good (parts f) s) (hok:f.ok):∃ f',Folds f f'∧stepI (parts f) s=parts f':=by
 obtain ⟨a,g,b,e,ha,hg,hgo,hf⟩:=h.folds hok
 refine ⟨_,hf,?_⟩
 have hla:=parts_len a
 have hlg:=parts_len g
 obtain ⟨m,hm⟩:∃ m,s.n=m+1:=⟨s.n - 1,by have:=h.n;omega⟩
 have hlt:=parts_len (timesF s.n g)
 rw [timesF_cnt,hg] at hlt
 have h1:(parts f).take s.at_=parts a:=by
  rw [e,parts_app,List.take_append_of_le_length (by omega),List.take_of_length_le (by omega)]
 have h2:((parts f).drop s.at_).take s.p=parts g:=by
  rw [e,parts_app,List.drop_append_of_le_length (by omega),List.drop_eq_nil_of_le (by omega),List.nil_append,hm]
  simp only [timesF,parts_app,List.append_assoc]
  rw [List.take_append_of_le_length (by omega),List.take_of_length_le (by omega)]
 have h3:(parts f).drop (s.at_+s.p*s.n)=parts b:=by
  have hc:s.p*s.n=s.n*s.p:=Nat.mul_comm _ _
  rw [e,parts_app,parts_app,← List.append_assoc,List.drop_append_of_le_length (by rw [List.length_append];omega),List.drop_eq_nil_of_le (by rw [List.length_append];omega),List.nil_append]
 unfold stepI
 rw [h1,h2,h3,parts_app,parts_app,joinI_parts]
 simp only [foldF,parts,List.cons_append,List.nil_append]
end Tab
end Go.Proofs.YtfmndmhjjbeokaaGreatDoor
