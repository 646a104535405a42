import Derived.Test.YtdkngfdnfekgfaaGreatLot33
import Derived.Test.YtdkngfdnfekgfaaGreatLot35
import Derived.Deep.RegionWith
set_option maxHeartbeats 4000000
set_option maxRecDepth 100000
set_option linter.unusedSimpArgs false
set_option linter.unusedVariables false
namespace Go.Proofs.YtdkngfdnfekgfaaGreat
open Go.RowKit Tab
def paF(P:List Pq)(x:Pq):Int:=if (!nameF x.1.name || P.any (fun y=>decide (y.1.name=x.1.name)))=true then 15 else if partF x.1 x.2=true then 0 else 16
theorem paF_ptW(P:List Pq)(i:Nat)(x:Pq):paF (P.take i) x=ptW P i x:=rfl
theorem prt_any(x:Pq)(A:Option Addr)(n c:Nat)(P:List Pq)(w:World)(hx:RdB prc w w.heap.size x.1.pa x.1.pn x.2)(hs:x.1.name.size≤140737488351232)(hP:RdB pcq w w.heap.size A n P)(hn:n≤1048576):
  Calls Tryz.prog 77 #[pv x.1,.slice A n c] w (Ans (.int .i64 (paF P x)) w):=by
 have HV:Hid (paF P x=if (!nameF x.1.name || P.any (fun y=>decide (y.1.name=x.1.name)))=true then 15 else if (psF x.1.pn x.2 && ((List.range 5).all (fun j=>hlF (hv5 x.1 j)) && pbF x.1.bud x.1.per))=true then 0 else 16):=hid (by unfold paF;rw[partF_parts]);generalize paF P x=v at HV ⊢;have HNM:=hid fun V=>nm_any x.1.name V hs;have HAH:=hid fun V (hv:Below w.heap.size w V)=>named_any A n c P x.1.name V (hP.on hv) hn;have HPR:=hid fun V (hv:Below w.heap.size w V)=>procs_any x.1.pa x.1.pn x.1.pc x.2 V (hx.on hv);have HHE:=hid fun V=>health_any (hv5 x.1) V;have HOW:=hid fun V=>owed_any x.1.bud x.1.per V;generalize nameF x.1.name=q1 at HNM HV;generalize (P.any fun y=>decide (y.1.name=x.1.name))=q2 at HAH HV;generalize psF x.1.pn x.2=q3 at HPR HV;generalize (List.range 5).all (fun j=>hlF (hv5 x.1 j))=q4 at HHE HV;generalize pbF x.1.bud x.1.per=q5 at HOW HV;obtain⟨⟨nm,bu,pe,sc,st,pa,pn,pc,h0,h1,h2,h3,h4⟩,L⟩:=x;dsimp only at HNM HAH HPR HOW;have HHE:Hid (∀ V,Calls Tryz.prog 97 #[.agg #[.int .i64 h0,.int .i64 h1,.int .i64 h2,.int .i64 h3,.int .i64 h4]] V (Ans (.bool q4) V)):=HHE;have hb0:=bl1 w (.cells #[.string nm,.int .i64 bu,.int .i64 pe,.bool sc,.bool st,.slice pa pn pc,.int .i64 h0,.int .i64 h1,.int .i64 h2,.int .i64 h3,.int .i64 h4] 57);have HC:Hid (∀ o v,(#[Value.string nm,.int .i64 bu,.int .i64 pe,.bool sc,.bool st,.slice pa pn pc,.int .i64 h0,.int .i64 h1,.int .i64 h2,.int .i64 h3,.int .i64 h4]:Array Value)[o]? = some v→(w.alloc (.cells #[.string nm,.int .i64 bu,.int .i64 pe,.bool sc,.bool st,.slice pa pn pc,.int .i64 h0,.int .i64 h1,.int .i64 h2,.int .i64 h3,.int .i64 h4] 57)).cell? ⟨w.heap.size,o,none⟩=some v):=hid fun o v hv=>(World.cell?_alloc_mark _ _ _ _ _).trans hv;have hgs:w.heap.size < (w.alloc (.cells #[.string nm,.int .i64 bu,.int .i64 pe,.bool sc,.bool st,.slice pa pn pc,.int .i64 h0,.int .i64 h1,.int .i64 h2,.int .i64 h3,.int .i64 h4] 57)).heap.size:=by simp
 clear hx hs hP hn;go_enter Tryz.func77,Tryz.ntmps77;go_upto_region 1 with fail;generalize w.alloc (.cells #[.string nm,.int .i64 bu,.int .i64 pe,.bool sc,.bool st,.slice pa pn pc,.int .i64 h0,.int .i64 h1,.int .i64 h2,.int .i64 h3,.int .i64 h4] 57)=W at hb0 HC hgs ⊢;obtain⟨g,hg⟩:∃ g,g=w.heap.size:=⟨_,rfl⟩;rw[← hg] at HC hgs ⊢;have HG:=hid hg;have HM:=hid fun(W':World) (hb:Below W.heap.size W W') (o:Nat) (v:Value) (hv:(#[Value.string nm,.int .i64 bu,.int .i64 pe,.bool sc,.bool st,.slice pa pn pc,.int .i64 h0,.int .i64 h1,.int .i64 h2,.int .i64 h3,.int .i64 h4]:Array Value)[o]? = some v)=>(hb.cell (p:=⟨g,o,none⟩) hgs).trans (HC.out o v hv);have HW:=hid fun(W':World) (hb:Below W.heap.size W W')=>hb0.trans (hb.mono hb0.size);have m0:=HM.out W (Below.refl _ _) 0 _ rfl;clear hg hb0 hgs HC;go_wp2_with fail;refine(HNM.out _).mono ?_;rintro e w1⟨rfl,hb1⟩;have HB1:=hid hb1;clear m0 hb1;have m0:=HM.out w1 HB1.out 0 _ rfl;cases q1 with
 | false =>
  have E:Hid (v=15):=hid (by rw[HV.out];rfl);clear HV;go_wp2_with fail;go_ret;exact Ans.mk (by rw[E.out];rfl) (HW.out _ HB1.out)
 | true =>
 have HV2:Hid (v=if q2=true then 15 else if (q3 && (q4 && q5))=true then 0 else 16):=hid HV.out;have HA:=HAH.out w1 (HW.out _ HB1.out);clear HV;go_wp2_with fail;refine HA.mono ?_;rintro e w2⟨rfl,hb2⟩;have HB2:=hid (HB1.out.trans (hb2.mono HB1.out.size));clear m0 hb2 HA;cases q2 with
 | true =>
  have E:Hid (v=15):=hid (by rw[HV2.out];rfl);clear HV2;go_wp2_with fail;go_ret;exact Ans.mk (by rw[E.out];rfl) (HW.out _ HB2.out)
 | false =>
 have HV3:Hid (v=if (q3 && (q4 && q5))=true then 0 else 16):=hid HV2.out;have m5:=HM.out w2 HB2.out 5 _ rfl;have HP:=HPR.out w2 (HW.out _ HB2.out);clear HV2;go_wp2_with fail;refine HP.mono ?_;rintro e w3⟨rfl,hb3⟩;have HB3:=hid (HB2.out.trans (hb3.mono HB2.out.size));clear m5 hb3 HP;cases q3 with
 | false =>
  have E:Hid (v=16):=hid (by rw[HV3.out];rfl);clear HV3;go_wp2_with fail;go_ret;exact Ans.mk (by rw[E.out];rfl) (HW.out _ HB3.out)
 | true =>
 have HV4:Hid (v=if (q4 && q5)=true then 0 else 16):=hid HV3.out;have m6:=HM.out w3 HB3.out 6 _ rfl;have m7:=HM.out w3 HB3.out 7 _ rfl;have m8:=HM.out w3 HB3.out 8 _ rfl;have m9:=HM.out w3 HB3.out 9 _ rfl;have m10:=HM.out w3 HB3.out 10 _ rfl;clear HV3;go_wp2_with fail;refine(HHE.out w3).mono ?_;rintro e w4⟨rfl,hb4⟩;have HB4:=hid (HB3.out.trans (hb4.mono HB3.out.size));clear m6 m7 m8 m9 m10 hb4;cases q4 with
 | false =>
  have E:Hid (v=16):=hid (by rw[HV4.out];rfl);clear HV4;go_wp2_with fail;go_ret;exact Ans.mk (by rw[E.out];rfl) (HW.out _ HB4.out)
 | true =>
 have HV5:Hid (v=if q5=true then 0 else 16):=hid HV4.out;have m1:=HM.out w4 HB4.out 1 _ rfl;have m2:=HM.out w4 HB4.out 2 _ rfl;clear HV4;go_wp2_with fail;refine(HOW.out w4).mono ?_;rintro e w5⟨rfl,rfl⟩;clear m1 m2;cases q5 with
 | false =>
  have E:Hid (v=16):=hid (by rw[HV5.out];rfl);clear HV5;go_wp2_with fail;go_ret;exact Ans.mk (by rw[E.out];rfl) (HW.out _ HB4.out)
 | true =>
  have E:Hid (v=0):=hid (by rw[HV5.out];rfl);clear HV5;go_wp2_with fail;go_ret;exact Ans.mk (by rw[E.out];rfl) (HW.out _ HB4.out)
theorem pofx_any(t:NdT)(w:World)(h:NdAt w w.heap.size t):Calls Tryz.prog 100 #[.slice t.A t.n t.c] w (OfG (ofF t.l).1 (ofF t.l).2 w):=by
 have hl:=h.rd.len;by_cases hb:128 < t.n
 ·have hn:¬ (3:Int)=0:=by decide
  rw[ofF_big (by rw[hl];exact hb)];refine(of_wrong t.A t.n t.c w _ ?_ hn).mono fun _ _ k=>ofg_some hn k;have h1':(128:Int) < (t.n:Int):=by omega
  clear h hl hb;go_enter Tryz.func114,Tryz.ntmps114;go_wp2_with fail;go_ret;exact Ans.mk rfl (Below.refl _ _)
 by_cases hw:wholeB t.l=true
 ·obtain⟨x,k,hok,he,e⟩:=ofF_whole hw;rw[e];have hr:=h.rd;rw[he] at hr hl ⊢;rw[hl];exact of_any t.A t.n t.c x k w hr h.cap hok (by omega)
 have hw':wholeB t.l=false:=by simpa using hw
 rw[ofF_none hw,hl];have hn:¬ rn t.n=0:=by unfold rn;split <;> omega
 exact(of_wrong t.A t.n t.c w _ (right_none t.A t.n t.c t.l w h.rd h.cap (by omega) hw') hn).mono fun _ _ k=>ofg_none hn k
theorem tbl_any(A1 A2 A3:Option Addr)(n1 n2 n3 c1 c2 c3:Nat)(P:List Pq)(C:List ChV)(t:NdT)(w:World)(hP:RdB pcq w w.heap.size A1 n1 P)(hC:RdB cc w w.heap.size A2 n2 C)
  (hp:∀ x∈P,In64 x.1.per) (ht:NdAt w w.heap.size t) (r1:n1≤1048576) (r2:n2≤1048576) :
  Calls Tryz.prog 79 #[.agg #[.slice A1 n1 c1,.slice A2 n2 c2,.slice A3 n3 c3],.slice t.A t.n t.c] w (Ans (.int .i64 (tbW P C t.l)) w):=by
 have HTE:Hid (tbW P C t.l=if (ofF t.l).1=0 then (if (ofF t.l).2.any (fun r=>decide ((n1:Int)≤r.p))=true then 16 else holdsF (wordsL (ofF t.l).2) (P.map Prod.fst) C) else (ofF t.l).1):=hid (by unfold tbW;rw[hP.len])
 have HPM:Hid (∀ x∈P.map Prod.fst,In64 x.per):=hid fun x hx=>by
  obtain⟨y,hy,rfl⟩:=List.mem_map.1 hx
  exact hp y hy
 generalize tbW P C t.l=v at HTE ⊢
 have hb0:=bl1 w (.cells #[.slice A1 n1 c1,.slice A2 n2 c2,.slice A3 n3 c3] 26)
 have hOF:=pofx_any t _ (ht.on hb0)
 have hz4:=fun e=>(ofF_ok (l:=t.l) e).1
 have hz5:=fun e=>(ofF_ok (l:=t.l) e).2
 obtain⟨A,n,c,ll⟩:=t
 dsimp only at hOF hz4 hz5 HTE ⊢
 generalize (ofF ll).1=z at hOF hz4 hz5 HTE
 generalize (ofF ll).2=L at hOF hz4 hz5 HTE
 have HZ4:=hid hz4
 have HZ5:=hid hz5
 have HP:=hid (hP.on hb0)
 have HC:=hid (hC.on hb0)
 have m0:(w.alloc (.cells #[.slice A1 n1 c1,.slice A2 n2 c2,.slice A3 n3 c3] 26)).cell? ⟨w.heap.size,0,none⟩=some (.slice A1 n1 c1):=World.cell?_alloc_mark _ _ _ _ _
 have m1:(w.alloc (.cells #[.slice A1 n1 c1,.slice A2 n2 c2,.slice A3 n3 c3] 26)).cell? ⟨w.heap.size,1,none⟩=some (.slice A2 n2 c2):=World.cell?_alloc_mark _ _ _ _ _
 have m2:(w.alloc (.cells #[.slice A1 n1 c1,.slice A2 n2 c2,.slice A3 n3 c3] 26)).cell? ⟨w.heap.size,2,none⟩=some (.slice A3 n3 c3):=World.cell?_alloc_mark _ _ _ _ _
 have hgs:w.heap.size < (w.alloc (.cells #[.slice A1 n1 c1,.slice A2 n2 c2,.slice A3 n3 c3] 26)).heap.size:=by simp
 clear hP hC hp ht hz4 hz5
 go_enter Tryz.func79,Tryz.ntmps79
 go_upto_region 1 with fail
 generalize w.alloc (.cells #[.slice A1 n1 c1,.slice A2 n2 c2,.slice A3 n3 c3] 26)=W at hb0 hOF HP HC m0 m1 m2 hgs ⊢
 obtain⟨g,hg⟩:∃ g,g=w.heap.size:=⟨_,rfl⟩
 rw[← hg] at m0 m1 m2 hgs ⊢
 have HG:=hid hg
 have HM:=hid fun(W':World) (hb:Below W.heap.size W W') (o:Nat) (v:Value) (hv:W.cell? ⟨g,o,none⟩=some v)=>(hb.cell (p:=⟨g,o,none⟩) hgs).trans hv
 have HW:=hid fun(W':World) (hb:Below W.heap.size W W')=>hb0.trans (hb.mono hb0.size)
 have HOF:=hid hOF
 have M0:=hid m0
 have M1:=hid m1
 have M2:=hid m2
 clear hg m0 m1 m2 hb0 hgs hOF
 go_wp2_with fail
 refine HOF.out.mono ?_
 rintro e w5⟨A4,n4,c4,rfl,hc4,hr4,hb5⟩
 have HB5:=hid hb5
 clear hb5
 by_cases hz:z=0
 ·have hzd:(z != 0)=false:=by rw[hz];rfl
  have hr:=hr4 hz
  have h4:=HZ4.out hz
  have h5:=HZ5.out hz
  have HR:=hid hr
  have hn4:n4≤96:=by rw[← hr.len];exact h5
  have HTE2:Hid (v=if L.any (fun r=>decide ((n1:Int)≤r.p))=true then 16 else holdsF (wordsL L) (P.map Prod.fst) C):=hid (HTE.out.trans (if_pos hz))
  clear hr4 hr
  subst hz
  clear HTE
  go_wp2_with fail
  go_loopw [8,19] (fun _ s wx=>∃ i:Nat,i≤n4∧s=.int .i64 i∧(∀(k:Nat) (r:Rn),k < i→L[k]? = some r→¬ (n1:Int)≤r.p)∧Below w5.heap.size w5 wx) (fun _ s _=>n4 - (intOf s).toNat)
  case atStart=>exact⟨0,by omega,rfl,fun k r hk=>by omega,Below.refl _ _⟩
  case round =>
   obtain⟨i,hi4,rfl,hok,hb⟩:=hrel
   have HOK:=hid hok
   clear hok
   have HBX:=hid (HB5.out.trans (hb.mono HB5.out.size))
   by_cases hlt4:i < n4
   ·obtain⟨ad4,r,rfl,had4,hx4,e0,e1⟩:=(HR.out.on hb).at_ hlt4
    have hbx:=bl1 wr (.cells #[.int .i64 r.p,.int .i64 r.n] 114)
    have HB1:=hid (hb.trans (hbx.mono hb.size))
    have HB2:=hid (HBX.out.trans (hbx.mono HBX.out.size))
    have m0:=HM.out _ HB2.out 0 _ M0.out
    have HNI:Hid (¬ (n1:Int)≤r.p→∀(k:Nat) (r:Rn),k < i+1→L[k]? = some r→¬ (n1:Int)≤r.p):=hid fun h k r' hk hy'=>by
     rcases Nat.lt_or_ge k i with h5 | h5
     ·exact HOK.out k r' h5 hy'
     ·obtain rfl:k=i:=by omega
      rw[hx4] at hy'
      injection hy' with hy'
      rw[← hy']
      exact h
    have HAN:Hid ((n1:Int)≤r.p→L.any (fun r=>decide ((n1:Int)≤r.p))=true):=hid fun h=>List.any_eq_true.2 ⟨r,List.mem_of_getElem? hx4,decide_eq_true h⟩
    clear hbx hx4 had4 hb HOK
    by_cases hrp:(n1:Int)≤r.p
    ·have k16:v=16:=by
      have e:=HTE2.out
      rw[HAN.out hrp] at e
      exact e
     have K:=hid k16
     clear HTE2 k16 HNI HAN
     go_wp2_with fail
     go_ret
     exact Ans.mk (by rw[K.out];rfl) (HW.out _ HB2.out)
    ·have HNI2:=hid (HNI.out hrp)
     clear HNI HAN
     go_wp2_with fail
     go_roundw
     case rel=>exact⟨i+1,by omega,by go_num,HNI2.out,HB1.out⟩
     case measure=>simp[intOf];omega
   ·have hge4:n4≤i:=by omega
    have HTE3:Hid (v=holdsF (wordsL L) (P.map Prod.fst) C):=hid (by
     have e:=HTE2.out
     have ha:L.any (fun r=>decide ((n1:Int)≤r.p))=false:=by
      rw[List.any_eq_false]
      intro r hr
      obtain⟨k,hk⟩:=List.getElem?_of_mem hr
      have:=HOK.out k r (by have:=(List.getElem?_eq_some_iff.1 hk).1;have:=HR.out.len;omega) hk
      simpa using this
     rw[ha] at e
     exact e)
    have m0:=HM.out _ HBX.out 0 _ M0.out
    have m1:=HM.out _ HBX.out 1 _ M1.out
    have m2:=HM.out _ HBX.out 2 _ M2.out
    have HHO:=hid (bholds_any A1 A2 A3 A4 n1 n2 n3 n4 c1 c2 c3 c4 (P.map Prod.fst) C L wr (HP.out.on HBX.out).fsts (HC.out.on HBX.out) (HR.out.on hb) (by omega) (by omega) hc4 (by omega) (by omega) HPM.out)
    generalize holdsF (wordsL L) (P.map Prod.fst) C=y at HHO HTE3
    clear hb HTE2 HOK
    go_wp2_with fail
    refine HHO.out.mono ?_
    rintro e w7⟨rfl,hb7⟩
    have HB7:=hid (HBX.out.trans (hb7.mono HBX.out.size))
    clear hb7 m0 m1 m2 HHO
    go_wp2_with fail
    go_ret
    exact Ans.mk (by rw[HTE3.out];rfl) (HW.out _ HB7.out)
 ·have hzd:(z != 0)=true:=bne_iff_ne.2 hz
  have K:Hid (v=z):=hid (HTE.out.trans (if_neg hz))
  clear HTE hz
  go_wp2_with fail
  go_ret
  exact Ans.mk (by rw[K.out];rfl) (HW.out _ HB5.out)
theorem cwhere_any(A1 A2 A3:Option Addr)(n1 n2 n3 c1 c2 c3:Nat)(P:List Pq)(C:List ChV)(T:List NdT)(w:World)(hP:RdB pcq w w.heap.size A1 n1 P)(hC:RdB cc w w.heap.size A2 n2 C)(hT:RdB tcn w w.heap.size A3 n3 T)
  (hp:∀ x∈P,PtAx w w.heap.size x) (ht:∀ t∈T,NdAt w w.heap.size t) (hk:n1≤c1) :
  Calls Tryz.prog 52 #[.agg #[.slice A1 n1 c1,.slice A2 n2 c2,.slice A3 n3 c3]] w (Ans (.tuple #[.int .i64 (whereF P C T).1,.int .i64 (whereF P C T).2]) w):=by
 have hb0:=bl1 w (.cells #[.slice A1 n1 c1,.slice A2 n2 c2,.slice A3 n3 c3] 26)
 have e1:=hP.len
 have e2:=hC.len
 have e3:=hT.len
 have WBIG:Hid (¬ (1≤n1∧n1≤6∧n2≤8∧1≤n3∧n3≤3)→whereF P C T=(3,0)):=hid fun h=>whereF_big (by unfold sizesB;rw[e1,e2,e3];exact h)
 have WP:Hid ((1≤n1∧n1≤6∧n2≤8∧1≤n3∧n3≤3)→∀ i,i < n1→(∀ j,j < i→ptE P j=0)→ptE P i≠0→whereF P C T=(ptE P i,(i:Int))):=hid fun h i hi=>whereF_part (by unfold sizesB;rw[e1,e2,e3];exact h) (by omega)
 have WC:Hid ((1≤n1∧n1≤6∧n2≤8∧1≤n3∧n3≤3)→(∀ j,j < n1→ptE P j=0)→∀ i,i < n2→(∀ j,j < i→chE C n1 j=0)→chE C n1 i≠0→whereF P C T=(chE C n1 i,(i:Int))):=hid fun h hp i hi=>by
  have:=whereF_chan (T:=T) (by unfold sizesB;rw[e1,e2,e3];exact h) (by rw[e1];exact hp) (i:=i) (by omega)
  rw[e1] at this
  exact this
 have WT:Hid ((1≤n1∧n1≤6∧n2≤8∧1≤n3∧n3≤3)→(∀ j,j < n1→ptE P j=0)→(∀ j,j < n2→chE C n1 j=0)→∀ i,i < n3→(∀ j,j < i→tbE P C T j=0)→tbE P C T i≠0→whereF P C T=(tbE P C T i,(i:Int))):=hid fun h hp hc i hi =>
  whereF_tab (by unfold sizesB;rw[e1,e2,e3];exact h) (by rw[e1];exact hp) (by rw[e1,e2];exact hc) (i:=i) (by omega)
 have WOK:Hid ((1≤n1∧n1≤6∧n2≤8∧1≤n3∧n3≤3)→(∀ j,j < n1→ptE P j=0)→(∀ j,j < n2→chE C n1 j=0)→(∀ j,j < n3→tbE P C T j=0)→whereF P C T=(0,-1)):=hid fun h hp hc ht =>
  whereF_ok (by unfold sizesB;rw[e1,e2,e3];exact h) (by rw[e1];exact hp) (by rw[e1,e2];exact hc) (by rw[e3];exact ht)
 have HPM:Hid (∀ x∈P,In64 x.1.per):=hid fun x hx=>(hp x hx).per
 generalize whereF P C T=V at WBIG WP WC WT WOK ⊢
 obtain⟨V1,V2⟩:=V
 dsimp only at WBIG WP WC WT WOK ⊢
 have HFQ:Hid ((wiF (n1:Int) 1 6 && (decide (n2≤8) && wiF (n3:Int) 1 3))=decide (1≤n1∧n1≤6∧n2≤8∧1≤n3∧n3≤3)):=hid (by
  rw[show wiF (n1:Int) 1 6=(decide (1≤n1) && decide (n1≤6)) from wiF_nat n1 1 6,show wiF (n3:Int) 1 3=(decide (1≤n3) && decide (n3≤3)) from wiF_nat n3 1 3]
  simp only[Bool.decide_and,Bool.and_assoc])
 have HFW:=hid fun V=>fw_any A1 A2 A3 n1 n2 n3 c1 c2 c3 V
 rw[HFQ.out] at HFW
 have HP:=hid hP
 have HC:=hid hC
 have HT:=hid hT
 have HPT:=hid hp
 have HTT:=hid ht
 have m0:(w.alloc (.cells #[.slice A1 n1 c1,.slice A2 n2 c2,.slice A3 n3 c3] 26)).cell? ⟨w.heap.size,0,none⟩=some (.slice A1 n1 c1):=World.cell?_alloc_mark _ _ _ _ _
 have m1:(w.alloc (.cells #[.slice A1 n1 c1,.slice A2 n2 c2,.slice A3 n3 c3] 26)).cell? ⟨w.heap.size,1,none⟩=some (.slice A2 n2 c2):=World.cell?_alloc_mark _ _ _ _ _
 have m2:(w.alloc (.cells #[.slice A1 n1 c1,.slice A2 n2 c2,.slice A3 n3 c3] 26)).cell? ⟨w.heap.size,2,none⟩=some (.slice A3 n3 c3):=World.cell?_alloc_mark _ _ _ _ _
 have hgs:w.heap.size < (w.alloc (.cells #[.slice A1 n1 c1,.slice A2 n2 c2,.slice A3 n3 c3] 26)).heap.size:=by simp
 clear hP hC hT hp ht e1 e2 e3 HFQ
 go_enter Tryz.func52,Tryz.ntmps52
 go_upto_region 1 with fail
 generalize w.alloc (.cells #[.slice A1 n1 c1,.slice A2 n2 c2,.slice A3 n3 c3] 26)=W at hb0 m0 m1 m2 hgs ⊢
 obtain⟨g,hg⟩:∃ g,g=w.heap.size:=⟨_,rfl⟩
 rw[← hg] at m0 m1 m2 hgs ⊢
 have HG:=hid hg
 have HM:=hid fun(W':World) (hb:Below W.heap.size W W') (o:Nat) (v:Value) (hv:W.cell? ⟨g,o,none⟩=some v)=>(hb.cell (p:=⟨g,o,none⟩) hgs).trans hv
 have HW:=hid fun(W':World) (hb:Below W.heap.size W W')=>hb0.trans (hb.mono hb0.size)
 have M0:=hid m0
 have M1:=hid m1
 have M2:=hid m2
 clear hg hb0
 go_wp2_with fail
 refine(HFW.out W).mono ?_
 rintro e w1⟨rfl,hb1⟩
 have HB1:=hid hb1
 clear m0 m1 m2 HFW hb1
 by_cases qz:1≤n1∧n1≤6∧n2≤8∧1≤n3∧n3≤3
 case neg =>
  have hd:decide (1≤n1∧n1≤6∧n2≤8∧1≤n3∧n3≤3)=false:=decide_eq_false qz
  have hv:=WBIG.out qz
  injection hv with hv1 hv2
  subst hv1 hv2
  rw[hd]
  clear WBIG WP WC WT WOK hd qz
  go_wp2_with fail
  go_ret2
  exact Ans.mk rfl (HW.out _ HB1.out)
 have hd:decide (1≤n1∧n1≤6∧n2≤8∧1≤n3∧n3≤3)=true:=decide_eq_true qz
 rw[hd]
 clear hd
 have WP:=hid (WP.out qz)
 have WC:=hid (WC.out qz)
 have WT:=hid (WT.out qz)
 have WOK:=hid (WOK.out qz)
 have r0:1≤n1:=qz.1
 have r1:n1≤6:=qz.2.1
 have r2:n2≤8:=qz.2.2.1
 have r3:n3≤3:=qz.2.2.2.2
 have m0:=HM.out w1 HB1.out 0 _ M0.out
 clear WBIG qz
 go_wp2_with fail
 clear m0
 go_loopw [4,5,6,18] (fun _ _ _ s wr=>∃ i:Nat,i≤n1∧s=.int .i64 i∧(∀ j,j < i→ptE P j=0)∧Below W.heap.size W wr) (fun _ _ _ s _=>n1 - (intOf s).toNat)
 case atStart=>exact⟨0,by omega,rfl,fun j hj=>by omega,HB1.out⟩
 case round =>
  obtain⟨i,hi,rfl,hok,hb⟩:=hrel
  have HOK:=hid hok
  clear hok
  by_cases hlt:i < n1
  ·obtain⟨ad,x,rfl,had,hx,c0,ck⟩:=(HP.out.on (HW.out _ hb)).at_ pcq_len (by omega) hlt
   have hPA:=(HPT.out x (List.mem_of_getElem? hx)).on (HW.out _ hb)
   have d0:=c0 _ rfl
   have d1:=ck 1 _ (by omega) rfl
   have d2:=ck 2 _ (by omega) rfl
   have d3:=ck 3 _ (by omega) rfl
   have d4:=ck 4 _ (by omega) rfl
   have d5:=ck 5 _ (by omega) rfl
   have d6:=ck 6 _ (by omega) rfl
   have d7:=ck 7 _ (by omega) rfl
   have d8:=ck 8 _ (by omega) rfl
   have d9:=ck 9 _ (by omega) rfl
   have d10:=ck 10 _ (by omega) rfl
   have hpe:ptE P i=paF (P.take i) x:=by
    rw[paF_ptW]
    unfold ptE
    rw[hx]
   have HWP:=hid (WP.out i hlt HOK.out)
   have HNX:=hid fun(h:ptE P i=0)=>lt_more (p:=fun j=>ptE P j=0) HOK.out h
   have HPC:=hid fun V (hv:Below wr.heap.size wr V)=>prt_any x (some ad) i c1 (P.take i) V (hPA.on hv).procs hPA.name (((HP.out.on (HW.out _ hb)).on hv).tak (by omega)) (by omega)
   rw[← hpe] at HPC
   generalize ptE P i=z at HWP HNX HPC
   obtain⟨⟨nm,bu,pe,sc,st,pa,pn,pc,h0,h1,h2,h3,h4⟩,L⟩:=x
   dsimp only at d0 d1 d2 d3 d4 d5 d6 d7 d8 d9 d10
   dsimp only[pv] at HPC
   have hbx:=bl1 wr (.cells #[.string nm,.int .i64 bu,.int .i64 pe,.bool sc,.bool st,.slice pa pn pc,.int .i64 h0,.int .i64 h1,.int .i64 h2,.int .i64 h3,.int .i64 h4] 57)
   have HPC:=hid fun V (hv:Below (wr.alloc (.cells #[.string nm,.int .i64 bu,.int .i64 pe,.bool sc,.bool st,.slice pa pn pc,.int .i64 h0,.int .i64 h1,.int .i64 h2,.int .i64 h3,.int .i64 h4] 57)).heap.size (wr.alloc (.cells #[.string nm,.int .i64 bu,.int .i64 pe,.bool sc,.bool st,.slice pa pn pc,.int .i64 h0,.int .i64 h1,.int .i64 h2,.int .i64 h3,.int .i64 h4] 57)) V)=>HPC.out V (hbx.trans (hv.mono hbx.size))
   have HB2:=hid (hb.trans (hbx.mono hb.size))
   have hki:i≤c1:=by omega
   clear c0 ck hx hPA hpe HOK
   go_upto_region 6 with fail
   have m0:=HM.out _ HB2.out 0 _ M0.out
   have HF:Hid (∀ o v,(#[Value.string nm,.int .i64 bu,.int .i64 pe,.bool sc,.bool st,.slice pa pn pc,.int .i64 h0,.int .i64 h1,.int .i64 h2,.int .i64 h3,.int .i64 h4]:Array Value)[o]? = some v→(wr.alloc (.cells #[.string nm,.int .i64 bu,.int .i64 pe,.bool sc,.bool st,.slice pa pn pc,.int .i64 h0,.int .i64 h1,.int .i64 h2,.int .i64 h3,.int .i64 h4] 57)).cell? ⟨wr.heap.size,o,none⟩=some v):=hid fun o v hv=>(World.cell?_alloc_mark _ _ _ _ _).trans hv
   generalize wr.alloc (.cells #[.string nm,.int .i64 bu,.int .i64 pe,.bool sc,.bool st,.slice pa pn pc,.int .i64 h0,.int .i64 h1,.int .i64 h2,.int .i64 h3,.int .i64 h4] 57)=W5 at HPC HB2 HF m0 ⊢
   generalize wr.heap.size=gx at HF ⊢
   have f0:=HF.out 0 _ rfl
   have f1:=HF.out 1 _ rfl
   have f2:=HF.out 2 _ rfl
   have f3:=HF.out 3 _ rfl
   have f4:=HF.out 4 _ rfl
   have f5:=HF.out 5 _ rfl
   have f6:=HF.out 6 _ rfl
   have f7:=HF.out 7 _ rfl
   have f8:=HF.out 8 _ rfl
   have f9:=HF.out 9 _ rfl
   have f10:=HF.out 10 _ rfl
   clear HF d0 d1 d2 d3 d4 d5 d6 d7 d8 d9 d10 hbx hb
   go_region_with (go_at_call 77;refine(HPC.out _ (by first | exact Below.refl _ _ | exact(Below.refl _ _).drew | exact Below.drewN (Below.refl _ _) _)).mono ?_;rintro e w6⟨rfl,hb6⟩)
   all_goals
    have HB6:Hid (Below W.heap.size W w6):=hid (by first | exact HB2.out.trans (hb6.mono HB2.out.size) | exact HB2.out.trans (Below.mono (Below.trans (Below.refl _ _).drew hb6) HB2.out.size))
    clear hb6 f0 f1 f2 f3 f4 f5 f6 f7 f8 f9 f10 m0
    by_cases hz:z=0
    ·have hzd:(z != 0)=false:=by rw[hz];rfl
     have HN:=hid (HNX.out hz)
     clear HNX HWP
     subst hz
     go_wp2_with fail
     go_roundw
     case rel=>exact⟨i+1,by omega,by go_num,HN.out,HB6.out⟩
     case measure=>simp[intOf];omega
    ·have hzd:(z != 0)=true:=bne_iff_ne.2 hz
     have hv:=HWP.out hz
     injection hv with hv1 hv2
     subst hv1 hv2
     clear HNX HWP WP WC WT WOK
     go_wp2_with fail
     go_ret2
     exact Ans.mk rfl (HW.out _ HB6.out)
  ·have hge:n1≤i:=by omega
   have HPK:Hid (∀ j,j < n1→ptE P j=0):=hid fun j hj=>HOK.out j (by omega)
   have WC2:=hid (WC.out HPK.out)
   have WT2:=hid (WT.out HPK.out)
   have WOK2:=hid (WOK.out HPK.out)
   have m1:=HM.out wr hb 1 _ M1.out
   clear WP WC WT WOK HOK
   go_wp2_with fail
   clear m1
   go_loopw [7,8,37] (fun _ _ s wx=>∃ j:Nat,j≤n2∧s=.int .i64 j∧(∀ k,k < j→chE C n1 k=0)∧Below W.heap.size W wx) (fun _ _ s _=>n2 - (intOf s).toNat)
   case atStart=>exact⟨0,by omega,rfl,fun k hk=>by omega,hb⟩
   case round =>
    obtain⟨j,hj,rfl,hok,hb⟩:=hrel
    have HOK:=hid hok
    clear hok
    by_cases hlt:j < n2
    ·obtain⟨ad,x,rfl,had,hx,c0,ck⟩:=(HC.out.on (HW.out _ hb)).at_ cc_len (by omega) hlt
     have d0:=c0 _ rfl
     have d1:=ck 1 _ (by omega) rfl
     have d2:=ck 2 _ (by omega) rfl
     have d3:=ck 3 _ (by omega) rfl
     have d4:=ck 4 _ (by omega) rfl
     have d5:=ck 5 _ (by omega) rfl
     have HE:=hid (chE_at (n:=n1) hx)
     have HWC:=hid (WC2.out j hlt HOK.out)
     have HNX:=hid fun(h:chE C n1 j=0)=>lt_more (p:=fun j=>chE C n1 j=0) HOK.out h
     obtain⟨xf,xt,xq,xc,xm,xl⟩:=x
     dsimp only at d0 d1 d2 d3 d4 d5
     have hbx:=bl1 wr (.cells #[.int .i64 xf,.int .i64 xt,.bool xq,.int .i64 xc,.int .u32 xm,.int .i64 xl] 63)
     have HB1:=hid (hb.trans (hbx.mono hb.size))
     have m0:=HM.out _ HB1.out 0 _ M0.out
     have HCR:=hid fun V=>chn_any ⟨xf,xt,xq,xc,xm,xl⟩ n1 (by omega) V
     generalize chanF ⟨xf,xt,xq,xc,xm,xl⟩ (n1:Int)=b at HCR HE
     clear c0 ck hx hbx HOK
     go_wp2_with fail
     refine(HCR.out _).mono ?_
     rintro e w5⟨rfl,hb5⟩
     have HB5:=hid (HB1.out.trans (hb5.mono HB1.out.size))
     clear hb5 d0 d1 d2 d3 d4 d5 m0
     cases b
     ·have k17:chE C n1 j=17:=HE.out
      have hv:=HWC.out (by rw[k17];decide)
      rw[k17] at hv
      injection hv with hv1 hv2
      subst hv1 hv2
      clear HE HWC HNX k17 WC2 WT2 WOK2
      go_wp2_with fail
      go_ret2
      exact Ans.mk rfl (HW.out _ HB5.out)
     ·have k0:chE C n1 j=0:=HE.out
      have HNX2:=hid (HNX.out k0)
      clear k0 HE HWC HNX
      go_wp2_with fail
      go_roundw
      case rel=>exact⟨j+1,by omega,by go_num,HNX2.out,HB5.out⟩
      case measure=>simp[intOf];omega
    ·have hge:n2≤j:=by omega
     have HCK:Hid (∀ k,k < n2→chE C n1 k=0):=hid fun k hk=>HOK.out k (by omega)
     have WT3:=hid (WT2.out HCK.out)
     have WOK3:=hid (WOK2.out HCK.out)
     have m2:=HM.out wr hb 2 _ M2.out
     clear WC2 WT2 WOK2 HOK
     go_wp2_with fail
     clear m2
     go_loopw [9,10,11,53] (fun _ _ _ s wx=>∃ j:Nat,j≤n3∧s=.int .i64 j∧(∀ k,k < j→tbE P C T k=0)∧Below W.heap.size W wx) (fun _ _ _ s _=>n3 - (intOf s).toNat)
     case atStart=>exact⟨0,by omega,rfl,fun k hk=>by omega,hb⟩
     case round =>
      obtain⟨j,hj,rfl,hok,hb⟩:=hrel
      have HOK:=hid hok
      clear hok
      by_cases hlt:j < n3
      ·obtain⟨ad,t,rfl,had,hx,c0,ck⟩:=(HT.out.on (HW.out _ hb)).at_ tcn_len (by omega) hlt
       have d0:=c0 _ rfl
       rw[Nat.mul_one] at d0
       have hTA:=(HTT.out t (List.mem_of_getElem? hx)).on (HW.out _ hb)
       have HTE:=hid (tbE_at (P:=P) (C:=C) hx)
       have HWT:=hid (WT3.out j hlt HOK.out)
       have HNX:=hid fun(h:tbE P C T j=0)=>lt_more (p:=fun j=>tbE P C T j=0) HOK.out h
       have HTB:=hid (tbl_any A1 A2 (some ad) n1 n2 n3 c1 c2 c3 P C t wr (HP.out.on (HW.out _ hb)) (HC.out.on (HW.out _ hb)) HPM.out hTA (by omega) (by omega))
       have m0:=HM.out wr hb 0 _ M0.out
       have m1:=HM.out wr hb 1 _ M1.out
       have m2:=HM.out wr hb 2 _ M2.out
       rw[← HTE.out] at HTB
       generalize tbE P C T j=z at HWT HNX HTB
       obtain⟨A,n,c,ll⟩:=t
       dsimp only at d0 HTB
       clear c0 ck hx hTA HTE HOK
       go_wp2_with fail
       refine HTB.out.mono ?_
       rintro e w5⟨rfl,hb5⟩
       have HB6:=hid (hb.trans (hb5.mono hb.size))
       clear hb5 d0 m0 m1 m2 HTB
       by_cases hz:z=0
       ·have hzd:(z != 0)=false:=by rw[hz];rfl
        have HN:=hid (HNX.out hz)
        clear HNX HWT
        subst hz
        go_wp2_with fail
        go_roundw
        case rel=>exact⟨j+1,by omega,by go_num,HN.out,HB6.out⟩
        case measure=>simp[intOf];omega
       ·have hzd:(z != 0)=true:=bne_iff_ne.2 hz
        have hv:=HWT.out hz
        injection hv with hv1 hv2
        subst hv1 hv2
        clear HNX HWT WT3 WOK3
        go_wp2_with fail
        go_ret2
        exact Ans.mk rfl (HW.out _ HB6.out)
      ·have hge:n3≤j:=by omega
       have hv:=WOK3.out fun k hk=>HOK.out k (by omega)
       injection hv with hv1 hv2
       subst hv1 hv2
       clear WT3 WOK3 HOK
       go_wp2_with fail
       go_ret2
       exact Ans.mk rfl (HW.out _ hb)
theorem cfright_any(A1 A2 A3:Option Addr)(n1 n2 n3 c1 c2 c3:Nat)(P:List Pq)(C:List ChV)(T:List NdT)(w:World)(hP:RdB pcq w w.heap.size A1 n1 P)(hC:RdB cc w w.heap.size A2 n2 C)(hT:RdB tcn w w.heap.size A3 n3 T)
  (hp:∀ x∈P,PtAx w w.heap.size x) (ht:∀ t∈T,NdAt w w.heap.size t) (hk:n1≤c1) :
  Calls Tryz.prog 30 #[.agg #[.slice A1 n1 c1,.slice A2 n2 c2,.slice A3 n3 c3]] w (Ans (.int .i64 (whereF P C T).1) w):=by
 have hb0:=bl1 w (.cells #[.slice A1 n1 c1,.slice A2 n2 c2,.slice A3 n3 c3] 26)
 have HW:=hid (cwhere_any A1 A2 A3 n1 n2 n3 c1 c2 c3 P C T _ (hP.on hb0) (hC.on hb0) (hT.on hb0) (fun x hx=>(hp x hx).on hb0) (fun t ht'=>(ht t ht').on hb0) hk)
 clear hP hC hT hp ht
 go_enter Tryz.func30,Tryz.ntmps30
 go_wp2_with fail
 refine HW.out.mono ?_
 rintro e w5⟨rfl,hb5⟩
 go_wp2_with fail
 go_ret
 exact Ans.mk rfl (hb0.trans (hb5.mono hb0.size))
def numC(v:Option Value):Int:=match v with | some (.int _ z)=>z | _=>0
def prL(w:World)(A:Option Addr)(n:Nat):List (Int×Int):=match A with
 | none=>[]
 | some ad=>(List.range n).map fun i=>(numC (w.cell? (ad.add (i*2))),numC (w.cell? ⟨(ad.add (i*2)).block,(ad.add (i*2)).off+1,none⟩))
theorem prL_at{w:World}{B n i:Nat}{A:Option Addr}(h:ProcsAt w B A n)(hi:i < n):∃ ad e p,A=some ad∧ad.block < B∧w.cell? (ad.add (i*2))=some (.int .i64 e)∧w.cell? ⟨(ad.add (i*2)).block,(ad.add (i*2)).off+1,none⟩=some (.int .i64 p)∧PcOk e p∧(prL w A n)[i]? = some (e,p):=by
 obtain⟨ad,e,p,hA,hb,h1,h2,h3⟩:=h i hi;refine⟨ad,e,p,hA,hb,h1,h2,h3,?_⟩;subst hA;show ((List.range n).map _)[i]? = _;rw[List.getElem?_map,List.getElem?_range hi];show some (numC (w.cell? (ad.add (i*2))),numC (w.cell? ⟨(ad.add (i*2)).block,(ad.add (i*2)).off+1,none⟩))=_;rw[h1,h2];rfl
theorem prL_len{w:World}{B n:Nat}{A:Option Addr}(h:ProcsAt w B A n):(prL w A n).length=n:=by
 by_cases h0:0 < n
 ·obtain⟨ad,e,p,rfl,_⟩:=h 0 h0;show ((List.range n).map _).length=n;rw[List.length_map,List.length_range]
 obtain rfl:n=0:=by omega
 cases A <;> rfl
theorem prL_rd{w:World}{B n:Nat}{A:Option Addr}(h:ProcsAt w B A n):RdB prc w B A n (prL w A n):=by
 refine⟨prL_len h,fun h0=>?_⟩;rw[flat_len prc_len,prL_len h] at h0;obtain⟨ad,e,p,hA,hb,_⟩:=h 0 (by omega);refine⟨ad,hA,hb,fun j v hj=>?_⟩;have hjl:=(List.getElem?_eq_some_iff.1 hj).1;rw[flat_len prc_len,prL_len h] at hjl;obtain⟨ad2,e2,p2,hA2,_,c0,c1,_,hg⟩:=prL_at h (i:=j / 2) (by omega);obtain rfl:ad=ad2:=by rw[hA] at hA2;injection hA2
 have h3:=flat_get prc_len _ (j / 2) (j % 2) (e2,p2) hg (Nat.mod_lt _ (by omega));rw[show j / 2*2+j % 2=j by omega,hj] at h3;rcases(by omega:j % 2=0∨j % 2=1) with hm | hm
 ·rw[hm] at h3;rw[show j=j / 2*2 by omega,c0];exact h3.symm
 rw[hm] at h3;have e:ad.add j=⟨(ad.add (j / 2*2)).block,(ad.add (j / 2*2)).off+1,none⟩:=by
  conv=>lhs;rw[show j=j / 2*2+1 by omega]
  rw[← add_add];rfl
 rw[e,c1];exact h3.symm
theorem prL_ok{w:World}{B n:Nat}{A:Option Addr}(h:ProcsAt w B A n):(prL w A n).all prcF=true:=by
 rw[List.all_eq_true];intro q hq;obtain⟨i,hi⟩:=List.getElem?_of_mem hq;have hil:=(List.getElem?_eq_some_iff.1 hi).1;rw[prL_len h] at hil;obtain⟨_,e,p,_,_,_,_,h3,hg⟩:=prL_at h hil;rw[hi] at hg;injection hg with hg;subst hg;unfold PcOk at h3;unfold prcF;simp only[Bool.and_eq_true,decide_eq_true_eq];omega
def pq(w:World)(x:PtV):Pq:=(x,prL w x.pa x.pn)
theorem prL_same{w w':World}{B n:Nat}{A:Option Addr}(h:ProcsAt w B A n)(hk:∀ k,k < B→obk A=some k→w'.heap[k]? = w.heap[k]?):prL w' A n=prL w A n:=by
 by_cases h0:0 < n
 ·obtain⟨ad,e,p,rfl,hb,_⟩:=h 0 h0;have hblk:=hk ad.block hb rfl;show (List.range n).map _=(List.range n).map _;refine List.map_congr_left fun i _=>?_;rw[World.cell?_of_block (w:=w) (w':=w') (a:=ad.add (i*2)) (by rw[add_block];exact hblk),World.cell?_of_block (w:=w) (w':=w') (a:=⟨(ad.add (i*2)).block,(ad.add (i*2)).off+1,none⟩) (by show w'.heap[(ad.add (i*2)).block]? = w.heap[(ad.add (i*2)).block]?;rw[add_block];exact hblk)]
 obtain rfl:n=0:=by omega
 cases A <;> rfl
theorem pq_same{w w':World}{B:Nat}{x:PtV}(h:ProcsAt w B x.pa x.pn)(hk:∀ k,k < B→obk x.pa=some k→w'.heap[k]? = w.heap[k]?):pq w' x=pq w x:=by
 unfold pq;rw[prL_same h hk]
def ndT(t:TbV):NdT:=⟨t.A,t.n,t.c,t.x::t.k.flat⟩
theorem pq_flat(w:World)(P:List PtV):(P.map (pq w)).flatMap pcq=P.flatMap pcl:=by
 rw[List.flatMap_map];rfl
theorem RdB.pq{w:World}{B n:Nat}{A:Option Addr}{P:List PtV}(v:World)(h:RdB pcl w B A n P):RdB pcq w B A n (P.map (pq v)):=⟨by rw[List.length_map];exact h.len,by rw[pq_flat];exact h.rd⟩
theorem ndT_flat(T:List TbV):(T.map ndT).flatMap tcn=T.flatMap tcl:=by
 rw[List.flatMap_map];rfl
theorem RdB.ndt{w:World}{B n:Nat}{A:Option Addr}{T:List TbV}(h:RdB tcl w B A n T):RdB tcn w B A n (T.map ndT):=⟨by rw[List.length_map];exact h.len,by rw[ndT_flat];exact h.rd⟩
theorem PtAt.ax{w:World}{B:Nat}{x:PtV}(h:PtAt w B x):PtAx w B (pq w x):=⟨h.per,Nat.le_trans h.name (by omega),prL_rd h.procs⟩
theorem TbAt.nd{w:World}{B:Nat}{t:TbV}(h:TbAt w B t):NdAt w B (ndT t):=⟨h.rd,h.cap,Nat.le_trans h.few (by omega)⟩
theorem xright_pt(A1 A2 A3:Option Addr)(n1 n2 n3 c1 c2 c3:Nat)(P:List PtV)(C:List ChV)(T:List TbV)(w:World)(hP:RdB pcl w w.heap.size A1 n1 P)(hC:RdB cc w w.heap.size A2 n2 C)(hT:RdB tcl w w.heap.size A3 n3 T)
  (hp:∀ x∈P,PtAt w w.heap.size x) (ht:∀ t∈T,TbAt w w.heap.size t) :
  Calls Tryz.prog 24 #[.agg #[.slice A1 n1 c1,.slice A2 n2 c2,.slice A3 n3 c3]] w (Ans (.int .i64 (whereF (P.map (pq w)) C (T.map ndT)).1) w) :=
 xright_any A1 A2 A3 n1 n2 n3 c1 c2 c3 (P.map (pq w)) C (T.map ndT) w (hP.pq w) hC hT.ndt (fun x hx=>by
  obtain⟨y,hy,rfl⟩:=List.mem_map.1 hx
  exact(hp y hy).ax) (fun t ht'=>by
  obtain⟨y,hy,rfl⟩:=List.mem_map.1 ht'
  exact(ht y hy).nd)
def DoneR(w:World)(P:List PtV)(C:List ChV)(T:List TbV):Prop:=(∀ x∈P,x.bud=0∧x.per=0)∨(whereF (P.map (pq w)) C (T.map ndT)).1=0
structure RtW(n1:Nat)(P:List PtV)(C:List ChV)(T:List TbV)(w:World):Prop where
 pt:∀ x∈P,PtAt w w.heap.size x
 nm:∀ i x,P[i]? = some x→x.name=nmL i∧HealP x∧(1≤x.pn∧x.pn≤2)∧x.pn≤x.pc
 ch:∀ x∈C,ChOk n1 x∧(0≤x.late∧x.late≤4096)∧x.from_≠x.to_∧if x.queue=true then 1≤x.cap∧x.cap≤8 else x.cap=0
 tq:∀ t∈T,TbQ n1 t
 dn:DoneR w P C T
theorem core_at{P P':List PtV}(h:P'.map coreP=P.map coreP){i:Nat}{x':PtV}(hx:P'[i]? = some x'):∃ x,P[i]? = some x∧coreP x'=coreP x:=by
 have h1:(P'.map coreP)[i]? = some (coreP x'):=by rw[List.getElem?_map,hx];rfl
 rw[h,List.getElem?_map] at h1;cases hp:P[i]? with
 | none=>rw[hp] at h1;cases h1
 | some x=>rw[hp] at h1;injection h1 with h1;exact⟨x,rfl,h1.symm⟩
theorem core_mem{C C':List ChV}(h:C'.map coreC=C.map coreC){x':ChV}(hx:x'∈C'):∃ x∈C,coreC x'=coreC x:=by
 have h1:coreC x'∈C.map coreC:=by rw[← h];exact List.mem_map_of_mem hx
 obtain⟨y,hy,e⟩:=List.mem_map.1 h1;exact⟨y,hy,e.symm⟩
section
variable {B b:Nat} {A:Option Addr} {m c:Nat} {f:Nat→Int} {w:World} {gr gc BB:Nat} {A1 A2 A3:Option Addr} {n1 n2 n3 c1 c2 c3:Nat} {P P':List PtV} {C C':List ChV} {T:List TbV} {wr w':World}
theorem CfgS.rt(h:CfgS B b A m c f w gr gc BB A1 A2 A3 n1 n2 n3 c1 c2 c3 P C T wr)(hB:CfgB b w gr gc BB)(ho:Only (pO b A1 A2) wr w')(hpm:P'.map coreP=P.map coreP)(hcm:C'.map coreC=C.map coreC)(hi6:∀ x∈P',In64 x.per)(hlb:∀ x∈C',0≤x.late∧x.late≤4096)
  (hPN:PtsN P) (hCN:∀ x∈C,ChNew n1 x) (hTQ:∀ t∈T,TbQ n1 t) (hd:DoneR wr P' C' T) (v0 v1 v2:Value):RtW n1 P' C' T (set3 w' gr v0 v1 v2):=by
 have h1:=hB.br;have h3:=hB.rc;have h4:=hB.cB;have hs:(set3 w' gr v0 v1 v2).heap.size=w'.heap.size:=by simp[set3]
 have hset:∀ k,k≠gr→(set3 w' gr v0 v1 v2).heap[k]? = w'.heap[k]?:=fun k hk=>by
  unfold set3;rw[Below.heap_setCell _ _ _ _ hk,Below.heap_setCell _ _ _ _ hk,Below.heap_setCell _ _ _ _ hk]
 have hon:Only (fun k=>pO b A1 A2 k∨k=gr) wr (set3 w' gr v0 v1 v2):=⟨ho.os,ho.tape,ho.output,by rw[hs];exact ho.size,fun k hk hn=>(hset k fun e=>hn (.inr e)).trans (ho.block k hk fun e=>hn (.inl e))⟩;have hnp:∀ x∈P,∀ k,obk x.pa=some k→¬ (pO b A1 A2 k∨k=gr):=fun x hx k hk e=>by
  have h5:=(h.pt x hx).2 k hk;rcases e with (e | e | e) | e
  ·omega
  ·exact h5.2.2.1 e
  ·exact h5.2.2.2.1 e
  omega
 have key:∀ x'∈P',∃ i x,P'[i]? = some x'∧P[i]? = some x∧coreP x'=coreP x:=fun x' hx=>by
  obtain⟨i,hi⟩:=List.getElem?_of_mem hx;obtain⟨x,h5,h6⟩:=core_at hpm hi;exact⟨i,x,hi,h5,h6⟩
 refine⟨fun x' hx=>?_,fun i x' hx=>?_,fun x' hx=>?_,hTQ,?_⟩
 ·obtain⟨i,x,_,hi,e⟩:=key x' hx;have ea:x'.pa=x.pa:=(show (coreP x').pa=(coreP x).pa from congrArg PtV.pa e);have en:x'.pn=x.pn:=(show (coreP x').pn=(coreP x).pn from congrArg PtV.pn e);have em:x'.name=x.name:=(show (coreP x').name=(coreP x).name from congrArg PtV.name e);have hxm:=List.mem_of_getElem? hi;have hp:=(h.pt x hxm).1;exact⟨hi6 x' hx,by rw[em];exact hp.name,by rw[en];exact hp.few,by rw[ea,en];exact hp.procs.only hon (hnp x hxm)⟩
 ·obtain⟨x,hi,e⟩:=core_at hpm hx;obtain⟨g1,_,_,g2,g3,g4⟩:=hPN i x hi;have en:x'.pn=x.pn:=(show (coreP x').pn=(coreP x).pn from congrArg PtV.pn e);have ec:x'.pc=x.pc:=(show (coreP x').pc=(coreP x).pc from congrArg PtV.pc e);have em:x'.name=x.name:=(show (coreP x').name=(coreP x).name from congrArg PtV.name e);have e0:x'.h0=x.h0:=(show (coreP x').h0=(coreP x).h0 from congrArg PtV.h0 e);have e1:x'.h1=x.h1:=(show (coreP x').h1=(coreP x).h1 from congrArg PtV.h1 e);have e2:x'.h2=x.h2:=(show (coreP x').h2=(coreP x).h2 from congrArg PtV.h2 e);have e3:x'.h3=x.h3:=(show (coreP x').h3=(coreP x).h3 from congrArg PtV.h3 e);have e4:x'.h4=x.h4:=(show (coreP x').h4=(coreP x).h4 from congrArg PtV.h4 e);refine⟨em.trans g1,?_,by rw[en];exact g3,by rw[en,ec];exact g4⟩;unfold HealP;rw[e0,e1,e2,e3,e4];exact g2
 ·obtain⟨x,hxm,e⟩:=core_mem hcm hx;obtain⟨g1,_,g2,g3⟩:=hCN x hxm;have e0:x'.from_=x.from_:=(show (coreC x').from_=(coreC x).from_ from congrArg ChV.from_ e);have e1:x'.to_=x.to_:=(show (coreC x').to_=(coreC x).to_ from congrArg ChV.to_ e);have e2:x'.queue=x.queue:=(show (coreC x').queue=(coreC x).queue from congrArg ChV.queue e);have e3:x'.cap=x.cap:=(show (coreC x').cap=(coreC x).cap from congrArg ChV.cap e);have e5:x'.max=x.max:=(show (coreC x').max=(coreC x).max from congrArg ChV.max e);unfold ChOk at g1 ⊢;rw[e0,e1,e2,e3,e5];exact⟨g1,hlb x' hx,g2,g3⟩
 rcases hd with hd | hd
 ·exact .inl hd
 refine .inr ?_;have e:P'.map (pq (set3 w' gr v0 v1 v2))=P'.map (pq wr):=List.map_congr_left fun x' hx=>by
  obtain⟨i,x,_,hi,e⟩:=key x' hx;have ea:x'.pa=x.pa:=(show (coreP x').pa=(coreP x).pa from congrArg PtV.pa e);have en:x'.pn=x.pn:=(show (coreP x').pn=(coreP x).pn from congrArg PtV.pn e);have hxm:=List.mem_of_getElem? hi;refine pq_same (B:=wr.heap.size) (by rw[ea,en];exact(h.pt x hxm).1.procs) fun k hk ek=>hon.block k hk (hnp x hxm k (by rw[← ea];exact ek))
 rw[e];exact hd
end
end Go.Proofs.YtdkngfdnfekgfaaGreat
