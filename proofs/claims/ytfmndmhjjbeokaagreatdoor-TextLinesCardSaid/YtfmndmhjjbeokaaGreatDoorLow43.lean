import Derived.Test.YtfmndmhjjbeokaaGreatDoorLow42
import Derived.Test.YtfmndmhjjbeokaaGreatDoorLow20
import Derived.Deep.CutBlock
import Derived.Test.YtfmndmhjjbeokaaGreatDoorLow24
import Derived.Test.YtfmndmhjjbeokaaGreatDoorLow19
namespace Go.Proofs.YtfmndmhjjbeokaaGreatDoor
open Go.RowKit Tab
set_option linter.unusedSimpArgs false
set_option linter.unusedVariables false
theorem tidy_ge (L:List Rn):∀ r∈tidy L,1≤r.n:=(tidy_apart L).pos
theorem gapL_none {L:List Rn} {p:Int} (h:tkOf p L=0):gapL (wordsL L) p=-1:=by
 unfold gapL lateL
 rw [if_pos (has_tk0.2 h),if_pos (by omega)]
theorem lateL_none {L:List Rn} {p q:Int} (h:tkOf p L=0):lateL (wordsL L) p q=0:=by
 unfold lateL
 rw [if_pos (has_tk0.2 h)]
theorem lateL_never {L:List Rn} {p q:Int} (h:tkOf p L≠0) (h2:tkOf q L=0):lateL (wordsL L) p q=-1:=by
 unfold lateL
 rw [if_neg (by rw [has_tk0];exact h),if_pos (has_tk0.2 h2)]
theorem lateL_self {L:List Rn} {p:Int} (h:tkOf p L≠0):lateL (wordsL L) p p=(mo p (fun i _=>wt p (tidy L) i) (tidy L) (tidy L).length:Nat)+1:=by
 have hp:hasL p (wordsL (tidy L))=true:=has_tk.2 (by rw [tkOf_tidy];omega)
 unfold lateL
 rw [if_neg (by rw [has_tk0];exact h),if_neg (by rw [has_tk0];exact h),← wordsL_tidy L,gap_mo (tidy_ge L) hp]
 rfl
theorem gapL_mo {L:List Rn} {p:Int} (h:tkOf p L≠0):gapL (wordsL L) p=(mo p (fun i _=>wt p (tidy L) i) (tidy L) (tidy L).length:Nat):=by
 unfold gapL
 rw [lateL_self h,if_neg (by omega)]
 omega
theorem lateL_mo {L:List Rn} {p q:Int} (h:tkOf p L≠0) (h2:tkOf q L≠0) (hne:p≠q):lateL (wordsL L) p q=(mo p (fun i n=>wt q (tidy L) i+n) (tidy L) (tidy L).length:Nat):=by
 have hq:hasL q (wordsL (tidy L))=true:=has_tk.2 (by rw [tkOf_tidy];omega)
 unfold lateL
 rw [if_neg (by rw [has_tk0];exact h),if_neg (by rw [has_tk0];exact h2),← wordsL_tidy L,late_mo (tidy_ge L) hq hne]
set_option maxRecDepth 100000 in
set_option maxHeartbeats 1600000 in
theorem bgaps_any (A:Option Addr) (n cap:Nat) (L:List Rn) (p:Int) (w:World) (h:RdR w w.heap.size A n L) (hc:n≤cap) (hn:n≤1048576) (ht:ticks L≤1099511627776) :
  Calls Tryz.prog 166 #[.slice A n cap,.int .i64 p] w (Ans (.int .i64 (gapL (wordsL L) p)) w):=by
 have HT:=Lib.hid (ticks_any A n cap L p w h hc hn ht)
 have HY:=Lib.hid fun W (hb:Below w.heap.size w W)=>tidy_any A n cap L W (h.on hb) hc hn ht
 have hle:=tidy_le L
 rw [h.len] at hle
 have h1:=gapL_none (L:=L) (p:=p)
 have h2:=gapL_mo (L:=L) (p:=p)
 have htt:=ticks_tidy L
 generalize gapL (wordsL L) p=R at h1 h2 ⊢
 generalize tkOf p L=tk at HT h1 h2
 generalize tidy L=T at HY hle h2 htt
 rw [← htt] at ht
 clear h htt
 by_cases h0:tk=0
 ·have e:=h1 h0
  subst e
  subst h0
  clear h1 h2 HY
  go_enter Tryz.func166,Tryz.ntmps166
  go_wp2_with fail
  refine HT.out.mono ?_
  rintro e w1 ⟨rfl,hb1⟩
  go_wp2_with fail
  go_ret
  exact Ans.mk rfl hb1
 ·have HR:=Lib.hid (h2 h0)
  have htk:((tk:Int) == 0)=false:=beq_eq_false_iff_ne.2 (by omega)
  clear h1 h2
  go_enter Tryz.func166,Tryz.ntmps166
  go_wp2_with fail
  refine HT.out.mono ?_
  rintro e w1 ⟨rfl,hb1⟩
  go_wp2_with fail
  refine (HY.out w1 hb1).mono ?_
  rintro e w2 ⟨A1,c1,rfl,hr1,hc1,hb2,_⟩
  generalize hm1:T.length=m at hr1 hc1 hle HR
  go_wp2_with fail
  refine (waits_any A1 m c1 T p w2 hr1 hc1 (by omega) ht).mono ?_
  rintro e w3 ⟨g,rfl,hV,hb3,hg⟩
  have hr3:=hr1.on hb3
  have HB:=Lib.hid (hb1.trans ((hb2.mono hb1.size).trans (hb3.mono (Nat.le_trans hb1.size hb2.size))))
  clear hr1 hb1 hb2 hb3 hg HT HY hm1
  go_wp2_with fail
  go_loopw [5,6,7,18] (fun a _ _ s wr=>∃ i k:Nat,i≤m∧s=.int .i64 i∧a=.int .i64 k∧k=mo p (fun i _=>wt p T i) T i∧wr=w3) (fun _ _ _ s _=>m - (intOf s).toNat)
  case atStart=>exact ⟨0,0,by omega,rfl,rfl,rfl,rfl⟩
  case round =>
   obtain ⟨i,k,hi,rfl,rfl,hk,hw⟩:=hrel
   have hw':=hw.symm
   clear hw
   subst hw'
   by_cases hlt:i < m
   ·obtain ⟨ad,r,rfl,had,hr,c0,c1⟩:=hr3.at_ hlt
    have d0:=hV.cell i hlt
    by_cases hp:r.p=p
    ·have hmo:=mo_yes (g:=fun i _=>wt p T i) hr hp
     rw [← hk] at hmo
     have hpb:(r.p == p)=true:=beq_iff_eq.2 hp
     have HMO:=Lib.hid hmo
     have HHV:=Lib.hid hV
     generalize wt p T i=x at d0 HMO
     clear hp hmo hk hr hV
     go_wp2_with fail
     go_roundw
     case rel=>exact ⟨i+1,max k x,by omega,by go_num,by first | (congr 1;done) | (congr 1;first | omega | (split <;> omega)),HMO.out.symm,trivial⟩
     case measure=>simp [intOf];omega
    ·have hmo:=mo_no (g:=fun i _=>wt p T i) hr hp
     rw [← hk] at hmo
     have hpb:(r.p == p)=false:=beq_eq_false_iff_ne.2 hp
     have HMO:=Lib.hid hmo
     have HHV:=Lib.hid hV
     clear hp hmo hk hr hV
     go_wp2_with fail
     go_roundw
     case rel=>exact ⟨i+1,k,by omega,by go_num,rfl,HMO.out.symm,trivial⟩
     case measure=>simp [intOf];omega
   ·obtain rfl:i=m:=by omega
    have hR:R=(k:Int):=by rw [HR.out,hk]
    have HR2:=Lib.hid hR
    clear hR hk
    go_wp2_with fail
    go_ret
    exact Ans.mk (by rw [HR2.out];rfl) HB.out
set_option maxRecDepth 100000 in
set_option maxHeartbeats 1600000 in
theorem blate_any (A:Option Addr) (n cap:Nat) (L:List Rn) (p q:Int) (w:World) (h:RdR w w.heap.size A n L) (hc:n≤cap) (hn:n≤1048576) (ht:ticks L≤1099511627776) :
  Calls Tryz.prog 155 #[.slice A n cap,.int .i64 p,.int .i64 q] w (Ans (.int .i64 (lateL (wordsL L) p q)) w):=by
 have HT:=Lib.hid (ticks_any A n cap L p w h hc hn ht)
 have HT2:=Lib.hid fun W (hb:Below w.heap.size w W)=>ticks_any A n cap L q W (h.on hb) hc hn ht
 have HG:=Lib.hid fun W (hb:Below w.heap.size w W)=>bgaps_any A n cap L q W (h.on hb) hc hn ht
 have HY:=Lib.hid fun W (hb:Below w.heap.size w W)=>tidy_any A n cap L W (h.on hb) hc hn ht
 have hle:=tidy_le L
 rw [h.len] at hle
 have h1:=lateL_none (L:=L) (p:=p) (q:=q)
 have h2:=lateL_never (L:=L) (p:=p) (q:=q)
 have h3:=lateL_mo (L:=L) (p:=p) (q:=q)
 have h4:tkOf p L≠0→p=q→lateL (wordsL L) p q=gapL (wordsL L) q+1∧0≤gapL (wordsL L) q∧gapL (wordsL L) q≤1099511627777:=by
  rintro e rfl
  rw [gapL_mo e,lateL_self e]
  refine ⟨rfl,by omega,?_⟩
  have e2:=lateL_le (wordsL L) p p
  rw [lateL_self e,wordsL_len] at e2
  omega
 have htt:=ticks_tidy L
 generalize gapL (wordsL L) q=G at HG h4
 generalize lateL (wordsL L) p q=R at h1 h2 h3 h4 ⊢
 have hpq:p=q→tkOf p L=tkOf q L:=by rintro rfl;rfl
 generalize tkOf p L=tk at HT h1 h2 h3 h4 hpq
 generalize tkOf q L=tk2 at HT2 h2 h3 hpq
 generalize tidy L=T at HY hle h3 htt
 rw [← htt] at ht
 clear h htt
 by_cases h0:tk=0
 ·have e:=h1 h0
  subst e
  subst h0
  clear h1 h2 h3 h4 HY HT2 HG hpq
  go_enter Tryz.func155,Tryz.ntmps155
  go_wp2_with fail
  refine HT.out.mono ?_
  rintro e w1 ⟨rfl,hb1⟩
  go_wp2_with fail
  go_ret
  exact Ans.mk rfl hb1
 ·have htk:((tk:Int) == 0)=false:=beq_eq_false_iff_ne.2 (by omega)
  by_cases h00:tk2=0
  ·have e:=h2 h0 h00
   subst e
   subst h00
   clear h1 h2 h3 h4 HY HG hpq
   go_enter Tryz.func155,Tryz.ntmps155
   go_wp2_with fail
   refine HT.out.mono ?_
   rintro e w1 ⟨rfl,hb1⟩
   go_wp2_with fail
   refine (HT2.out w1 hb1).mono ?_
   rintro e w2 ⟨rfl,hb2⟩
   have HB:=Lib.hid (hb1.trans (hb2.mono hb1.size))
   clear hb1 hb2
   go_wp2_with fail
   go_ret
   exact Ans.mk rfl HB.out
  ·have htk2:((tk2:Int) == 0)=false:=beq_eq_false_iff_ne.2 (by omega)
   by_cases hpe:p=q
   ·obtain ⟨e1,e2,e3⟩:=h4 h0 hpe
    subst hpe
    have HE:=Lib.hid e1
    clear h1 h2 h3 h4 HY hpq e1
    go_enter Tryz.func155,Tryz.ntmps155
    go_wp2_with fail
    refine HT.out.mono ?_
    rintro e w1 ⟨rfl,hb1⟩
    go_wp2_with fail
    refine (HT2.out w1 hb1).mono ?_
    rintro e w2 ⟨rfl,hb2⟩
    have hb:=hb1.trans (hb2.mono hb1.size)
    clear hb1 hb2
    go_wp2_with fail
    refine (HG.out w2 hb).mono ?_
    rintro e w3 ⟨rfl,hb3⟩
    have HB:=Lib.hid (hb.trans (hb3.mono hb.size))
    clear hb hb3
    go_wp2_with fail
    refine (bmore_any G 1 _ _ _ (by omega) (by omega) (by omega) rfl rfl).mono ?_
    rintro e w4 ⟨rfl,rfl⟩
    go_wp2_with fail
    go_ret
    exact Ans.mk (by rw [HE.out];rfl) HB.out
   ·have HR:=Lib.hid (h3 h0 h00 hpe)
    have hpb:(p == q)=false:=beq_eq_false_iff_ne.2 hpe
    clear h1 h2 h3 h4 HG hpq hpe
    go_enter Tryz.func155,Tryz.ntmps155
    go_wp2_with fail
    refine HT.out.mono ?_
    rintro e w1 ⟨rfl,hb1⟩
    go_wp2_with fail
    refine (HT2.out w1 hb1).mono ?_
    rintro e w1' ⟨rfl,hb2⟩
    have hb:=hb1.trans (hb2.mono hb1.size)
    clear hb1 hb2
    go_wp2_with fail
    refine (HY.out w1' hb).mono ?_
    rintro e w2 ⟨A1,c1,rfl,hr1,hc1,hb2,_⟩
    generalize hm1:T.length=m at hr1 hc1 hle HR
    go_wp2_with fail
    refine (waits_any A1 m c1 T q w2 hr1 hc1 (by omega) ht).mono ?_
    rintro e w3 ⟨g,rfl,hV,hb3,hg⟩
    have hr3:=hr1.on hb3
    have HB:=Lib.hid (hb.trans ((hb2.mono hb.size).trans (hb3.mono (Nat.le_trans hb.size hb2.size))))
    clear hr1 hb hb2 hb3 hg HT HT2 HY hm1
    go_wp2_with fail
    go_loopw [7,8,9,31] (fun a _ _ s wr=>∃ i k:Nat,i≤m∧s=.int .i64 i∧a=.int .i64 k∧k=mo p (fun i n=>wt q T i+n) T i∧wr=w3) (fun _ _ _ s _=>m - (intOf s).toNat)
    case atStart=>exact ⟨0,0,by omega,rfl,rfl,rfl,rfl⟩
    case round =>
     obtain ⟨i,k,hi,rfl,rfl,hk,hw⟩:=hrel
     have hw':=hw.symm
     clear hw
     subst hw'
     by_cases hlt:i < m
     ·obtain ⟨ad,r,rfl,had,hr,c0,c1⟩:=hr3.at_ hlt
      have d0:=hV.cell i hlt
      have hx:=wt_le q T i
      have hrt:r.n≤ticks T:=mem_ticks (List.mem_of_getElem? hr)
      by_cases hp:r.p=p
      ·have hmo:=mo_yes (g:=fun i n=>wt q T i+n) hr hp
       rw [← hk] at hmo
       have hpb2:(r.p == p)=true:=beq_iff_eq.2 hp
       have HMO:=Lib.hid hmo
       have HHV:=Lib.hid hV
       generalize wt q T i=x at d0 HMO hx
       clear hp hmo hk hr hV
       go_wp2_with fail
       refine (bmore_any (x:Int) (r.n:Int) _ _ _ (by omega) (by omega) (by omega) rfl rfl).mono ?_
       rintro e w4 ⟨rfl,rfl⟩
       go_wp2_with fail
       go_roundw
       case rel=>exact ⟨i+1,max k (x+r.n),by omega,by go_num,by first | (congr 1;done) | (congr 1;first | omega | (split <;> omega)),HMO.out.symm,trivial⟩
       case measure=>simp [intOf];omega
      ·have hmo:=mo_no (g:=fun i n=>wt q T i+n) hr hp
       rw [← hk] at hmo
       have hpb2:(r.p == p)=false:=beq_eq_false_iff_ne.2 hp
       have HMO:=Lib.hid hmo
       have HHV:=Lib.hid hV
       clear hp hmo hk hr hV
       go_wp2_with fail
       go_roundw
       case rel=>exact ⟨i+1,k,by omega,by go_num,rfl,HMO.out.symm,trivial⟩
       case measure=>simp [intOf];omega
     ·obtain rfl:i=m:=by omega
      have hR:R=(k:Int):=by rw [HR.out,hk]
      have HR2:=Lib.hid hR
      clear hR hk
      go_wp2_with fail
      go_ret
      exact Ans.mk (by rw [HR2.out];rfl) HB.out
end Go.Proofs.YtfmndmhjjbeokaaGreatDoor
namespace Go.Proofs.YtfmndmhjjbeokaaGreatDoor
open Go.RowKit Tab
set_option linter.unusedSimpArgs false
set_option linter.unusedVariables false
set_option maxRecDepth 100000 in
set_option maxHeartbeats 4000000 in
theorem fewest_any (A:Option Addr) (n cap:Nat) (L:List Rn) (p:Int) (P:Nat) (w:World) (h:RdR w w.heap.size A n L) (hc:n≤cap) (hn:n≤1048576) (ht:ticks L≤1099511627776) (hP:1≤P) (hP2:P≤1099511627776) :
  Calls Tryz.prog 157 #[.slice A n cap,.int .i64 p,.int .i64 (P:Int)] w (Ans (.int .i64 ((stpL p P ⟨P,P,0⟩ (wordsL L)).a:Nat)) w):=by
 obtain ⟨R,hR⟩:∃ R,R=(stpL p P ⟨P,P,0⟩ (wordsL L)).a:=⟨_,rfl⟩
 rw [← hR]
 have HR:=Lib.hid hR
 have HOK:=Lib.hid fun X=>bok_all (p:=p) hP X _ (bok_start hP)
 have HL:=Lib.hid h.len
 clear hR
 have hPP:0 < P:=hP
 go_enter Tryz.func157,Tryz.ntmps157
 go_wp2_with fail
 go_loopw [7,8,9,11,12,13,18] (fun a l m _ _ _ s wr=>∃ i sa sl sm:Nat,i≤n∧s=.int .i64 i∧a=.int .i64 sa∧l=.int .i64 sl∧m=.int .i64 sm∧stpL p P ⟨P,P,0⟩ (wordsL (L.take i))=⟨sa,sl,sm⟩∧Below w.heap.size w wr) (fun _ _ _ _ _ _ s _=>n - (intOf s).toNat)
 case atStart=>exact ⟨0,P,P,0,by omega,rfl,rfl,rfl,rfl,rfl,Below.refl _ _⟩
 case round =>
  obtain ⟨i,sa,sl,sm,hi,rfl,rfl,rfl,rfl,hst,hb⟩:=hrel
  by_cases hlt:i < n
  ·obtain ⟨ad,r,rfl,had,hr,c0,c1⟩:=(h.on hb).at_ hlt
   have hmore:=wordsL_more hr
   obtain ⟨TG,hTG⟩:∃ TG,TG=stpL p P ⟨P,P,0⟩ (wordsL (L.take (i+1))):=⟨_,rfl⟩
   have hgo:stpL p P ⟨sa,sl,sm⟩ (List.replicate r.n r.p)=TG:=by rw [hTG,hmore,stpL_append,hst]
   obtain ⟨b1,b2,b3,b4⟩:=HOK.out (wordsL (L.take i))
   rw [hst] at b1 b2 b3 b4
   dsimp only at b1 b2 b3 b4
   have hrt:r.n≤ticks L:=mem_ticks (List.mem_of_getElem? hr)
   obtain ⟨rp,rn⟩:=r
   dsimp only at c0 c1 hgo hrt
   have hbl:=bl1 wr (.cells #[.int .i64 rp,.int .i64 (rn:Int)] 129)
   have hb1:=hb.trans (hbl.mono hb.size)
   have m0:(wr.alloc (.cells #[.int .i64 rp,.int .i64 (rn:Int)] 129)).cell? ⟨wr.heap.size,0,none⟩=some (.int .i64 rp):=World.cell?_alloc_mark _ _ _ _ _
   have m1:(wr.alloc (.cells #[.int .i64 rp,.int .i64 (rn:Int)] 129)).cell? ⟨wr.heap.size,1,none⟩=some (.int .i64 (rn:Int)):=World.cell?_alloc_mark _ _ _ _ _
   have HTG:=Lib.hid hTG
   have HGO:=Lib.hid hgo
   clear hTG hgo hst hmore hr hbl
   go_upto_region 5 with fail
   generalize wr.alloc (.cells #[.int .i64 rp,.int .i64 (rn:Int)] 129)=W1 at m0 m1 hb1 ⊢
   generalize wr.heap.size=gx at m0 m1 ⊢
   have HB1:=Lib.hid hb1
   clear hb1 hb c0 c1
   go_wp2_with fail
   clear m1
   go_loopw [7,8,9,12,13] (fun a l m nn _ wr=>∃ k sa sl sm:Nat,nn=.int .i64 k∧a=.int .i64 sa∧l=.int .i64 sl∧m=.int .i64 sm∧stpL p P ⟨sa,sl,sm⟩ (List.replicate k rp)=TG∧sa≤P∧1≤sl∧sl≤P∧sm+sl≤P∧k≤rn∧wr=W1) (fun _ _ _ nn _ _=>(intOf nn).toNat)
   case atStart=>exact ⟨rn,sa,sl,sm,rfl,rfl,rfl,rfl,HGO.out,b1,b2,b3,b4,Nat.le_refl _,rfl⟩
   case round =>
    clear HGO b1 b2 b3 b4
    obtain ⟨k,sa,sl,sm,rfl,rfl,rfl,rfl,hgo,b1,b2,b3,b4,hkr,hw⟩:=hrel
    have hw':=hw.symm
    clear hw
    subst hw'
    by_cases hk0:k=0
    ·subst hk0
     have hfin:TG=⟨sa,sl,sm⟩:=hgo.symm
     have HFIN:=Lib.hid hfin
     clear hfin hgo
     go_wp2_with fail
     go_roundw
     case rel=>exact ⟨i+1,sa,sl,sm,by omega,by go_num,rfl,rfl,rfl,by rw [← HTG.out,HFIN.out],HB1.out⟩
     case measure=>simp [intOf];omega
    ·have hk1:0 < k:=by omega
     clear hk0
     by_cases hks:k < sl
     ·obtain ⟨l2,hl2⟩:∃ l2,l2=sl - k:=⟨_,rfl⟩
      have hl0:0 < l2:=by omega
      have hmin:min (k:Int) (sl:Int)=(k:Int):=by omega
      have hmin2:(if (sl:Int) < (k:Int) then (sl:Int) else (k:Int))=(k:Int):=by rw [if_neg (by omega)]
      have hls:(sl:Int) - (k:Int)=(l2:Int):=by omega
      have hgo2:=(stp_part (p:=p) (x:=rp) (P:=P) (a:=sa) (m:=sm) hks).symm.trans hgo
      rw [← hl2] at hgo2
      have HL2:=Lib.hid hl2
      clear hl2 hgo
      by_cases hp:rp=p
      ·rw [if_pos hp] at hgo2
       have hpb:(rp == p)=true:=beq_iff_eq.2 hp
       have HGO2:=Lib.hid hgo2
       clear hgo2 hp
       go_wp2_with fail
       go_roundw
       case rel=>exact ⟨0,sa,l2,sm+k,by go_num,rfl,by go_num,by go_num,HGO2.out,b1,hl0,by have:=HL2.out;omega,by have:=HL2.out;omega,by omega,trivial⟩
       case measure=>simp [intOf];omega
      ·rw [if_neg hp] at hgo2
       have hpb:(rp == p)=false:=beq_eq_false_iff_ne.2 hp
       have HGO2:=Lib.hid hgo2
       clear hgo2 hp
       go_wp2_with fail
       go_roundw
       case rel=>exact ⟨0,sa,l2,sm,by go_num,rfl,by go_num,by go_num,HGO2.out,b1,hl0,by have:=HL2.out;omega,by have:=HL2.out;omega,by omega,trivial⟩
       case measure=>simp [intOf];omega
     ·obtain ⟨k2,hk2⟩:∃ k2,k2=k - sl:=⟨_,rfl⟩
      have hmin:min (k:Int) (sl:Int)=(sl:Int):=by omega
      have hmin2:(if sl < k then (sl:Int) else (k:Int))=(sl:Int):=by split <;> omega
      have hks2:(k:Int) - (sl:Int)=(k2:Int):=by omega
      have hgo2:=(stp_full (p:=p) (x:=rp) (P:=P) (a:=sa) (m:=sm) (show sl≤k by omega) b2).symm.trans hgo
      rw [← hk2] at hgo2
      have HK2:=Lib.hid hk2
      clear hk2 hgo
      by_cases hp:rp=p
      ·rw [if_pos hp] at hgo2
       have hpb:(rp == p)=true:=beq_iff_eq.2 hp
       have hmine:(sm:Int)+(sl:Int)=((sm+sl:Nat):Int):=by omega
       have hmn2:sm+sl≤P:=b4
       clear hp
       have hsmb:sm+sl≤P:=b4
       obtain ⟨mm,hmm⟩:∃ mm,mm=sm+sl:=⟨_,rfl⟩
       rw [← hmm] at hgo2 hmine
       have hmmP:mm≤P:=by omega
       have HMM:=Lib.hid hmm
       clear hmm
       have hmina:min (sa:Int) (mm:Int)=((min sa mm:Nat):Int):=by omega
       have hmina2:(if mm < sa then (mm:Int) else (sa:Int))=((min sa mm:Nat):Int):=by split <;> omega
       obtain ⟨a2,ha2⟩:∃ a2,a2=min sa mm:=⟨_,rfl⟩
       rw [← ha2] at hgo2 hmina hmina2
       have ha2P:a2≤P:=by omega
       have HA2:=Lib.hid ha2
       clear ha2
       obtain ⟨qq,hqq⟩:∃ qq,qq=k2 / P:=⟨_,rfl⟩
       have hquo:(k2:Int) / (P:Int)=(qq:Int):=by rw [hqq,Int.natCast_ediv]
       have htq:(k2:Int).tdiv (P:Int)=(qq:Int):=by rw [Int.tdiv_eq_ediv_of_nonneg (Int.natCast_nonneg _)];exact hquo
       have hqb:qq≤1099511627776:=by
        have h1:k2 / P≤k2:=Nat.div_le_self _ _
        have h2:=HK2.out
        omega
       have hwq:IntKind.i64.wrap (qq:Int)=(qq:Int):=IntWalk.i64_in _ (by omega)
       by_cases hq:1 < k2 / P
       ·have hgo3:=(stp_mod (p:=p) (x:=rp) (P:=P) (a:=a2) (n:=k2) hP hq).symm.trans hgo2
        obtain ⟨rr,hrr⟩:∃ rr,rr=k2 % P:=⟨_,rfl⟩
        rw [← hrr] at hgo3
        have hq1:1 < qq:=by omega
        have hmod:(k2:Int) % (P:Int)=(rr:Int):=by rw [hrr,Int.natCast_emod]
        have htmod:(k2:Int).tmod (P:Int)=(rr:Int):=by rw [Int.tmod_eq_emod_of_nonneg (Int.natCast_nonneg _)];exact hmod
        have hrl:rr < P:=by rw [hrr];exact Nat.mod_lt _ hP
        have hdm:=Nat.div_add_mod k2 P
        have hPk:P+rr≤k2:=by
         have:P*2≤P*(k2 / P):=Nat.mul_le_mul_left _ hq
         omega
        have HGO3:=Lib.hid hgo3
        have HPK:=Lib.hid hPk
        clear hgo2 hgo3 hrr hdm hq hPk hqq
        go_wp2_with fail
        go_roundw
        case rel=>exact ⟨P+rr,a2,P,0,by go_num,by go_num,rfl,rfl,HGO3.out,ha2P,hP,Nat.le_refl _,by omega,by have:=HPK.out;have:=HK2.out;omega,trivial⟩
        case measure=>simp [intOf];have:=HPK.out;have:=HK2.out;omega
       ·have hq1:¬ 1 < qq:=by omega
        clear hqq
        have HGO2:=Lib.hid hgo2
        clear hgo2 hq
        go_wp2_with fail
        go_roundw
        case rel=>exact ⟨k2,a2,P,0,by go_num,by go_num,rfl,rfl,HGO2.out,ha2P,hP,Nat.le_refl _,by omega,by have:=HK2.out;omega,trivial⟩
        case measure=>simp [intOf];have:=HK2.out;omega
      ·rw [if_neg hp] at hgo2
       have hpb:(rp == p)=false:=beq_eq_false_iff_ne.2 hp
       obtain ⟨mm,hmm⟩:∃ mm,mm=sm:=⟨_,rfl⟩
       rw [Nat.add_zero,← hmm] at hgo2
       subst hmm
       have hmmP:mm≤P:=by omega
       clear hp
       have hmina:min (sa:Int) (mm:Int)=((min sa mm:Nat):Int):=by omega
       have hmina2:(if mm < sa then (mm:Int) else (sa:Int))=((min sa mm:Nat):Int):=by split <;> omega
       obtain ⟨a2,ha2⟩:∃ a2,a2=min sa mm:=⟨_,rfl⟩
       rw [← ha2] at hgo2 hmina hmina2
       have ha2P:a2≤P:=by omega
       have HA2:=Lib.hid ha2
       clear ha2
       obtain ⟨qq,hqq⟩:∃ qq,qq=k2 / P:=⟨_,rfl⟩
       have hquo:(k2:Int) / (P:Int)=(qq:Int):=by rw [hqq,Int.natCast_ediv]
       have htq:(k2:Int).tdiv (P:Int)=(qq:Int):=by rw [Int.tdiv_eq_ediv_of_nonneg (Int.natCast_nonneg _)];exact hquo
       have hqb:qq≤1099511627776:=by
        have h1:k2 / P≤k2:=Nat.div_le_self _ _
        have h2:=HK2.out
        omega
       have hwq:IntKind.i64.wrap (qq:Int)=(qq:Int):=IntWalk.i64_in _ (by omega)
       by_cases hq:1 < k2 / P
       ·have hgo3:=(stp_mod (p:=p) (x:=rp) (P:=P) (a:=a2) (n:=k2) hP hq).symm.trans hgo2
        obtain ⟨rr,hrr⟩:∃ rr,rr=k2 % P:=⟨_,rfl⟩
        rw [← hrr] at hgo3
        have hq1:1 < qq:=by omega
        have hmod:(k2:Int) % (P:Int)=(rr:Int):=by rw [hrr,Int.natCast_emod]
        have htmod:(k2:Int).tmod (P:Int)=(rr:Int):=by rw [Int.tmod_eq_emod_of_nonneg (Int.natCast_nonneg _)];exact hmod
        have hrl:rr < P:=by rw [hrr];exact Nat.mod_lt _ hP
        have hdm:=Nat.div_add_mod k2 P
        have hPk:P+rr≤k2:=by
         have:P*2≤P*(k2 / P):=Nat.mul_le_mul_left _ hq
         omega
        have HGO3:=Lib.hid hgo3
        have HPK:=Lib.hid hPk
        clear hgo2 hgo3 hrr hdm hq hPk hqq
        go_wp2_with fail
        go_roundw
        case rel=>exact ⟨P+rr,a2,P,0,by go_num,by go_num,rfl,rfl,HGO3.out,ha2P,hP,Nat.le_refl _,by omega,by have:=HPK.out;have:=HK2.out;omega,trivial⟩
        case measure=>simp [intOf];have:=HPK.out;have:=HK2.out;omega
       ·have hq1:¬ 1 < qq:=by omega
        clear hqq
        have HGO2:=Lib.hid hgo2
        clear hgo2 hq
        go_wp2_with fail
        go_roundw
        case rel=>exact ⟨k2,a2,P,0,by go_num,by go_num,rfl,rfl,HGO2.out,ha2P,hP,Nat.le_refl _,by omega,by have:=HK2.out;omega,trivial⟩
        case measure=>simp [intOf];have:=HK2.out;omega
  ·have hge:n≤i:=by omega
   have e:L.take i=L:=List.take_of_length_le (by rw [HL.out];exact hge)
   rw [e] at hst
   have hRs:R=sa:=by rw [HR.out,hst]
   subst hRs
   clear hst e HR
   go_wp2_with fail
   go_ret
   exact Ans.mk rfl hb
set_option maxRecDepth 100000 in
set_option maxHeartbeats 1600000 in
theorem bbudget_any (A:Option Addr) (n cap:Nat) (L:List Rn) (p z:Int) (w:World) (h:RdR w w.heap.size A n L) (hc:n≤cap) (hn:n≤1048576) (ht:ticks L≤1099511627776) (hz:In64 z) :
  Calls Tryz.prog 143 #[.slice A n cap,.int .i64 p,.int .i64 z] w (Ans (.int .i64 (budL (wordsL L) p z)) w):=by
 have HT:=Lib.hid (length_any A n cap L w h hc hn ht)
 obtain ⟨R,hR⟩:∃ R,R=budL (wordsL L) p z:=⟨_,rfl⟩
 rw [← hR]
 have hlen:=wordsL_len L
 by_cases h0:ticks L=0
 ·have e:R=-1:=by
   rw [hR]
   unfold budL
   rw [hlen]
   by_cases hz1:z < 1
   ·rw [if_pos hz1]
   ·rw [if_neg hz1,if_pos h0]
  subst e
  rw [h0] at HT
  clear hR hlen h0
  go_enter Tryz.func143,Tryz.ntmps143
  go_wp2_with fail
  refine HT.out.mono ?_
  rintro e w1 ⟨rfl,hb1⟩
  go_wp2_with fail
  go_ret
  exact Ans.mk rfl hb1
 ·by_cases hz1:z < 1
  ·have e:R=-1:=by rw [hR];unfold budL;rw [if_pos hz1]
   subst e
   have hzd:decide (z < 1)=true:=decide_eq_true hz1
   generalize ticks L=T at HT ht h0
   have htd:decide ((T:Int) < 1)=false:=decide_eq_false (by omega)
   have hT0:0 < T:=by omega
   clear hR hlen h0
   go_enter Tryz.func143,Tryz.ntmps143
   go_wp2_with fail
   refine HT.out.mono ?_
   rintro e w1 ⟨rfl,hb1⟩
   go_wp2_with fail
   go_ret
   exact Ans.mk rfl hb1
  ·obtain ⟨P,rfl⟩:∃ P:Nat,z=(P:Int):=⟨z.toNat,by omega⟩
   have hP:1≤P:=by omega
   have hzd:decide ((P:Int) < 1)=false:=decide_eq_false hz1
   have hzn:¬ P=0:=by omega
   by_cases hm:ticks L % P=0
   ·have hPT:P≤ticks L:=Nat.le_of_dvd (by omega) (Nat.dvd_of_mod_eq_zero hm)
    have e:R=((stpL p P ⟨P,P,0⟩ (wordsL L)).a:Int):=by
     rw [hR]
     unfold budL
     rw [hlen,if_neg (by omega),if_neg h0,Int.toNat_natCast,if_neg (by omega),stp_all hP (by rw [hlen];omega) (by rw [hlen];exact hm),hlen]
    rw [e]
    have HF:=Lib.hid fun W (hb:Below w.heap.size w W)=>fewest_any A n cap L p P W (h.on hb) hc hn ht hP (by omega)
    generalize (stpL p P ⟨P,P,0⟩ (wordsL L)).a=v at HF ⊢
    have hmi:((ticks L:Nat):Int).tmod (P:Int)=0:=by rw [Int.tmod_eq_emod_of_nonneg (Int.natCast_nonneg _),← Int.natCast_emod,hm];rfl
    have hmb:(((ticks L:Nat):Int).tmod (P:Int) != 0)=false:=by rw [hmi];rfl
    generalize ticks L=T at HT ht h0 hmi hmb
    have htd:decide ((T:Int) < 1)=false:=decide_eq_false (by omega)
    have hT0:0 < T:=by omega
    clear hR hlen h0 e hm hPT
    go_enter Tryz.func143,Tryz.ntmps143
    go_wp2_with fail
    refine HT.out.mono ?_
    rintro e w1 ⟨rfl,hb1⟩
    go_wp2_with fail
    refine (HF.out w1 hb1).mono ?_
    rintro e w2 ⟨rfl,hb2⟩
    have HB:=Lib.hid (hb1.trans (hb2.mono hb1.size))
    clear hb1 hb2
    go_wp2_with fail
    go_ret
    exact Ans.mk rfl HB.out
   ·have e:R=-1:=by
     rw [hR]
     unfold budL
     rw [hlen,if_neg (by omega),if_neg h0,Int.toNat_natCast,if_pos hm]
    subst e
    have hmi:¬ ((ticks L:Nat):Int).tmod (P:Int)=0:=by rw [Int.tmod_eq_emod_of_nonneg (Int.natCast_nonneg _),← Int.natCast_emod];omega
    have hmb:(((ticks L:Nat):Int).tmod (P:Int) != 0)=true:=bne_iff_ne.2 hmi
    have hme:¬ ((ticks L:Nat):Int) % (P:Int)=0:=by rw [← Int.natCast_emod];omega
    have hmc:(((ticks L:Nat):Int) % (P:Int) != 0)=true:=bne_iff_ne.2 hme
    generalize ticks L=T at HT ht h0 hmi hmb hme hmc
    have htd:decide ((T:Int) < 1)=false:=decide_eq_false (by omega)
    have hT0:0 < T:=by omega
    clear hR hlen h0 hm
    go_enter Tryz.func143,Tryz.ntmps143
    go_wp2_with fail
    refine HT.out.mono ?_
    rintro e w1 ⟨rfl,hb1⟩
    go_wp2_with fail
    go_ret
    exact Ans.mk rfl hb1
end Go.Proofs.YtfmndmhjjbeokaaGreatDoor
namespace Go.Proofs.YtfmndmhjjbeokaaGreatDoor
open Go.RowKit Tab
set_option linter.unusedSimpArgs false
set_option linter.unusedVariables false
structure BoundW:Prop where
 late:∀ (A:Option Addr) (n c:Nat) (L:List Rn) (p q:Int) (w:World),RdR w w.heap.size A n L→n≤c→n≤1048576→ticks L≤8192→Calls Tryz.prog 155 #[.slice A n c,.int .i64 p,.int .i64 q] w (Ans (.int .i64 (lateL (wordsL L) p q)) w)
 budget:∀ (A:Option Addr) (n c:Nat) (L:List Rn) (p z:Int) (w:World),RdR w w.heap.size A n L→n≤c→n≤1048576→ticks L≤8192→In64 z→Calls Tryz.prog 143 #[.slice A n c,.int .i64 p,.int .i64 z] w (Ans (.int .i64 (budL (wordsL L) p z)) w)
 gaps:∀ (A:Option Addr) (n c:Nat) (L:List Rn) (p:Int) (w:World),RdR w w.heap.size A n L→n≤c→n≤1048576→ticks L≤8192→Calls Tryz.prog 166 #[.slice A n c,.int .i64 p] w (Ans (.int .i64 (gapL (wordsL L) p)) w)
 holds:∀ (A1 A2 A3 A4:Option Addr) (n1 n2 n3 n4 c1 c2 c3 c4:Nat) (P:List PtV) (C:List ChV) (L:List Rn) (w:World),RdB pcl w w.heap.size A1 n1 P→RdB cc w w.heap.size A2 n2 C→RdR w w.heap.size A4 n4 L →
  n1≤1048576→n2≤1048576→n4≤c4→n4≤1048576→ticks L≤8192→(∀ x∈P,In64 x.per)→Calls Tryz.prog 126 #[.agg #[.slice A1 n1 c1,.slice A2 n2 c2,.slice A3 n3 c3],.slice A4 n4 c4] w (Ans (.int .i64 (holdsF (wordsL L) P C)) w)
end Go.Proofs.YtfmndmhjjbeokaaGreatDoor
