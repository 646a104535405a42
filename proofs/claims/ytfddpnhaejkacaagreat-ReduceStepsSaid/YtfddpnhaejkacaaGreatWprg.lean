import Derived.Test.YtfddpnhaejkacaaGreatLow6
import Derived.Test.YtfddpnhaejkacaaGreatLow10
import Derived.Test.YtfddpnhaejkacaaGreatLow3
import Derived.Laws.StructEq
set_option linter.unusedSimpArgs false
set_option linter.unusedVariables false
namespace Go.Proofs.YtfddpnhaejkacaaGreat
open Go.RowKit Tab
open Lib (hid)
set_option maxRecDepth 100000 in
set_option maxHeartbeats 4000000 in
theorem wproj_any (A:Option Addr) (n cap:Nat) (L:List Rn) (a b:Int) (w:World) (h:RdR w w.heap.size A n L) (hc:n≤cap) (hn:n≤1048576) (ht:ticks L≤1099511627776) :
  Calls Tryz.prog 126 #[.slice A n cap,.int .i64 a,.int .i64 b] w (MadeR (proj a b L) w):=by
 have hfl:=ticks_filter (sees a b) L
 go_enter Tryz.func126,Tryz.ntmps126
 go_wp2_with fail
 go_loopw [7,9,12] (fun q _ s wr=>∃(i m c':Nat) (A':Option Addr),i≤n∧s=.int .i64 i∧q=.slice A' m c'∧m≤i∧OwnV 75 2 wr w.heap.size A' m c' (rs (prj a b (L.take i)))∧Below w.heap.size w wr) (fun _ _ s _=>n - (intOf s).toNat)
 case atStart=>exact⟨0,0,0,none,by omega,rfl,rfl,by omega,by simpa [prj,rs] using OwnV.nil _ _ _ _,Below.refl _ _⟩
 case round =>
  obtain⟨i,m,c',A',hi,rfl,rfl,hm,how,hb⟩:=hrel
  by_cases hlt:i < n
  ·have hlti:(i:Int) < (n:Int):=by omega
   obtain⟨ad,r,rfl,had,hr,c0,c1⟩:=(h.on hb).at_ hlt
   have hmore:=prj_more (a:=a) (b:=b) hr
   have hbl:=bl1 wr (.cells #[.int .i64 r.p,.int .i64 (r.n:Int)] 75)
   have hb1:=hb.trans (hbl.mono hb.size)
   have how1:=how.below rfl hbl
   have f0:(wr.alloc (.cells #[.int .i64 r.p,.int .i64 (r.n:Int)] 75)).cell? ⟨wr.heap.size,0,none⟩=some (.int .i64 r.p):=World.cell?_alloc_mark _ _ _ _ _
   have f1:(wr.alloc (.cells #[.int .i64 r.p,.int .i64 (r.n:Int)] 75)).cell? ⟨wr.heap.size,1,none⟩=some (.int .i64 (r.n:Int)):=World.cell?_alloc_mark _ _ _ _ _
   clear how hb hbl hr
   go_upto_region 5 with fail
   generalize wr.alloc (.cells #[.int .i64 r.p,.int .i64 (r.n:Int)] 75)=W1 at hb1 how1 f0 f1 ⊢
   generalize wr.heap.size=gx at f0 f1 ⊢
   clear c0 c1
   by_cases hs:sees a b r=true
   ·rw[if_pos hs] at hmore
    have HMO:=hid hmore
    have hbl:=bl1 W1 (.cells #[.int .i64 r.p,.int .i64 (r.n:Int)] 75)
    have how2:=how1.below rfl hbl
    have hrd:=rdV_new W1 #[.int .i64 r.p,.int .i64 (r.n:Int)] 75 (rs [r]) rfl
    have hb2:=hb1.trans (hbl.mono hb1.size)
    have hs2:=hb2.size
    have HB2:=hid hb2
    have hs':=sees_iff.1 hs
    clear hmore how1 hb1 hbl hb2 hs
    by_cases ha:r.p=a
    ·have ha':(r.p == a)=true:=beq_iff_eq.2 ha
     clear hs' ha
     go_wp2_with (at_builtin;go_loud (refine wpList_appX elR rfl (.tmp 26) (.tmp 28) rfl rfl w.heap.size A' m c' _ rfl how2 _ 1 1 _ _ rfl hrd rfl Nat.one_pos (rs_one _) (by omega) (by unfold maxLen;omega) hs2 (m+1) rfl (rs (prj a b (L.take (i+1)))) (by rw[HMO.out];exact(rs_append _ _).symm) ?_;intro A4 c4 w4 hw4 hb4 hot))
     go_roundw
     case rel=>exact⟨i+1,m+1,c4,A4,by omega,by go_num,rfl,by omega,hw4,HB2.out.trans hb4⟩
     case measure=>simp[intOf];omega
    ·have ha':(r.p == a)=false:=beq_eq_false_iff_ne.2 ha
     have hb':(r.p == b)=true:=beq_iff_eq.2 (hs'.resolve_left ha)
     clear hs' ha
     go_wp2_with (at_builtin;go_loud (refine wpList_appX elR rfl (.tmp 26) (.tmp 28) rfl rfl w.heap.size A' m c' _ rfl how2 _ 1 1 _ _ rfl hrd rfl Nat.one_pos (rs_one _) (by omega) (by unfold maxLen;omega) hs2 (m+1) rfl (rs (prj a b (L.take (i+1)))) (by rw[HMO.out];exact(rs_append _ _).symm) ?_;intro A4 c4 w4 hw4 hb4 hot))
     go_roundw
     case rel=>exact⟨i+1,m+1,c4,A4,by omega,by go_num,rfl,by omega,hw4,HB2.out.trans hb4⟩
     case measure=>simp[intOf];omega
   ·rw[if_neg hs] at hmore
    rw[← hmore] at how1
    have HOW:=hid how1
    have HB1:=hid hb1
    have ha:r.p≠a:=fun e=>hs (sees_iff.2 (.inl e))
    have hb:r.p≠b:=fun e=>hs (sees_iff.2 (.inr e))
    have ha':(r.p == a)=false:=beq_eq_false_iff_ne.2 ha
    have hb':(r.p == b)=false:=beq_eq_false_iff_ne.2 hb
    clear hmore how1 hb1 hs ha hb
    go_wp2_with fail
    go_roundw
    case rel=>exact⟨i+1,m,c',A',by omega,by go_num,rfl,by omega,HOW.out,HB1.out⟩
    case measure=>simp[intOf];omega
  ·have hge:¬ (i:Int) < (n:Int):=by omega
   have e:L.take i=L:=List.take_of_length_le (by rw[h.len];omega)
   rw[e] at how
   have hcp:=how.cap
   have HT:=hid (tidy_any A' m c' (prj a b L) wr how.rdr hcp (by omega) (by unfold prj;omega))
   have HB:=hid hb
   clear how hb e
   go_wp2_with fail
   refine HT.out.mono ?_
   rintro e w5 ⟨A5,c5,rfl,hr5,hc5,hb5,hnew⟩
   have H5:=hid hr5
   have HB5:=hid (HB.out.trans (hb5.mono HB.out.size))
   have HN:=hid hnew
   clear hr5 hb5 hnew
   go_wp2_with fail
   go_ret
   exact⟨A5,c5,rfl,H5.out,hc5,HB5.out,fun ad e=>Nat.le_trans HB.out.size (HN.out ad e)⟩
def sayW (n:Nat) (m:Nat→Nat→Bool) (a b:Nat):Bool:=decide (a < n) && (decide (b < n) && m a b)
theorem depW_say (n:Nat) (m:Nat→Nat→Bool) (a b:Nat):depW n m a b=(decide ((a:Int)=b) || (sayW n m a b || sayW n m b a)):=by
 unfold depW sayW
 have h1:inP n (a:Int)=decide (a < n):=by
  rw[Bool.eq_iff_iff,inP_iff,decide_eq_true_eq]
  omega
 have h2:inP n (b:Int)=decide (b < n):=by
  rw[Bool.eq_iff_iff,inP_iff,decide_eq_true_eq]
  omega
 rw[h1,h2,show (a:Int).toNat=a from rfl,show (b:Int).toNat=b from rfl]
 cases decide (a < n) <;> cases decide (b < n) <;> cases m a b <;> cases m b a <;> simp
set_option maxRecDepth 100000 in
set_option maxHeartbeats 1000000 in
theorem wsays_any (A:Option Addr) (n c:Nat) (m:Nat→Nat→Bool) (a b:Nat) (w:World) (h:RdM w w.heap.size A n (fun _=>n) m) (hn:n≤1024) (ha:a≤1024) (hb:b≤1024) :
  Calls Tryz.prog 155 #[.slice A n c,.int .i64 (a:Int),.int .i64 (b:Int)] w (Ans (.bool (sayW n m a b)) w):=by
 have hv:∀ v,v=sayW n m a b→Ans (.bool (sayW n m a b)) w (.returned (.bool v)) w:=fun v e=>by rw[e];exact Ans.mk rfl (Below.refl _ _)
 have HV:=hid hv
 clear hv
 by_cases han:a < n
 ·have hani:(a:Int) < (n:Int):=by omega
  by_cases hbn:b < n
  ·have hbni:(b:Int) < (n:Int):=by omega
   have hd:sayW n m a b=m a b:=by unfold sayW;rw[decide_eq_true han,decide_eq_true hbn];rfl
   obtain⟨ad,R,c1,rfl,had,p0,_,hr0⟩:=h.at_ han
   obtain⟨ar,rfl,_,u0⟩:=hr0.at_ hbn
   have HD:=hid hd
   clear hr0 h hd
   go_enter Tryz.func155,Tryz.ntmps155
   generalize m a b=v0 at u0 HD
   go_wp2_with fail
   go_ret
   exact HV.out _ (by rw[HD.out])
  ·have hbni:¬ (b:Int) < (n:Int):=by omega
   have hd:sayW n m a b=false:=by unfold sayW;rw[decide_eq_false hbn];simp
   obtain⟨ad,R,c1,rfl,had,p0,_,hr0⟩:=h.at_ han
   have HD:=hid hd
   clear hr0 h hd
   go_enter Tryz.func155,Tryz.ntmps155
   go_wp2_with fail
   go_ret
   exact HV.out _ (by rw[HD.out])
 ·have hani:¬ (a:Int) < (n:Int):=by omega
  have hd:sayW n m a b=false:=by unfold sayW;rw[decide_eq_false han];rfl
  have HD:=hid hd
  clear h hd
  go_enter Tryz.func155,Tryz.ntmps155
  go_wp2_with fail
  go_ret
  exact HV.out _ (by rw[HD.out])
set_option maxRecDepth 100000 in
set_option maxHeartbeats 1000000 in
theorem wdep_any (A:Option Addr) (n c:Nat) (m:Nat→Nat→Bool) (a b:Nat) (w:World) (h:RdM w w.heap.size A n (fun _=>n) m) (hn:n≤1024) (ha:a≤1024) (hb:b≤1024) :
  Calls Tryz.prog 125 #[.slice A n c,.int .i64 (a:Int),.int .i64 (b:Int)] w (Ans (.bool (depW n m a b)) w):=by
 have hd:=depW_say n m a b
 have S1:=hid fun W (hW:Below w.heap.size w W)=>wsays_any A n c m a b W (h.on hW) hn ha hb
 have S2:=hid fun W (hW:Below w.heap.size w W)=>wsays_any A n c m b a W (h.on hW) hn hb ha
 obtain⟨v,hv⟩:∃ v,v=depW n m a b:=⟨_,rfl⟩
 rw[← hv] at hd ⊢
 clear hv h
 generalize sayW n m a b=s1 at hd S1
 generalize sayW n m b a=s2 at hd S2
 by_cases hab:a=b
 ·subst hab
  have hd':v=true:=by rw[hd];simp
  subst hd'
  clear hd S1 S2
  go_enter Tryz.func125,Tryz.ntmps125
  go_wp2_with fail
  go_ret
  exact Ans.mk rfl (Below.refl _ _)
 ·have hab':((a:Int) == (b:Int))=false:=beq_eq_false_iff_ne.2 (by omega)
  have habd:decide ((a:Int)=(b:Int))=false:=decide_eq_false (by omega)
  rw[habd] at hd
  have HD:=hid hd
  clear hd habd
  go_enter Tryz.func125,Tryz.ntmps125
  cases s1 with
  | true =>
   go_wp2_with fail
   refine(S1.out w (Below.refl _ _)).mono ?_
   rintro e w1 ⟨rfl,k1⟩
   go_wp2_with fail
   go_ret
   exact Ans.mk (by rw[HD.out];rfl) k1
  | false =>
   go_wp2_with fail
   refine(S1.out w (Below.refl _ _)).mono ?_
   rintro e w1 ⟨rfl,k1⟩
   go_wp2_with fail
   refine(S2.out w1 k1).mono ?_
   rintro e w2 ⟨rfl,hb2⟩
   have k2:=k1.trans (hb2.mono k1.size)
   go_wp2_with fail
   go_ret
   exact Ans.mk (by rw[HD.out];rfl) k2
set_option maxRecDepth 100000 in
set_option maxHeartbeats 4000000 in
theorem wdiffer_any (A1 A2 A3:Option Addr) (n1 n2 n3 c1 c2 c3:Nat) (X Y:List Rn) (m:Nat→Nat→Bool) (w:World) (hX:RdR w w.heap.size A1 n1 X) (hY:RdR w w.heap.size A2 n2 Y) (hM:RdM w w.heap.size A3 n3 (fun _=>n3) m)
  (q1:n1≤c1) (q2:n2≤c2) (b1:n1≤1048576) (b2:n2≤1048576) (b3:n3≤1024) (t1:ticks X≤1099511627776) (t2:ticks Y≤1099511627776) :
  Calls Tryz.prog 91 #[.slice A1 n1 c1,.slice A2 n2 c2,.slice A3 n3 c3] w (DifA (diffF (depW n3 m) X Y) w):=by
 obtain⟨v,hv⟩:∃ v,v=diffF (depW n3 m) X Y:=⟨_,rfl⟩
 rw[← hv]
 obtain⟨B,hB⟩:∃ B,B=badF (depW n3 m) X Y:=⟨_,rfl⟩
 unfold diffF at hv
 rw[← hB] at hv
 have HV:=hid hv
 have HB:=hid hB
 have HX:=hid hX
 have HY:=hid hY
 have HM:=hid hM
 clear hv hB hX hY hM
 go_enter Tryz.func91,Tryz.ntmps91
 go_wp2_with fail
 go_loopw [9,10,11] (fun _ _ s wx=>∃ a:Nat,a≤6∧s=.int .i64 a∧rowsF B a (6 - a)=rowsF B 0 6∧Below w.heap.size w wx) (fun _ _ s _=>6 - (intOf s).toNat)
 case atStart=>exact⟨0,by omega,rfl,rfl,Below.refl _ _⟩
 case round =>
  obtain⟨a,ha6,rfl,hrow,hb⟩:=hrel
  have HROW:=hid hrow
  have HBa:=hid hb
  clear hrow hb
  by_cases ha:a < 6
  ·have hai:(a:Int) < 6:=by omega
   go_wp2_with fail
   go_loopw [10] (fun s wx=>∃ b:Nat,a≤b∧b≤6∧s=.int .i64 b∧firstF (B a) b (6 - b)=firstF (B a) a (6 - a)∧Below w.heap.size w wx) (fun s _=>6 - (intOf s).toNat)
   case atStart=>exact⟨a,Nat.le_refl _,ha6,rfl,rfl,HBa.out⟩
   case round =>
    obtain⟨b,hab,hb6,rfl,hfst,hb⟩:=hrel
    clear HBa
    have HF:=hid hfst
    clear hfst
    by_cases hbl:b < 6
    ·have hbi:(b:Int) < 6:=by omega
     have HBAD:Hid (B a b=(depW n3 m a b && !(sameR (proj a b X) (proj a b Y)))):=hid (by rw[HB.out];rfl)
     have HNEXT:Hid (B a b=false→firstF (B a) (b+1) (6 - (b+1))=firstF (B a) a (6 - a)):=hid fun e=>by
      rw[← HF.out,firstF_step hbl,if_neg (by rw[e];decide)]
     have HDONE:Hid (B a b=true→v=((a:Int),(b:Int),true)):=hid fun e=>by
      have h1:firstF (B a) a (6 - a)=some b:=by rw[← HF.out,firstF_step hbl,if_pos e]
      have h2:rowsF B 0 6=some (a,b):=by rw[← HROW.out,rowsF_step ha,h1]
      rw[HV.out,h2]
     have HD:=hid (wdep_any A3 n3 c3 m a b wr ((HM.out.on hb)) b3 (by omega) (by omega))
     obtain⟨d,hd⟩:∃ d,d=depW n3 m a b:=⟨_,rfl⟩
     rw[← hd] at HD HBAD
     have HBb:=hid hb
     clear hb hd
     go_wp2_with fail
     refine HD.out.mono ?_
     rintro e w4 ⟨rfl,hb4⟩
     have HB4:=hid (HBb.out.trans (hb4.mono HBb.out.size))
     clear hb4 HD
     cases d with
     | false =>
      have HN:=hid (HNEXT.out (by rw[HBAD.out];rfl))
      go_wp2_with fail
      go_roundw
      case rel=>exact⟨b+1,by omega,by omega,by go_num,HN.out,HB4.out⟩
      case measure=>simp[intOf];omega
     | true =>
      have HP1:=hid (wproj_any A1 n1 c1 X a b w4 (HX.out.on HB4.out) q1 b1 t1)
      go_wp2_with fail
      refine HP1.out.mono ?_
      rintro e w5 ⟨A5,c5,rfl,hr5,hc5,hb5,_⟩
      have HB5:=hid (HB4.out.trans (hb5.mono HB4.out.size))
      have HR5:=hid hr5
      have HP2:=hid (wproj_any A2 n2 c2 Y a b w5 (HY.out.on HB5.out) q2 b2 t2)
      clear hb5 hr5 HP1
      go_wp2_with fail
      refine HP2.out.mono ?_
      rintro e w6 ⟨A6,c6,rfl,hr6,hc6,hb6,_⟩
      have HB6:=hid (HB5.out.trans (hb6.mono HB5.out.size))
      have hl5:(proj a b X).length≤1048576:=by
       have h1:=tidy_le (prj a b X)
       have h2:=prj_le a b X
       rw[HX.out.len] at h2
       unfold proj
       omega
      have HS:=hid (rsame_any A5 A6 _ _ c5 c6 _ _ w6 (HR5.out.on hb6) hr6 hl5)
      generalize sameR (proj a b X) (proj a b Y)=s at HS HBAD
      generalize (proj a b X).length=l5 at HS HR5 hc5 ⊢
      generalize (proj a b Y).length=l6 at HS hc6 ⊢
      clear hr6 hb6 HP2 hl5 HR5
      go_wp2_with fail
      refine HS.out.mono ?_
      intro e w7 hq
      obtain⟨rfl,hb7⟩:=hq.ans
      have HB7:=hid (HB6.out.trans (hb7.mono HB6.out.size))
      clear hq hb7 HS
      cases s with
      | true =>
       have HN:=hid (HNEXT.out (by rw[HBAD.out];rfl))
       go_wp2_with fail
       go_roundw
       case rel=>exact⟨b+1,by omega,by omega,by go_num,HN.out,HB7.out⟩
       case measure=>simp[intOf];omega
      | false =>
       have HVV:=hid (HDONE.out (by rw[HBAD.out];rfl))
       go_wp2_with fail
       go_ret3
       exact⟨by rw[HVV.out];rfl,HB7.out⟩
    ·have hbi:¬ (b:Int) < 6:=by omega
     obtain rfl:b=6:=by omega
     have HN:Hid (rowsF B (a+1) (6 - (a+1))=rowsF B 0 6):=hid (by
      have h1:firstF (B a) a (6 - a)=none:=by rw[← HF.out];rfl
      rw[← HROW.out,rowsF_step ha,h1])
     have HBb:=hid hb
     clear hb
     go_wp2_with fail
     go_roundw
     case rel=>exact⟨a+1,by omega,by go_num,HN.out,HBb.out⟩
     case measure=>simp[intOf];omega
  ·have hai:¬ (a:Int) < 6:=by omega
   obtain rfl:a=6:=by omega
   have HVV:Hid (v=(-1,-1,tkOf (-1) X != tkOf (-1) Y)):=hid (by
    have h2:rowsF B 0 6=none:=by rw[← HROW.out];rfl
    rw[HV.out,h2])
   have HT1:=hid (ticks_any A1 n1 c1 X (-1) wr (HX.out.on HBa.out) q1 b1 t1)
   have HT2:=hid fun w' (hb:Below w.heap.size w w')=>ticks_any A2 n2 c2 Y (-1) w' (HY.out.on hb) q2 b2 t2
   generalize tkOf (-1) X=u1 at HT1 HVV
   generalize tkOf (-1) Y=u2 at HT2 HVV
   obtain⟨q,hq⟩:∃ q,q=(u1 != u2):=⟨_,rfl⟩
   have hqi:((u1:Int) != (u2:Int))=q:=by
    rw[hq]
    by_cases h:u1=u2
    ·subst h;simp
    ·rw[bne_iff_ne.2 h];exact bne_iff_ne.2 (by omega)
   rw[← hq] at HVV
   clear hq
   go_wp2_with fail
   refine HT1.out.mono ?_
   rintro e w5 ⟨rfl,hb5⟩
   have HB5:=hid (HBa.out.trans (hb5.mono HBa.out.size))
   clear hb5 HT1
   go_wp2_with fail
   refine(HT2.out w5 HB5.out).mono ?_
   rintro e w6 ⟨rfl,hb6⟩
   have HB6:=hid (HB5.out.trans (hb6.mono HB5.out.size))
   clear hb6 HT2
   go_wp2_with fail
   go_ret3
   exact⟨by rw[HVV.out];rfl,HB6.out⟩
set_option maxRecDepth 100000 in
set_option maxHeartbeats 1000000 in
theorem wsame_any (A1 A2 A3:Option Addr) (n1 n2 n3 c1 c2 c3:Nat) (X Y:List Rn) (m:Nat→Nat→Bool) (w:World) (hX:RdR w w.heap.size A1 n1 X) (hY:RdR w w.heap.size A2 n2 Y) (hM:RdM w w.heap.size A3 n3 (fun _=>n3) m)
  (q1:n1≤c1) (q2:n2≤c2) (b1:n1≤1048576) (b2:n2≤1048576) (b3:n3≤1024) (t1:ticks X≤1099511627776) (t2:ticks Y≤1099511627776) :
  Calls Tryz.prog 57 #[.slice A1 n1 c1,.slice A2 n2 c2,.slice A3 n3 c3] w (Ans (.bool (!(diffF (depW n3 m) X Y).2.2)) w):=by
 have H:=hid (wdiffer_any A1 A2 A3 n1 n2 n3 c1 c2 c3 X Y m w hX hY hM q1 q2 b1 b2 b3 t1 t2)
 generalize diffF (depW n3 m) X Y=v at H ⊢
 obtain⟨v0,v1,v2⟩:=v
 clear hX hY hM
 go_enter Tryz.func57,Tryz.ntmps57
 go_wp2_with fail
 refine H.out.mono ?_
 rintro e w5 ⟨rfl,hb5⟩
 dsimp only
 go_wp2_with fail
 go_ret
 exact Ans.mk rfl hb5
end Go.Proofs.YtfddpnhaejkacaaGreat
