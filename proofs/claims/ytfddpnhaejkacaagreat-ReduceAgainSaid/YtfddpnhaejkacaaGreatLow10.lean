import Derived.Test.YtfddpnhaejkacaaGreatLow9
import Derived.Deep.CutRange
import Derived.Test.YtfddpnhaejkacaaGreatLow5
import Derived.Laws.StructEq
import Derived.BigQuiet
import Derived.Test.YtfddpnhaejkacaaGreatLow8
import Derived.Test.YtfddpnhaejkacaaGreatLow7
set_option linter.unusedSimpArgs false
set_option linter.unusedVariables false
namespace Go.Proofs.YtfddpnhaejkacaaGreat
open Go.RowKit Tab
open Lib (hid)
def testB (I:Itr) (p i:Nat):Bool:=decide (0 < i) && sameAt I (i - 1) (i - 1+p)
theorem testB_zero (I:Itr) (p:Nat):testB I p 0=false:=rfl
theorem testB_succ (I:Itr) (p k:Nat):testB I p (k+1)=sameAt I k (k+p):=by unfold testB;simp
theorem backI_yes {I:Itr} {p i:Nat} (h:testB I p i=true):∃ k,i=k+1∧backI I p i=backI I p k:=by
 cases i with
 | zero=>cases h
 | succ k=>rw[testB_succ] at h;exact⟨k,rfl,by simp only[backI];rw[if_pos h]⟩
theorem backI_no {I:Itr} {p i:Nat} (h:testB I p i=false):backI I p i=i:=by
 cases i with
 | zero=>rfl
 | succ k=>rw[testB_succ] at h;simp only[backI];rw[if_neg (by rw[h];simp)]
def testF (I:Itr) (p n t:Nat):Bool:=decide (t+p < n) && sameAt I t (t+p)
theorem fwdI_no {I:Itr} {p n f t:Nat} (hn:I.length=n) (h:testF I p n t=false):fwdI I p f t=t:=by
 cases f with
 | zero=>rfl
 | succ f =>
  simp only[fwdI]
  rw[if_neg]
  unfold testF at h
  intro ⟨h1,h2⟩
  rw[h2,decide_eq_true (by omega)] at h
  cases h
set_option maxRecDepth 100000 in
set_option maxHeartbeats 4000000 in
theorem stretch_any (A:Option Addr) (n cap g p place:Nat) (I:Itr) (w:World) (h:RdL w w.heap.size g A n I) (hc:n≤cap) (hn:n≤1048576) (hsz:szI I≤1048576) (hp:place+p < n) :
  Calls Tryz.prog 109 #[.slice A n cap,.int .i64 (p:Int),.int .i64 (place:Int)] w (Qui (.tuple #[.int .i64 (backI I p place:Nat),.int .i64 (fwdI I p I.length place:Nat)]) w):=by
 generalize hR:backI I p place=R
 generalize hT:fwdI I p I.length place=T
 have HR:=hid hR
 have HT:=hid hT
 have HL:=hid h.len
 clear hR hT
 go_enter Tryz.func109,Tryz.ntmps109
 go_wp2_with fail
 go_loopw [8] (fun s wr=>∃ i q:Nat,i≤place∧s=.int .i64 i∧backI I p i=R∧wr=w.drewN q) (fun s _=>(intOf s).toNat)
 case atStart=>exact⟨place,0,by omega,rfl,HR.out,rfl⟩
 case round =>
  obtain⟨i,q,hi,rfl,hs,rfl⟩:=hrel
  have HS:=hid hs
  clear hs
  obtain⟨b,hb⟩:∃ b,testB I p i=b:=⟨_,rfl⟩
  have HB:=hid hb
  clear hb
  go_upto_region 2 with fail
  go_cut [8,28] from 12 to 30 (fun s8 c wx=>s8=.int .i64 i∧c=.bool b∧∃ q2,wx=w.drewN q2)
  case first =>
   by_cases hlt:0 < i
   ·obtain⟨k,rfl⟩:∃ k,i=k+1:=⟨i - 1,by omega⟩
    obtain⟨ad,x,A1,c1,rfl,had,hx,d0,hl1,hr1⟩:=h.at_ (show k < n by omega)
    obtain⟨ad2,y,A2,c2,e2,had2,hy,d1,hl2,hr2⟩:=h.at_ (show k+p < n by omega)
    injection e2 with e2
    subst e2
    have hlx:x.length≤1048576:=Nat.le_trans (szI_mem hx) hsz
    have HNS:=hid fun nn=>nsame_any A1 A2 x.length y.length c1 c2 x y (w.drewN nn) (hr1.below (Below.drewN (Below.refl _ _) nn)) (hr2.below (Below.drewN (Below.refl _ _) nn)) hlx
    have hst:=HB.out
    rw[testB_succ,sameAt_eq hx hy] at hst
    rw[hst] at HNS
    clear hst hx hy hlx hr1 hr2 had2
    generalize x.length=m1 at d0 hl1 HNS
    generalize y.length=m2 at d1 hl2 HNS
    have hkw:IntKind.i64.wrap (k:Int)=(k:Int):=IntWalk.i64_in _ (by omega)
    have hkn:k < n:=by omega
    have hmn:k+p < n:=by omega
    have hsum:(k:Int)+(p:Int)=((k+p:Nat):Int):=by omega
    generalize k+p=m at d1 hmn hsum
    have hkp:IntKind.i64.wrap (m:Int)=(m:Int):=IntWalk.i64_in _ (by omega)
    go_quiet ((go_at_call 148;exact Qui.sum (HNS.out _)))
    go_wp2_with fail
    go_meet
    case rel=>exact⟨rfl,rfl,q+nq,World.drewN_drewN _ _ _⟩
   ·obtain rfl:i=0:=by omega
    have hst:=HB.out
    rw[testB_zero] at hst
    subst hst
    go_wp2_with fail
    go_quiet (fail)
    go_wp2_with fail
    go_meet
    case rel=>exact⟨rfl,rfl,q+nq,World.drewN_drewN _ _ _⟩
  case rest =>
   obtain⟨rfl,rfl,q2,rfl⟩:=hcut
   cases b with
   | true =>
    obtain⟨k,rfl,e⟩:=backI_yes HB.out
    have hst:=HS.out
    rw[e] at hst
    have HST:=hid hst
    clear hst HS e
    go_wp2_with fail
    go_roundw
    case rel=>exact⟨k,q2,by omega,by go_num,HST.out,rfl⟩
    case measure=>simp[intOf]
   | false =>
    have e:=backI_no HB.out
    have hst:=HS.out
    rw[e] at hst
    subst hst
    clear HS e
    go_wp2_with fail
    go_loopw [9] (fun s wr=>∃ j q f:Nat,place≤j∧j≤n∧s=.int .i64 j∧n < j+(f+1)∧fwdI I p f j=T∧wr=w.drewN q) (fun s _=>n - (intOf s).toNat)
    case atStart=>exact⟨place,q2,n,by omega,by omega,rfl,by omega,by rw[← HT.out,HL.out],rfl⟩
    case round =>
     obtain⟨j,q,f,hj0,hj,rfl,hf,hs,rfl⟩:=hrel
     have HS:=hid hs
     clear hs
     obtain⟨b,hb⟩:∃ b,testF I p n j=b:=⟨_,rfl⟩
     have HB:=hid hb
     clear hb
     go_upto_region 4 with fail
     go_cut [9,49] from 31 to 51 (fun s9 c wx=>s9=.int .i64 j∧c=.bool b∧∃ q2,wx=w.drewN q2)
     case first =>
      by_cases hlt:j+p < n
      ·obtain⟨ad,x,A1,c1,rfl,had,hx,d0,hl1,hr1⟩:=h.at_ (show j < n by omega)
       obtain⟨ad2,y,A2,c2,e2,had2,hy,d1,hl2,hr2⟩:=h.at_ hlt
       injection e2 with e2
       subst e2
       have hlx:x.length≤1048576:=Nat.le_trans (szI_mem hx) hsz
       have HNS:=hid fun nn=>nsame_any A1 A2 x.length y.length c1 c2 x y (w.drewN nn) (hr1.below (Below.drewN (Below.refl _ _) nn)) (hr2.below (Below.drewN (Below.refl _ _) nn)) hlx
       have hst:=HB.out
       unfold testF at hst
       rw[decide_eq_true hlt,Bool.true_and,sameAt_eq hx hy] at hst
       rw[hst] at HNS
       clear hst hx hy hlx hr1 hr2 had2
       generalize x.length=m1 at d0 hl1 HNS
       generalize y.length=m2 at d1 hl2 HNS
       have hjn:j < n:=by omega
       have hsum:(j:Int)+(p:Int)=((j+p:Nat):Int):=by omega
       generalize j+p=m at d1 hlt hsum
       have hkp:IntKind.i64.wrap (m:Int)=(m:Int):=IntWalk.i64_in _ (by omega)
       go_quiet ((go_at_call 148;exact Qui.sum (HNS.out _)))
       go_wp2_with fail
       go_meet
       case rel=>exact⟨rfl,rfl,q+nq,World.drewN_drewN _ _ _⟩
      ·have hst:=HB.out
       unfold testF at hst
       rw[decide_eq_false hlt,Bool.false_and] at hst
       subst hst
       have hkp:IntKind.i64.wrap ((j:Int)+(p:Int))=(j:Int)+(p:Int):=IntWalk.i64_in _ (by omega)
       have hlt':¬ (j:Int)+(p:Int) < (n:Int):=by omega
       go_quiet (fail)
       go_wp2_with fail
       go_meet
       case rel=>exact⟨rfl,rfl,q+nq,rfl⟩
     case rest =>
      obtain⟨rfl,rfl,q2,rfl⟩:=hcut
      cases b with
      | true =>
       have hB:=HB.out
       have hjn:j+p < n:=by
        unfold testF at hB
        simp only[Bool.and_eq_true,decide_eq_true_eq] at hB
        exact hB.1
       obtain⟨f',rfl,e⟩:∃ f',f=f'+1∧fwdI I p f j=fwdI I p f' (j+1):=by
        obtain⟨f',rfl⟩:∃ f',f=f'+1:=⟨f - 1,by omega⟩
        refine⟨f',rfl,?_⟩
        unfold testF at hB
        simp only[Bool.and_eq_true,decide_eq_true_eq] at hB
        simp only[fwdI]
        rw[if_pos ⟨by rw[HL.out];omega,hB.2⟩]
       have hst:=HS.out
       rw[e] at hst
       have HST:=hid hst
       clear hst HS e hB
       go_wp2_with fail
       go_roundw
       case rel=>exact⟨j+1,q2,f',by omega,by omega,by go_num,by omega,HST.out,rfl⟩
       case measure=>simp[intOf];omega
      | false =>
       have e:=fwdI_no (f:=f) HL.out HB.out
       have hst:=HS.out
       rw[e] at hst
       subst hst
       clear HS e
       go_wp2_with fail
       go_ret2
       exact⟨rfl,q2,rfl⟩
def Same' (w wr:World):Prop:=∃ q,wr=w.drewN q
theorem pick_yes {I:Itr} {q place:Nat} {s:Bst} (h:s.most < savedI I q place∨(savedI I q place=s.most∧backI I q place < s.at_)):pickI I q place s=⟨savedI I q place,backI I q place,q,oftenI I q place⟩:=if_pos h
theorem pick_no {I:Itr} {q place:Nat} {s:Bst} (h:¬ (s.most < savedI I q place∨(savedI I q place=s.most∧backI I q place < s.at_))):pickI I q place s=s:=if_neg h
theorem inner_go {I:Itr} {q f place:Nat} {s:Bst} (h:place+q < I.length):innerI I q (f+1) place s=innerI I q f (fwdI I q I.length place+q) (pickI I q place s):=by simp only[innerI];rw[if_pos h]
theorem inner_end {I:Itr} {q f place:Nat} {s:Bst} (h:¬ place+q < I.length):innerI I q f place s=s:=by
 cases f with
 | zero=>rfl
 | succ f=>simp only[innerI];rw[if_neg h]
theorem outer_go {I:Itr} {q f:Nat} {s:Bst} (h:2*q≤I.length∧s.most < (szI I:Int) - q):outerI I (f+1) q s=outerI I f (q+1) (innerI I q I.length (q - 1) s):=by simp only[outerI];rw[if_pos h]
theorem outer_end {I:Itr} {q f:Nat} {s:Bst} (h:¬ (2*q≤I.length∧s.most < (szI I:Int) - q)):outerI I f q s=s:=by
 cases f with
 | zero=>rfl
 | succ f=>simp only[outerI];rw[if_neg h]
structure Small (s:Bst):Prop where
 most:-8≤s.most∧s.most≤1099511627776
 at_:s.at_≤1048576
 p:s.p≤1048576
 n:s.n≤2097152
theorem often_le (I:Itr) (q place:Nat) (hq:1≤q) (hp:place+q < I.length):oftenI I q place≤I.length:=by
 unfold oftenI
 have h1:=fwdI_le I q I.length place (by omega)
 have h2:=Nat.div_le_self (fwdI I q I.length place - backI I q place) q
 omega
theorem saved_le (I:Itr) (q place:Nat) (hq:1≤q) (hp:place+q < I.length) (hn:I.length≤1048576) (hs:szI I≤1048576):-8≤savedI I q place∧savedI I q place≤1099511627776:=by
 unfold savedI savI
 have h1:=often_le I q place hq hp
 have h2:szI ((I.drop (backI I q place)).take q)≤1048576:=Nat.le_trans (szI_take _ _) (Nat.le_trans (szI_drop _ _) hs)
 have h3:szI ((I.drop (backI I q place)).take q)*(oftenI I q place - 1)≤1048576*1048576:=Nat.mul_le_mul h2 (by omega)
 split
 ·omega
 ·split <;> omega
theorem pick_small {I:Itr} {q place:Nat} {s:Bst} (h:Small s) (hq:1≤q) (hp:place+q < I.length) (hn:I.length≤1048576) (hs:szI I≤1048576):Small (pickI I q place s):=by
 unfold pickI
 split
 ·have h1:=often_le I q place hq hp
  have h2:=backI_le I q place
  exact⟨saved_le I q place hq hp hn hs,by dsimp only;omega,by dsimp only;omega,by dsimp only;omega⟩
 ·exact h
theorem often_wrap (T B q O:Nat) (h1:B≤T) (h2:T≤1048576) (hq:1≤q) (hO:O=(T - B) / q+1):wrap64 (((T:Int) - (B:Int)) / (q:Int)+1)=(O:Int):=by
 have h3:=Nat.div_le_self (T - B) q
 rw[← Int.natCast_sub h1,← Int.natCast_ediv]
 have e3:wrap64 ((((T - B) / q:Nat):Int)+1)=(((T - B) / q:Nat):Int)+1:=IntWalk.wrap64_in _ (by omega)
 rw[e3,hO]
 omega
set_option maxRecDepth 100000 in
set_option maxHeartbeats 8000000 in
theorem best_any (A:Option Addr) (n cap g:Nat) (I:Itr) (w:World) (h:RdL w w.heap.size g A n I) (hc:n≤cap) (hn:n≤1048576) (hsz:szI I≤1048576) :
  Calls Tryz.prog 76 #[.slice A n cap] w (Qui (.tuple #[.int .i64 ((bestI I).at_:Nat),.int .i64 ((bestI I).p:Nat),.int .i64 ((bestI I).n:Nat)]) w):=by
 generalize hR:bestI I=R
 have HR:=hid hR
 have HL:=hid h.len
 have HSZ:=hid (sizeI_any A n cap g I w h hc hn (by omega))
 obtain⟨S,hS⟩:∃ S,szI I=S:=⟨_,rfl⟩
 have HS:=hid hS
 rw[hS] at HSZ
 have hS2:S≤1048576:=by omega
 clear hR hS
 go_enter Tryz.func76,Tryz.ntmps76
 go_wp2_with fail
 refine HSZ.out.mono ?_
 rintro e w1 ⟨rfl,rfl⟩
 go_wp2_with fail
 go_loopw [2,3,4,5,7,8,9,10,11,12] (fun s2 s3 s4 s5 s7 _ _ _ _ _ wr=>∃(s:Bst) (q f d:Nat),s2=.int .i64 s.at_∧s3=.int .i64 s.p∧s4=.int .i64 s.n∧s5=.int .i64 s.most∧s7=.int .i64 q∧1≤q∧q≤n+1∧n < q+f∧Small s∧outerI I f q s=R∧wr=w1.drewN d) (fun _ _ _ _ s7 _ _ _ _ _ _=>n+1 - (intOf s7).toNat)
 case atStart=>exact⟨⟨0,0,0,0⟩,1,n,0,rfl,rfl,rfl,rfl,rfl,by omega,by omega,by omega,⟨⟨by dsimp only;omega,by dsimp only;omega⟩,by simp,by simp,by simp⟩,by rw[← HR.out,bestI,HL.out],rfl⟩
 case round =>
  obtain⟨s,q,f,d,rfl,rfl,rfl,rfl,rfl,hq1,hq2,hf,hsm,ho,rfl⟩:=hrel
  have HO:=hid ho
  have HSM:=hid hsm
  clear ho hsm
  have hend:¬ (2*q≤n∧s.most < (S:Int) - q)→s=R:=fun hc=>by
   have e:=outer_end (f:=f) (s:=s) (q:=q) (I:=I) (by rw[HL.out,HS.out];exact hc)
   rw[← e]
   exact HO.out
  have HE:=hid hend
  clear hend
  by_cases hc1:2*q≤n
  ·by_cases hc2:s.most < (S:Int) - (q:Int)
   ·have hq0:q+q≤n:=by omega
    obtain⟨f,rfl⟩:∃ f',f=f'+1:=⟨f - 1,by omega⟩
    have ho:=HO.out
    rw[outer_go (by rw[HL.out,HS.out];exact⟨hc1,hc2⟩),HL.out] at ho
    obtain⟨R2,hR2⟩:∃ R2,innerI I q n (q - 1) s=R2:=⟨_,rfl⟩
    rw[hR2] at ho
    have HO2:=hid ho
    have HR2:=hid hR2
    clear ho hR2 HO HE
    have hq1':(1:Int)≤(q:Int):=by omega
    have hqi:(2:Int)*(q:Int)≤(n:Int):=by omega
    have hbd:=HSM.out.most
    go_wp2_with fail
    go_loopw [2,3,4,5,8,9,10,11,12] (fun s2 s3 s4 s5 s8 _ _ _ _ wr=>∃(s:Bst) (pl f d:Nat),s2=.int .i64 s.at_∧s3=.int .i64 s.p∧s4=.int .i64 s.n∧s5=.int .i64 s.most∧s8=.int .i64 pl∧pl≤2*n∧n≤pl+f∧Small s∧innerI I q f pl s=R2∧wr=w1.drewN d) (fun _ _ _ _ s8 _ _ _ _ _=>2*n+1 - (intOf s8).toNat)
    case atStart=>exact⟨s,q - 1,n,d,rfl,rfl,rfl,rfl,by congr 1;omega,by omega,by omega,HSM.out,HR2.out,rfl⟩
    case round =>
     obtain⟨s,pl,f2,d,rfl,rfl,rfl,rfl,rfl,hpl,hf2,hsm,hi,rfl⟩:=hrel
     have HI:=hid hi
     have HSM:=hid hsm
     clear hi hsm
     by_cases hlt:pl+q < n
     ·obtain⟨f2,rfl⟩:∃ f',f2=f'+1:=⟨f2 - 1,by omega⟩
      have hi:=HI.out
      rw[inner_go (by rw[HL.out];exact hlt)] at hi
      have hrd:RdL (w1.drewN d) (w1.drewN d).heap.size g A n I:=h.drewN d
      have HST:=hid (stretch_any A n cap g q pl I (w1.drewN d) hrd hc hn hsz hlt)
      have hb1:=backI_le I q pl
      have hb2:=fwdI_ge I q I.length pl
      have hb3:=fwdI_le I q I.length pl (by rw[HL.out];omega)
      have hV:=saved_le I q pl hq1 (by rw[HL.out];exact hlt) (by rw[HL.out];exact hn) hsz
      have hON:=often_le I q pl hq1 (by rw[HL.out];exact hlt)
      rw[HL.out] at hON
      have HPS:=hid (pick_small (place:=pl) HSM.out hq1 (by rw[HL.out];exact hlt) (by rw[HL.out];exact hn) hsz)
      have HPY:=hid (@pick_yes I q pl s)
      have HPN:=hid (@pick_no I q pl s)
      obtain⟨ad,rfl⟩:∃ ad,A=some ad:=by
       obtain⟨ad,_,_,_,e,_⟩:=h.at_ (show 0 < n by omega)
       exact⟨ad,e⟩
      have HSV:=hid fun d'=>saves_any (some (ad.add (backI I q pl))) q (cap - backI I q pl) g (oftenI I q pl) ((I.drop (backI I q pl)).take q) (w1.drewN d') (((h.back (backI I q pl)).front q (by omega)).drewN d') (by omega) (by omega) (Nat.le_trans (szI_take _ _) (Nat.le_trans (szI_drop _ _) hsz)) (by omega)
      have hov:oftenI I q pl=(fwdI I q I.length pl - backI I q pl) / q+1:=rfl
      have HI2:=hid hi
      clear hi HI hrd
      change Hid (∀ d',Calls Tryz.prog 110 _ (w1.drewN d') (Stil (.int .i64 (savedI I q pl)) (w1.drewN d'))) at HSV
      generalize pickI I q pl s=P at HI2 HPS HPY HPN
      generalize savedI I q pl=V at HSV hV HPY HPN
      generalize oftenI I q pl=O at HSV hON HPY hov
      generalize fwdI I q I.length pl=T at HI2 HST hb2 hb3 hov
      rw[HL.out] at hb3
      generalize backI I q pl=Bk at HST hb1 HSV HPY HPN hov
      have hlt':(pl:Int)+(q:Int) < (n:Int):=by omega
      go_wp2_with fail
      refine HST.out.mono ?_
      rintro e w2 ⟨rfl,d2,rfl⟩
      go_wp2_with fail
      rw[often_wrap T Bk q O (by omega) (by omega) hq1 hov]
      refine(HSV.out _).mono ?_
      rintro e w3 ⟨rfl,rfl⟩
      have hsb:=HSM.out.most
      have hsa:=HSM.out.at_
      clear HST HSV hov
      by_cases h1:s.most < V
      ·have HP:=hid (HPY.out (.inl h1))
       clear HPY HPN
       go_wp2_with fail
       go_roundw
       case rel=>exact⟨P,T+q,f2,d+d2,by rw[HP.out] <;> rfl,by rw[HP.out] <;> rfl,by rw[HP.out] <;> rfl,by rw[HP.out] <;> rfl,by go_num,by omega,by omega,HPS.out,HI2.out,rfl⟩
       case measure=>simp[intOf];omega
      ·by_cases h2:V=s.most
       ·by_cases h3:Bk < s.at_
        ·have HP:=hid (HPY.out (.inr ⟨h2,h3⟩))
         clear HPY HPN
         have h2':(V == s.most)=true:=beq_iff_eq.2 h2
         go_wp2_with fail
         go_roundw
         case rel=>exact⟨P,T+q,f2,d+d2,by rw[HP.out] <;> rfl,by rw[HP.out] <;> rfl,by rw[HP.out] <;> rfl,by rw[HP.out];exact congrArg _ h2.symm,by go_num,by omega,by omega,HPS.out,HI2.out,rfl⟩
         case measure=>simp[intOf];omega
        ·have HP:=hid (HPN.out (fun hh=>by omega))
         clear HPY HPN
         have h2':(V == s.most)=true:=beq_iff_eq.2 h2
         go_wp2_with fail
         go_roundw
         case rel=>exact⟨P,T+q,f2,d+d2,by rw[HP.out] <;> rfl,by rw[HP.out] <;> rfl,by rw[HP.out] <;> rfl,by rw[HP.out] <;> rfl,by go_num,by omega,by omega,HPS.out,HI2.out,rfl⟩
         case measure=>simp[intOf];omega
       ·have HP:=hid (HPN.out (fun hh=>by omega))
        clear HPY HPN
        have h2':(V == s.most)=false:=beq_eq_false_iff_ne.2 h2
        go_wp2_with fail
        go_roundw
        case rel=>exact⟨P,T+q,f2,d+d2,by rw[HP.out] <;> rfl,by rw[HP.out] <;> rfl,by rw[HP.out] <;> rfl,by rw[HP.out] <;> rfl,by go_num,by omega,by omega,HPS.out,HI2.out,rfl⟩
        case measure=>simp[intOf];omega
     ·have e:=inner_end (I:=I) (f:=f2) (s:=s) (by rw[HL.out];exact hlt)
      have HE2:=hid (e.symm.trans HI.out)
      have hlt':¬ (pl:Int)+(q:Int) < (n:Int):=by omega
      clear e HI
      go_wp2_with fail
      go_roundw
      case rel=>exact⟨R2,q+1,f,d,by rw[HE2.out] <;> rfl,by rw[HE2.out] <;> rfl,by rw[HE2.out] <;> rfl,by rw[HE2.out] <;> rfl,by go_num,by omega,by omega,by omega,by rw[← HE2.out];exact HSM.out,HO2.out,rfl⟩
      case measure=>simp[intOf];omega
   ·have e:=HE.out (fun hh=>hc2 hh.2)
    have HQ:=hid e
    have hqi:(2:Int)*(q:Int)≤(n:Int):=by omega
    clear e HE HO
    go_wp2_with fail
    go_ret3
    exact⟨by rw[HQ.out];rfl,d,rfl⟩
  ·have e:=HE.out (fun hh=>hc1 hh.1)
   have HQ:=hid e
   have hqi:¬ (2:Int)*(q:Int)≤(n:Int):=by omega
   clear e HE HO
   go_wp2_with fail
   go_ret3
   exact⟨by rw[HQ.out];rfl,d,rfl⟩
theorem tkOf_all (p:Int) (L:List Rn) (i:Nat):tkOf p (L.take i)≤ticks L:=by
 have h1:=tkOf_le p (L.take i)
 have h2:=take_ticks L i
 omega
set_option maxRecDepth 100000 in
set_option maxHeartbeats 1600000 in
theorem ticks_any (A:Option Addr) (n cap:Nat) (L:List Rn) (p:Int) (w:World) (h:RdR w w.heap.size A n L) (hc:n≤cap) (hn:n≤1048576) (ht:ticks L≤1099511627776) :
  Calls Tryz.prog 127 #[.slice A n cap,.int .i64 p] w (Ans (.int .i64 (tkOf p L:Nat)) w):=by
 go_enter Tryz.func127,Tryz.ntmps127
 go_wp2_with fail
 go_loopw [5,10] (fun q s wr=>∃(i m:Nat),i≤n∧s=.int .i64 i∧q=.int .i64 m∧m=tkOf p (L.take i)∧Below w.heap.size w wr) (fun _ s _=>n - (intOf s).toNat)
 case atStart=>exact⟨0,0,by omega,rfl,rfl,by simp[tkOf],Below.refl _ _⟩
 case round =>
  obtain⟨i,m,hi,rfl,rfl,hm,hb⟩:=hrel
  have hmt:=tkOf_all p L i
  rw[← hm] at hmt
  by_cases hlt:i < n
  ·obtain⟨ad,r,rfl,had,hr,c0,c1⟩:=(h.on hb).at_ hlt
   have hmore:=tkOf_more (p:=p) hr
   have hall:=tkOf_all p L (i+1)
   rw[hmore,← hm] at hall
   rw[← hm] at hmore
   have hbl:=bl1 wr (.cells #[.int .i64 r.p,.int .i64 (r.n:Int)] 75)
   have HB:=hid (hb.trans (hbl.mono hb.size))
   by_cases hp:r.p=p
   ·rw[if_pos hp] at hall hmore
    have hpb:(r.p == p)=true:=beq_iff_eq.2 hp
    have HM:=hid hmore
    clear hp hmore hm hbl hr
    go_wp2_with fail
    refine(more_any (m:Int) (r.n:Int) _ _ _ (by omega) (by omega) (by omega) rfl rfl).mono ?_
    rintro e w1 ⟨rfl,rfl⟩
    go_wp2_with fail
    go_roundw
    case rel=>exact⟨i+1,m+r.n,by omega,by go_num,by go_num,HM.out.symm,HB.out⟩
    case measure=>simp[intOf];omega
   ·rw[if_neg hp] at hall hmore
    have hpb:(r.p == p)=false:=beq_eq_false_iff_ne.2 hp
    have HM:=hid hmore
    clear hp hmore hm hbl hr
    go_wp2_with fail
    go_roundw
    case rel=>exact⟨i+1,m,by omega,by go_num,rfl,HM.out.symm,HB.out⟩
    case measure=>simp[intOf];omega
  ·have hge:n≤i:=by omega
   have e:m=tkOf p L:=by rw[hm,List.take_of_length_le (by rw[h.len];exact hge)]
   have HE:=hid e
   clear e hm
   go_wp2_with fail
   go_ret
   exact Ans.mk (by rw[HE.out];rfl) hb
set_option maxRecDepth 100000 in
set_option maxHeartbeats 1600000 in
theorem length_any (A:Option Addr) (n cap:Nat) (L:List Rn) (w:World) (h:RdR w w.heap.size A n L) (hc:n≤cap) (hn:n≤1048576) (ht:ticks L≤1099511627776) :
  Calls Tryz.prog 90 #[.slice A n cap] w (Ans (.int .i64 (ticks L:Nat)) w):=by
 go_enter Tryz.func90,Tryz.ntmps90
 go_wp2_with fail
 go_loopw [3,8] (fun q s wr=>∃(i m:Nat),i≤n∧s=.int .i64 i∧q=.int .i64 m∧m=ticks (L.take i)∧Below w.heap.size w wr) (fun _ s _=>n - (intOf s).toNat)
 case atStart=>exact⟨0,0,by omega,rfl,rfl,by simp[ticks],Below.refl _ _⟩
 case round =>
  obtain⟨i,m,hi,rfl,rfl,hm,hb⟩:=hrel
  have hmt:=take_ticks L i
  rw[← hm] at hmt
  by_cases hlt:i < n
  ·obtain⟨ad,r,rfl,had,hr,c0,c1⟩:=(h.on hb).at_ hlt
   have hmore:=take_more hr
   have hall:=take_ticks L (i+1)
   rw[hmore,← hm] at hall
   rw[← hm] at hmore
   have hbl:=bl1 wr (.cells #[.int .i64 r.p,.int .i64 (r.n:Int)] 75)
   have HB:=hid (hb.trans (hbl.mono hb.size))
   have HM:=hid hmore
   clear hmore hm hbl hr
   go_wp2_with fail
   refine(more_any (m:Int) (r.n:Int) _ _ _ (by omega) (by omega) (by omega) rfl rfl).mono ?_
   rintro e w1 ⟨rfl,rfl⟩
   go_wp2_with fail
   go_roundw
   case rel=>exact⟨i+1,m+r.n,by omega,by go_num,by go_num,HM.out.symm,HB.out⟩
   case measure=>simp[intOf];omega
  ·have hge:n≤i:=by omega
   have e:m=ticks L:=by rw[hm,List.take_of_length_le (by rw[h.len];exact hge)]
   have HE:=hid e
   clear e hm
   go_wp2_with fail
   go_ret
   exact Ans.mk (by rw[HE.out];rfl) hb
set_option maxHeartbeats 800000 in
theorem run_right (p n:Int) (w:World) (h1:1≤n) (h2:n≤4096) (h3:-1≤p) (h4:p < 6):Calls Tryz.prog 89 #[rv p n] w (Ans (.bool true) w):=by
 go_enter Tryz.func89,Tryz.ntmps89
 go_wp2_with fail
 go_ret
 exact Ans.mk rfl (bl1 _ _)
set_option maxRecDepth 100000 in
set_option maxHeartbeats 1600000 in
theorem frame_right (A:Option Addr) (n cap:Nat) (L:List Rn) (w:World) (h:RdR w w.heap.size A n L) (hc:n≤cap) (h0:0 < n) (hn:n≤96) (ht:ticks L≤4096) (hL:∀ r∈L,1≤r.n∧-1≤r.p∧r.p≤5) :
  Calls Tryz.prog 56 #[.slice A n cap] w (Ans (.bool true) w):=by
 have hne:((n:Int) == 0)=false:=beq_eq_false_iff_ne.2 (by omega)
 have hgt:(n:Int)≤96:=by omega
 have HLL:=hid hL
 clear hL
 go_enter Tryz.func56,Tryz.ntmps56
 go_wp2_with fail
 go_loopw [15] (fun s wr=>∃ i:Nat,i≤n∧s=.int .i64 i∧Below w.heap.size w wr) (fun s _=>n - (intOf s).toNat)
 case atStart=>exact⟨0,by omega,rfl,Below.refl _ _⟩
 case round =>
  obtain⟨i,hi,rfl,hb⟩:=hrel
  by_cases hlt:i < n
  ·obtain⟨ad,r,rfl,had,hr,c0,c1⟩:=(h.on hb).at_ hlt
   have hmem:=List.mem_of_getElem? hr
   have h1:=HLL.out r hmem
   have h2:=mem_ticks hmem
   have hbl:=bl1 wr (.cells #[.int .i64 r.p,.int .i64 (r.n:Int)] 75)
   have HB:=hid (hb.trans (hbl.mono hb.size))
   have hs:=HB.out.size
   clear hr hmem hbl
   go_wp2_with fail
   refine(run_right r.p (r.n:Int) _ (by omega) (by omega) (by omega) (by omega)).mono ?_
   rintro e w1 ⟨rfl,hb1⟩
   go_wp2_with fail
   go_roundw
   case rel=>exact⟨i+1,by omega,by go_num,HB.out.trans (hb1.mono hs)⟩
   case measure=>simp[intOf];omega
  ·have hge:n≤i:=by omega
   go_wp2_with fail
   refine(length_any A n cap L wr (h.on hb) hc (by omega) (by omega)).mono ?_
   rintro e w1 ⟨rfl,hb1⟩
   have ht':((ticks L:Nat):Int)≤4096:=by omega
   generalize ticks L=T at ht' ⊢
   go_wp2_with fail
   go_ret
   exact Ans.mk rfl (hb.trans (hb1.mono hb.size))
structure Frm (L:List Rn) (n:Nat):Prop where
 pos:0 < n
 le:n≤96
 tk:ticks L≤4096
 all:∀ r∈L,1≤r.n∧-1≤r.p∧r.p≤5
theorem Frm.small {L:List Rn} {n:Nat} (h:Frm L n):∀ r∈L,In64 r.p∧r.n≤1048576:=fun r hr=>by
 have h1:=h.all r hr
 have h2:=mem_ticks hr
 have h3:=h.tk
 unfold In64
 omega
theorem Tab.Items.small {L:List Rn} {f:F} (h:Items L f):szI (parts f)≤L.length∧1≤(parts f).length∧(parts f).length≤L.length:=by
 rw[parts_sz,parts_len]
 refine⟨?_,h.cnt⟩
 rcases h.sz with e | h
 ·rw[e,itemsF_sz];exact Nat.le_refl _
 ·omega
theorem OwnL.qui {w:World} {B g n c:Nat} {I:Itr} (h:OwnL w B g n c I) (q:Nat):OwnL (w.drewN q) B g n c I:=h.keep (Below.drewN (Below.refl _ _) q)
theorem best_zero {I:Itr} (h:I.length≤1):(bestI I).n=0:=by
 rcases bestI_cases I with ⟨h0,_⟩ | hg
 ·exact h0
 ·have h1:=hg.le
  have h2:=Nat.mul_le_mul hg.p hg.n
  omega
theorem stepI_len {I:Itr} {s:Bst} (h:Tab.Good I s):(stepI I s).length=s.at_+1+(I.length - (s.at_+s.p*s.n)):=by
 have h1:=h.le
 unfold stepI
 simp
 omega
theorem joinI_le (I:Itr):(joinI I).length≤szI I+1:=by
 by_cases h:I.length=1
 ·cases I with
  | nil=>simp at h
  | cons x J =>
   have:J=[]:=List.eq_nil_of_length_eq_zero (by simp only[List.length_cons] at h;omega)
   subst this
   simp[joinI_one,szI]
 ·rw[joinI_more h,List.length_cons,flatI_len]
  exact Nat.le_refl _
set_option maxRecDepth 100000 in
set_option maxHeartbeats 8000000 in
theorem table_any6 (A:Option Addr) (n cap:Nat) (L:List Rn) (w:World) (h:RdR w w.heap.size A n L) (hc:n≤cap) (hL:Frm L n) :
  Calls Tryz.prog 43 #[.slice A n cap] w (RdNs (tabI n (itemsI L)) w):=by
 have hn:=hL.le
 have hp:=hL.pos
 have hlen:=h.len
 have e1:=itemsI_len L
 have HR:=hid (frame_right A n cap L w h hc hp hn hL.tk hL.all)
 have HV:=hid fun(w':World) (h':RdR w' w'.heap.size A n L)=>leaves_any A n cap L w' h' hc (by omega) hL.small
 have HI0:=hid (Items.start hL.all (by omega))
 generalize hT:tabI n (itemsI L)=T
 have HT:=hid hT
 unfold MadeL at HV
 rw[e1,hlen] at HV
 clear hL e1 hT
 go_enter Tryz.func43,Tryz.ntmps43
 go_wp2_with fail
 refine HR.out.mono ?_
 rintro e w1 ⟨rfl,hb1⟩
 go_wp2_with fail
 refine(HV.out w1 (h.on hb1)).mono ?_
 rintro e w2 ⟨g,c,rfl,ho,hb2,hcn⟩
 have hc96:c≤96:=by omega
 clear hcn
 have hb3:=hb1.trans (hb2.mono hb1.size)
 have hlo:w.heap.size≤g:=Nat.le_trans hb1.size ho.low
 clear HV HR h
 go_wp2_with fail
 go_loopw [3,4,5,6] (fun q _ _ _ wr=>∃(m f:Nat) (fo:F),q=.slice (some ⟨g,0,none⟩) m c∧Items L fo∧OwnL wr w.heap.size g m c (parts fo)∧tabI f (parts fo)=T∧m≤f+1∧Below w.heap.size w wr) (fun q _ _ _ _=>lenOf q)
 case atStart=>exact⟨n,n,itemsF L,rfl,HI0.out,by rw[itemsI_parts];exact⟨ho.len,by obtain⟨V,h1,h2⟩:=ho.ex;exact⟨V,h1.weak hb1.size,h2⟩,hlo,ho.lt,ho.cap⟩,by rw[itemsI_parts];exact HT.out,by omega,hb3⟩
 case round =>
  obtain⟨m,f,fo,rfl,hit,how,hta,hmf,hb⟩:=hrel
  have hsm:=hit.small
  have hml:=how.len
  have hcap:=how.cap
  have hgl:=how.lt
  have HIT:=hid hit
  have HTA:=hid hta
  have HB:=hid (best_any (some ⟨g,0,none⟩) m c g (parts fo) wr how.rdl hcap (by omega) (by omega))
  obtain⟨s,hs⟩:∃ s,s=bestI (parts fo):=⟨_,rfl⟩
  rw[← hs] at HB
  have HSB:=hid hs
  clear hit hta hs
  go_wp2_with fail
  refine HB.out.mono ?_
  rintro e w4 ⟨rfl,q,rfl⟩
  by_cases h0:s.n=0
  ·have hta:=HTA.out
   have htj:joinI (parts fo)=T:=by
    cases f with
    | zero=>exact hta
    | succ f =>
     simp only[tabI] at hta
     rw[if_pos (by rw[← HSB.out];exact h0)] at hta
     exact hta
   have HJ:=hid (joined_any (some ⟨g,0,none⟩) m c g (parts fo) (wr.drewN q) (how.qui q).rdl hcap (by omega) (by omega) (by omega))
   rw[htj] at HJ
   have hb4:=Below.drewN hb q
   clear hta htj HTA
   rw[h0]
   go_wp2_with fail
   refine HJ.out.mono ?_
   rintro e w5 ⟨A5,m5,c5,rfl,hr5,hc5,hb5⟩
   go_wp2_with fail
   go_ret
   exact⟨A5,m5,c5,rfl,hr5,hc5,hb4.trans (hb5.mono hb4.size)⟩
  ·have hbi:=bestI_cases (parts fo)
   rw[← HSB.out] at hbi
   have hg:Tab.Good (parts fo) s:=hbi.resolve_left fun hh=>h0 hh.1
   have hfu:f≠0:=fun hf=>h0 (by rw[HSB.out];exact best_zero (by omega))
   obtain⟨f,rfl⟩:∃ f',f=f'+1:=⟨f - 1,by omega⟩
   have hta:=HTA.out
   simp only[tabI] at hta
   rw[← HSB.out,if_neg h0] at hta
   obtain⟨f',hfo,hst⟩:=hg.step HIT.out.ok
   have hit':=HIT.out.step (by omega) hfo
   have hsl:=stepI_len hg
   have hg1:=hg.le
   have hg2:=hg.n
   have hg3:=hg.p
   have hmul:=Nat.mul_le_mul hg3 hg2
   have hple:=Nat.le_mul_of_pos_right s.p (show 0 < s.n by omega)
   have hnle:=Nat.le_mul_of_pos_left s.n (show 0 < s.p by omega)
   have hp2:s.p*2≤s.p*s.n:=Nat.mul_le_mul_left _ hg2
   have hx:stepI (parts fo) s=(parts fo).take s.at_++(⟨4,0,(s.n:Int)⟩::joinI (((parts fo).drop s.at_).take s.p))::(parts fo).drop (s.at_+s.p*s.n):=rfl
   rw[hst] at hta hx hsl
   have hq:=how.qui q
   have hr0:=(hq.rdl.back s.at_).front s.p (by omega)
   rw[add_one'] at hr0
   have hsz0:szI (((parts fo).drop s.at_).take s.p)≤96:=Nat.le_trans (szI_take _ _) (Nat.le_trans (szI_drop _ _) (by omega))
   have HJ:=hid (joined_any (some ⟨g,s.at_,none⟩) s.p (c - s.at_) g _ (wr.drewN q) hr0 (by omega) hg3 (by omega) (by omega))
   have hjl:=joinI_le (((parts fo).drop s.at_).take s.p)
   generalize joinI (((parts fo).drop s.at_).take s.p)=J at HJ hx hjl
   have HX:=hid hx
   have HTA2:=hid hta
   have HIT2:=hid hit'
   have HSL:=hid hsl
   have hb4:=Below.drewN hb q
   obtain⟨P,hP⟩:∃ P,P=s.p*s.n:=⟨_,rfl⟩
   rw[← hP] at hg1 hmul hple hnle hp2
   have hmw:IntKind.i64.wrap ((s.p:Int)*(s.n:Int))=(P:Int):=by
    rw[← Int.natCast_mul,← hP]
    exact IntWalk.i64_in _ (by omega)
   have hne:((s.n:Int) == 0)=false:=beq_eq_false_iff_ne.2 (by omega)
   have hca:¬ c=s.at_:=by omega
   have HP:=hid hP
   have HMF:=hid hmf
   have HH:=hid how
   have HQ:=hid hq
   have HB4:=hid hb4
   have hap:s.at_+s.p≤m:=by omega
   have hP2:2≤P:=by omega
   have haP:s.at_+P≤m:=by omega
   have hm96:m≤96:=by omega
   have hk96:s.n≤96:=by omega
   have hjl2:J.length≤97:=by omega
   clear hta hx hit' hsl hfo hst hbi hg hr0 hP hsm HTA HIT HSB HB how hb h0 hmf hmul hple hnle hp2 hq hb4 hsz0 hfu hjl hg1 hml
   obtain⟨mo,a,p,k⟩:=s
   dsimp only at *
   go_wp2_with fail
   refine HJ.out.mono ?_
   rintro e w5 ⟨A5,m5,c5,rfl,hr5,hc5,hb5⟩
   have hm5:m5≤97:=by have:=hr5.len;omega
   have HTI:=hid (times1_any k A5 m5 c5 J w5 (by omega) hr5 hc5 (by omega))
   have HQ5:=hid (HQ.out.keep hb5)
   have HB6:=hid (HB4.out.trans (hb5.mono HB4.out.size))
   clear hr5 hc5 HQ HJ HB4 hb5
   go_wp2_with fail
   refine HTI.out.mono ?_
   rintro e w6 ⟨A6,m6,c6,rfl,ho6,hb7⟩
   have HQ6:=hid ((HQ5.out.keep hb7).keep (bl1 w6 (.cells #[.slice A6 m6 c6] 37)))
   have HB7:=hid ((HB6.out.trans (hb7.mono HB6.out.size)).trans ((bl1 w6 (.cells #[.slice A6 m6 c6] 37)).mono (Nat.le_trans HB6.out.size hb7.size)))
   have hg6:g < w5.heap.size:=HQ5.out.lt
   have hw56:=hb7.size
   have hm6:=ho6.len
   have hit6:ItemAt (w6.alloc (.cells #[.slice A6 m6 c6] 37)) (w6.alloc (.cells #[.slice A6 m6 c6] 37)).heap.size g (⟨4,0,(k:Int)⟩::J) (.slice A6 m6 c6):=by
    refine⟨A6,c6,by rw[hm6],by rw[hm6];exact ho6.cap,by rw[hm6];exact ho6.rdn.on (bl1 _ _),fun ad had=>?_⟩
    obtain⟨g6,e6,hge,_⟩:=OwnV.block ho6.own (by rw[← hm6];simp)
    rw[e6] at had
    injection had with had
    subst had
    show g6≠g
    omega
   have HRP:=hid (replace_any w.heap.size g m c a (a+P) (parts fo) (⟨4,0,(k:Int)⟩::J) ⟨w6.heap.size,0,none⟩ (.slice A6 m6 c6) _ HQ6.out (World.cell?_alloc_mark _ _ _ _ _) hit6 (by show w6.heap.size≠g;omega) (by omega) haP (by omega))
   have hsum:(a:Int)+(P:Int)=((a+P:Nat):Int):=by omega
   rw[← hsum] at HRP
   clear hsum ho6 hit6 HQ5 HQ6 HTI hb7 hg6 hw56 hm6
   go_wp2_with fail
   refine HRP.out.mono ?_
   rintro e w7 ⟨rfl,ho7,hg7⟩
   have HO7:=hid ho7
   have hb8:=below_gb HB7.out hg7 hlo HB7.out.size
   clear ho7 hg7 HRP HB7 HB6
   go_wp2_with fail
   go_roundw
   case rel=>exact⟨a+1+(m - (a+P)),f,f',rfl,HIT2.out,by rw[HX.out,← HP.out];exact HO7.out,HTA2.out,by have:=HMF.out;omega,hb8⟩
   case measure=>simp[lenOf];omega
def depP (P:List PtV) (C:List ChV):Int→Int→Bool:=depW P.length (depF (P.map ptOf) (C.map chOf))
theorem depP_sym (P:List PtV) (C:List ChV) (a b:Int):depP P C a b=depP P C b a:=depW_sym _ _ a b
def okF (P:List PtV) (C:List ChV) (L:List Rn):Bool:=decide (holdsF (wordsL L) P C=0)
theorem okF_tidy (P:List PtV) (C:List ChV) (L:List Rn):okF P C (tidy L)=okF P C L:=by unfold okF;rw[wordsL_tidy]
def drawL (P:List PtV) (C:List ChV) (L:List Rn):List Mo→Option (List Rn)
 | []=>none
 | x::l=>if okF P C (doZ L x.i x.j x.r)=true then some (doZ L x.i x.j x.r) else drawL P C L l
def drawF (P:List PtV) (C:List ChV) (L:List Rn):Option (List Rn):=drawL P C L (allF (depP P C) (L.map Rn.p))
theorem drawL_some {P:List PtV} {C:List ChV} {L x:List Rn}:∀ {l:List Mo},drawL P C L l=some x→∃ m∈l,x=doZ L m.i m.j m.r∧okF P C x=true:=by
 intro l
 induction l with
 | nil=>intro h;cases h
 | cons m l ih =>
  intro h
  unfold drawL at h
  split at h
  ·rename_i hk
   injection h with h
   subst h
   exact⟨m,List.mem_cons_self,rfl,hk⟩
  ·obtain⟨m',h1,h2⟩:=ih h
   exact⟨m',List.mem_cons_of_mem _ h1,h2⟩
theorem drawL_more {P:List PtV} {C:List ChV} {L:List Rn} {l:List Mo} {i:Nat} {m:Mo} (h:l[i]? = some m) (hp:drawL P C L (l.take i)=none):drawL P C L (l.take (i+1))=if okF P C (doZ L m.i m.j m.r)=true then some (doZ L m.i m.j m.r) else none:=by
 obtain⟨hi,e⟩:=List.getElem?_eq_some_iff.1 h
 rw[List.take_succ_eq_append_getElem hi,e]
 clear hi e h
 revert hp
 generalize l.take i=k
 induction k with
 | nil=>intro _;simp[drawL]
 | cons x k ih =>
  intro hp
  simp only[List.cons_append,drawL] at hp ⊢
  split at hp
  ·cases hp
  ·rename_i hx
   rw[if_neg hx]
   exact ih hp
theorem drawL_first {P:List PtV} {C:List ChV} {L x:List Rn}:∀ {l:List Mo} {i:Nat},drawL P C L (l.take i)=some x→drawL P C L l=some x:=by
 intro l
 induction l with
 | nil=>intro i h;simpa using h
 | cons m l ih =>
  intro i h
  cases i with
  | zero=>simp[drawL] at h
  | succ i =>
   simp only[List.take_succ_cons,drawL] at h ⊢
   split
   ·rename_i hm
    rw[if_pos hm] at h
    exact h
   ·rename_i hm
    rw[if_neg hm] at h
    exact ih h
theorem moves {D:Int→Int→Bool} (hD:∀ a b,D a b=D b a) {Z:List Rn} {x:Mo} (hx:x∈allF D (Z.map Rn.p)) :
  doZ Z x.i x.j x.r=tidy (mv Z x.i x.j x.r)∧(∀ q,tkOf q (doZ Z x.i x.j x.r)=tkOf q Z)∧SameW D Z (doZ Z x.i x.j x.r)∧(doZ Z x.i x.j x.r).length < Z.length∧swi (doZ Z x.i x.j x.r)≤swi Z:=by
 obtain⟨h1,h2,h3⟩:=mem_allF hx
 rw[List.length_map] at h2
 have hb:mayB D Z x.i x.j=true:=by rw[mayB_parts];exact h3
 have ex:Z[x.i]? = some Z[x.i]:=List.getElem?_eq_getElem (by omega)
 have ey:Z[x.j]? = some Z[x.j]:=List.getElem?_eq_getElem h2
 have hd:doZ Z x.i x.j x.r=tidy (mv Z x.i x.j x.r):=by
  unfold doZ
  rw[if_pos ⟨by omega,by omega,by omega⟩]
  rfl
 have hp:=((mayB_iff ex ey).1 hb).2.1
 refine⟨hd,?_⟩
 rw[hd]
 exact⟨fun q=>by rw[tkOf_tidy,mv_tk h1 ex ey hp],mv_same hD hb _,mv_less h1 ex ey _,mv_swi h1 ex ey _⟩
theorem mv_part {L:List Rn} {i j:Nat} {rt:Bool} {r:Rn} (h:r∈mv L i j rt):∃ q∈L,q.p=r.p:=by
 unfold mv at h
 split at h
 ·rename_i x y hx hy
  have mx:=List.mem_of_getElem? hx
  have my:=List.mem_of_getElem? hy
  split at h
  ·rcases List.mem_or_eq_of_mem_set h with h | h
   ·rcases List.mem_or_eq_of_mem_set h with h | h
    ·exact⟨r,h,rfl⟩
    ·exact⟨y,my,by rw[h]⟩
   ·exact⟨x,mx,by rw[h]⟩
  ·rcases List.mem_or_eq_of_mem_set h with h | h
   ·rcases List.mem_or_eq_of_mem_set h with h | h
    ·exact⟨r,h,rfl⟩
    ·exact⟨x,mx,by rw[h]⟩
   ·exact⟨y,my,by rw[h]⟩
 ·exact⟨r,h,rfl⟩
theorem frm_of {M:List Rn} (h1:1≤ticks M) (h2:M.length≤96) (h3:ticks M≤4096) (h4:∀ r∈M,-1≤r.p∧r.p≤5):Frm (tidy M) (tidy M).length:=by
 refine⟨?_,Nat.le_trans (tidy_le M) h2,by rw[ticks_tidy];exact h3,fun r hr=>?_⟩
 ·rcases Nat.eq_zero_or_pos (tidy M).length with h | h
  ·exfalso
   have e:tidy M=[]:=List.eq_nil_of_length_eq_zero h
   have:=ticks_tidy M
   rw[e] at this
   simp[ticks] at this
   omega
  ·exact h
 ·obtain⟨q,hq,e⟩:=tidy_part hr
  have:=h4 q hq
  have:=(tidy_apart M).pos r hr
  omega
theorem frm_ticks {L:List Rn} {n:Nat} (h:Frm L n) (hl:L.length=n):1≤ticks L:=by
 obtain⟨r,hr⟩:∃ r,L[0]? = some r:=⟨_,List.getElem?_eq_getElem (by have:=h.pos;omega)⟩
 have h1:=mem_ticks (List.mem_of_getElem? hr)
 have h2:=h.all r (List.mem_of_getElem? hr)
 omega
theorem frm_tidy {L:List Rn} {n:Nat} (h:Frm L n) (hl:L.length=n):Frm (tidy L) (tidy L).length :=
 frm_of (frm_ticks h hl) (by rw[hl];exact h.le) h.tk fun r hr=>(h.all r hr).2
theorem frm_move {D:Int→Int→Bool} (hD:∀ a b,D a b=D b a) {L:List Rn} {n:Nat} (h:Frm L n) (hl:L.length=n) {x:Mo} (hx:x∈allF D (L.map Rn.p)):Frm (doZ L x.i x.j x.r) (doZ L x.i x.j x.r).length:=by
 have e:=(moves hD hx).1
 have ht:=doZ_ticks L x.i x.j x.r
 rw[e,ticks_tidy] at ht
 rw[e]
 exact frm_of (by rw[ht];exact frm_ticks h hl) (by rw[mv_len,hl];exact h.le) (by rw[ht];exact h.tk) fun r hr=>by
  obtain⟨q,hq,e2⟩:=mv_part hr
  rw[← e2]
  exact(h.all q hq).2
def mergeB (L:List Rn):Bool:=!(sameR (tidy L) L)
def stepF (P:List PtV) (C:List ChV) (L:List Rn):Option (List Rn):=if mergeB L=true∧okF P C L=true then some (tidy L) else drawF P C L
def redF (P:List PtV) (C:List ChV):Nat→List Rn→List Rn×Nat
 | 0,L=>(L,0)
 | f+1,L=>match stepF P C L with
  | none=>(L,0)
  | some x=>((redF P C f x).1,(redF P C f x).2+1)
def validF (P:List PtV) (C:List ChV) (a b:List Rn):Bool:=!(diffF (depP P C) a b).2.2 && okF P C b
theorem validF_same {P:List PtV} {C:List ChV} {a b:List Rn} (h:SameW (depP P C) a b):validF P C a b=okF P C b:=by
 unfold validF
 rw[(diffF_same _ _ _).2 h]
 rfl
theorem validF_tidy (P:List PtV) (C:List ChV) (L:List Rn):validF P C L (tidy L)=okF P C L:=by
 rw[validF_same (SameW.tidied _ L),okF_tidy]
theorem validF_draw {P:List PtV} {C:List ChV} {L x:List Rn} (h:drawF P C L=some x):validF P C L x=true:=by
 obtain⟨m,hm,rfl,hk⟩:=drawL_some h
 rw[validF_same (moves (depP_sym P C) hm).2.2.1]
 exact hk
structure Stepd (P:List PtV) (C:List ChV) (L x:List Rn):Prop where
 same:SameW (depP P C) L x
 tk:∀ q,tkOf q x=tkOf q L
 less:x.length < L.length
 swi:swi x≤swi L
 ok:okF P C x=true
 tidy:tidy x=x
 ticks:ticks x=ticks L
 frm:Frm x x.length
theorem tidyOn_len (l:List Rn):∀ out,(tidyOn out l).length=out.length+l.length→tidyOn out l=out++l:=by
 induction l with
 | nil=>intro out _;simp[tidyOn]
 | cons x l ih =>
  intro out h
  have e:tidyOn out (x::l)=tidyOn (tpush out x) l:=rfl
  rw[e] at h ⊢
  have h1:=tidyOn_le l (tpush out x)
  have h2:(tpush out x).length=out.length+1∧tpush out x=out++[x]∨(tpush out x).length≤out.length:=by
   unfold tpush
   split
   ·exact .inr (Nat.le_refl _)
   ·split
    ·rename_i y hy
     split
     ·have hne:out≠[]:=fun e=>by rw[e] at hy;cases hy
      have:=List.length_pos_iff.2 hne
      exact .inr (by simp;omega)
     ·exact .inl ⟨by simp,rfl⟩
    ·rename_i hy
     have e2:out=[]:=List.getLast?_eq_none_iff.1 hy
     subst e2
     exact .inl ⟨by simp,by simp⟩
  rcases h2 with ⟨h3,h4⟩ | h3
  ·rw[ih (tpush out x) (by rw[h,h3];simp only[List.length_cons];omega),h4]
   simp
  ·simp only[List.length_cons] at h
   omega
theorem tidy_less {L:List Rn} (h:tidy L≠L):(tidy L).length < L.length:=by
 rcases Nat.lt_or_ge (tidy L).length L.length with h1 | h1
 ·exact h1
 ·exfalso
  have h2:=tidy_le L
  exact h (by
   have:=tidyOn_len L [] (by show (tidy L).length=0+L.length;omega)
   simpa [tidy] using this)
theorem mergeB_iff {L:List Rn}:mergeB L=true↔tidy L≠L:=by
 unfold mergeB
 rw[Bool.not_eq_true']
 constructor
 ·intro h e
  rw[(sameR_iff _ _).2 e] at h
  cases h
 ·intro h
  rw[Bool.eq_false_iff]
  exact fun e=>h ((sameR_iff _ _).1 e)
theorem stepF_stepd {P:List PtV} {C:List ChV} {L x:List Rn} {n:Nat} (h:Frm L n) (hl:L.length=n) (hs:stepF P C L=some x):Stepd P C L x:=by
 unfold stepF at hs
 split at hs
 ·rename_i hc
  injection hs with hs
  subst hs
  exact⟨SameW.tidied _ L,fun q=>tkOf_tidy q L,tidy_less (mergeB_iff.1 hc.1),swi_tidy L,by rw[okF_tidy];exact hc.2,tidy_tidy L,ticks_tidy L,frm_tidy h hl⟩
 ·obtain⟨m,hm,e,hk⟩:=drawL_some hs
  obtain⟨h1,h2,h3,h4,h5⟩:=moves (depP_sym P C) hm
  have h6:=frm_move (depP_sym P C) h hl hm
  rw[← e] at h2 h3 h4 h5 h6
  exact⟨h3,h2,h4,h5,hk,by rw[e,h1,tidy_tidy],by rw[e,doZ_ticks],h6⟩
structure Redd (P:List PtV) (C:List ChV) (L:List Rn) (r:List Rn×Nat):Prop where
 same:SameW (depP P C) L r.1
 tk:∀ q,tkOf q r.1=tkOf q L
 less:r.1.length≤L.length
 swi:swi r.1≤swi L
 ok:okF P C L=true→okF P C r.1=true
 tidy:tidy L=L→tidy r.1=r.1
 ticks:ticks r.1=ticks L
 frm:Frm r.1 r.1.length
 done:stepF P C r.1=none
 none:r.2=0→r.1=L
theorem redF_redd {P:List PtV} {C:List ChV}:∀(f:Nat) (L:List Rn),Frm L L.length→L.length≤f→Redd P C L (redF P C f L):=by
 intro f
 induction f with
 | zero=>intro L h hl;have:=h.pos;omega
 | succ f ih =>
  intro L h hl
  unfold redF
  cases hs:stepF P C L with
  | none=>exact⟨SameW.refl _ L,fun _=>rfl,Nat.le_refl _,Nat.le_refl _,fun h=>h,fun h=>h,rfl,h,hs,fun _=>rfl⟩
  | some x =>
   have k:=stepF_stepd h rfl hs
   have r:=ih x k.frm (by have:=k.less;omega)
   refine⟨k.same.trans r.same,fun q=>(r.tk q).trans (k.tk q),by have:=r.less;have:=k.less;show _≤_;dsimp only;omega,Nat.le_trans r.swi k.swi,fun _=>r.ok k.ok,fun _=>r.tidy k.tidy,r.ticks.trans k.ticks,r.frm,r.done,fun e=>by simp at e⟩
theorem redF_end {P:List PtV} {C:List ChV} {L:List Rn} (h:stepF P C L=none) (f:Nat):redF P C f L=(L,0):=by
 cases f with
 | zero=>rfl
 | succ f=>unfold redF;rw[h]
theorem drawF_none {P:List PtV} {C:List ChV} {L:List Rn} (ht:tidy L=L) (h:stepF P C L=none):drawF P C L=none:=by
 unfold stepF at h
 rw[if_neg (fun hc=>mergeB_iff.1 hc.1 ht)] at h
 exact h
def Again (a l b:List Rn) (k:Nat) (w:World) (e:Ending) (w':World):Prop :=
 ∃(j:Nat) (A:Option Addr) (m c:Nat),e=.returned (.slice A m c)∧RdR w' w'.heap.size A m (a++reps j l++b)∧m≤c∧j≤k∧(1≤k→1≤j)∧m≤95∧Below w.heap.size w w'
set_option maxRecDepth 100000 in
set_option maxHeartbeats 4000000 in
theorem rruns_any (A:Option Addr) (n cap:Nat) (L:List Rn) (w:World) (h:RdR w w.heap.size A n L) (hc:n≤cap) (hL:Frm L n) :
  Calls Tryz.prog 66 #[.slice A n cap] w (Ans (.bool true) w):=by
 have hn:=hL.le
 have hp:=hL.pos
 have HT:=hid hL.tk
 have HA:=hid hL.all
 have HL:=hid h.len
 clear hL
 go_enter Tryz.func66,Tryz.ntmps66
 go_wp2_with fail
 go_loopw [3,5,8] (fun q _ s wr=>∃ i t:Nat,i≤n∧s=.int .i64 i∧q=.int .i64 t∧t=ticks (L.take i)∧Below w.heap.size w wr) (fun _ _ s _=>n - (intOf s).toNat)
 case atStart=>exact⟨0,0,by omega,rfl,rfl,by simp[ticks],Below.refl _ _⟩
 case round =>
  obtain⟨i,t,hi,rfl,rfl,ht,hb⟩:=hrel
  by_cases hlt:i < n
  ·obtain⟨ad,r,rfl,had,hr,c0,c1⟩:=(h.on hb).at_ hlt
   have h1:=HA.out r (List.mem_of_getElem? hr)
   have hm:=take_more hr
   have hle:=take_ticks L (i+1)
   have ht4:=HT.out
   have ht2:t+r.n=ticks (L.take (i+1)):=by rw[hm,ht]
   have ht3:t+r.n≤4096:=by omega
   have HT2:=hid ht2
   obtain⟨rp,rn⟩:=r
   dsimp only at h1 c0 c1 ht3 HT2
   have hbl:=bl1 wr (.cells #[.int .i64 rp,.int .i64 (rn:Int)] 75)
   have HB:=hid (hb.trans (hbl.mono hb.size))
   have g1:¬ (rn:Int) < 1:=by omega
   have g2:¬ (4096:Int) < (rn:Int):=by omega
   have g3:¬ rp < -1:=by omega
   have g4:¬ (6:Int)≤rp:=by omega
   clear hr hm hle ht ht2 hbl
   go_wp2_with fail
   go_roundw
   case rel=>exact⟨i+1,t+rn,by omega,by go_num,by go_num,HT2.out,HB.out⟩
   case measure=>simp[intOf];omega
  ·have hge:n≤i:=by omega
   have e:L.take i=L:=List.take_of_length_le (by rw[HL.out];exact hge)
   have ht4:=HT.out
   rw[e] at ht
   have ht5:(t:Int)≤4096:=by omega
   have hn1:(1:Int)≤(n:Int):=by omega
   have hn2:(n:Int)≤96:=by omega
   clear e ht ht4
   go_wp2_with fail
   go_ret
   exact Ans.mk rfl hb
def RowTb (R:List Rn) (b:Bool) (w:World) (e:Ending) (w':World):Prop:=∃ A c,e=.returned (.tuple #[.slice A R.length c,.bool b])∧RdR w' w'.heap.size A R.length R∧R.length≤c∧Below w.heap.size w w'
def RowNn (R:List Rn) (k:Nat) (w:World) (e:Ending) (w':World):Prop:=∃ A c,e=.returned (.tuple #[.slice A R.length c,.int .i64 (k:Int)])∧RdR w' w'.heap.size A R.length R∧R.length≤c∧Below w.heap.size w w'
set_option maxRecDepth 100000 in
set_option maxHeartbeats 2000000 in
theorem rmerge_any (A:Option Addr) (n c:Nat) (L:List Rn) (w:World) (h:RdR w w.heap.size A n L) (hc:n≤c) (hn:n≤1048576) (ht:ticks L≤1099511627776) :
  Calls Tryz.prog 36 #[.slice A n c] w (RowTb (tidy L) (mergeB L) w):=by
 have HT:=hid (rtidy_any A n c L w h hc hn ht)
 have hl:=tidy_le L
 have HL:Hid ((tidy L).length≤1048576):=hid (by rw[h.len] at hl;omega)
 have HS:=hid fun A5 c5 W (hr5:RdR W W.heap.size A5 (tidy L).length (tidy L)) (hb:Below w.heap.size w W)=>xsame_any A5 A (tidy L).length n c5 c (tidy L) L W hr5 (h.on hb) HL.out
 have hmb:mergeB L=!(sameR (tidy L) L):=rfl
 generalize mergeB L=b at hmb ⊢
 generalize sameR (tidy L) L=s at hmb HS
 generalize tidy L=X at HT HL HS ⊢
 have HMB:=hid hmb
 clear h hl hmb
 go_enter Tryz.func36,Tryz.ntmps36
 go_wp2_with fail
 refine HT.out.mono ?_
 rintro e w5 ⟨A5,c5,rfl,hr5,hc5,hb5,_⟩
 have HR5:=hid hr5
 have HB5:=hid hb5
 have HQ:=hid (HS.out A5 c5 w5 hr5 hb5)
 clear hr5 hb5 HT HS
 go_wp2_with fail
 refine HQ.out.mono ?_
 rintro e w6 ⟨rfl,q,rfl⟩
 go_wp2_with fail
 go_ret2
 have hbq:Below w5.heap.size w5 (w5.drewN q):=Below.drewN (Below.refl _ _) q
 exact⟨A5,c5,by rw[HMB.out];cases s <;> rfl,HR5.out.on hbq,hc5,HB5.out.trans (hbq.mono HB5.out.size)⟩
def drwR (P:List PtV) (C:List ChV) (L:List Rn):List Rn:=(drawF P C L).getD L
def drwB (P:List PtV) (C:List ChV) (L:List Rn):Bool:=(drawF P C L).isSome
set_option maxRecDepth 100000 in
set_option maxHeartbeats 4000000 in
theorem rdraw_any (A1 A2 A3 A:Option Addr) (n1 n2 n3 n c1 c2 c3 c:Nat) (P:List PtV) (C:List ChV) (L:List Rn) (w:World) (hCf:CfW w w.heap.size A1 A2 n1 n2 P C) (hL:RdR w w.heap.size A n L)
  (q1:n1≤1024) (q2:n2≤1048576) (hc:n≤c) (hn:n≤1024) (ht:ticks L≤8192) (hz:∀ x∈P,In64 x.per) (hps:∀ r∈L,-1≤r.p∧r.p≤1024) :
  Calls Tryz.prog 37 #[.agg #[.slice A1 n1 c1,.slice A2 n2 c2,.slice A3 n3 c3],.slice A n c] w (RowTb (drwR P C L) (drwB P C L) w):=by
 have hb0:=bl1 w (.cells #[.slice A1 n1 c1,.slice A2 n2 c2,.slice A3 n3 c3] 31)
 have hbox:=box_vec w (.slice A1 n1 c1) (.slice A2 n2 c2) (.slice A3 n3 c3) 31
 have HCF:=hid (hCf.on hb0)
 have HR:=hid (hL.on hb0)
 have HB0:=hid hb0
 have HLN:=hid hL.len
 have hPl:P.length=n1:=hCf.p.len
 have HZ:=hid hz
 have hm:∀ q∈L.map Rn.p,-1≤q∧q≤1024:=fun q hq=>by
  obtain⟨r,hr,rfl⟩:=List.mem_map.1 hq
  exact hps r hr
 have HPI:=hid hm
 have HYES:Hid (∀ x i,drawL P C L ((allF (depW n1 (depF (P.map ptOf) (C.map chOf))) (L.map Rn.p)).take i)=some x→drwR P C L=x∧drwB P C L=true):=hid fun x i h=>by
  have h1:drawF P C L=some x:=by
   unfold drawF depP
   rw[hPl]
   exact drawL_first h
  unfold drwR drwB
  rw[h1]
  exact⟨rfl,rfl⟩
 have HNO:Hid (drawL P C L (allF (depW n1 (depF (P.map ptOf) (C.map chOf))) (L.map Rn.p))=none→drwR P C L=L∧drwB P C L=false):=hid fun h=>by
  have h1:drawF P C L=none:=by
   unfold drawF depP
   rw[hPl]
   exact h
  unfold drwR drwB
  rw[h1]
  exact⟨rfl,rfl⟩
 generalize drwR P C L=RR at HYES HNO ⊢
 generalize drwB P C L=RB at HYES HNO ⊢
 clear hCf hL hb0 hz hps hm hPl
 go_enter Tryz.func37,Tryz.ntmps37
 go_upto_region 1 with fail
 generalize w.alloc (.cells #[.slice A1 n1 c1,.slice A2 n2 c2,.slice A3 n3 c3] 31)=W at hbox HCF HR HB0 ⊢
 obtain⟨gc,hgc⟩:∃ gc,gc=w.heap.size:=⟨_,rfl⟩
 rw[← hgc] at hbox ⊢
 clear hgc
 have HBX:=hid hbox
 obtain⟨m0,m1,m2⟩:=hbox.three
 clear hbox
 go_wp2_with fail
 refine(rdepends_any A1 A2 A3 n1 n2 n3 c1 c2 c3 P C W HCF.out q1 q2).mono ?_
 intro e w5 hdm
 obtain⟨A7,c7,rfl,hc7,hm7,hb7⟩:=hdm.m
 have HB7:=hid hb7
 have HAL:=hid (rall_any A A7 n c n1 c7 (L.map Rn.p) (depF (P.map ptOf) (C.map chOf)) w5 (HR.out.on hb7).rdp hm7 hc hn q1 HPI.out)
 have hql:(allF (depW n1 (depF (P.map ptOf) (C.map chOf))) (L.map Rn.p)).length≤2097152:=allF_le (by rw[List.length_map,HLN.out];omega)
 generalize allF (depW n1 (depF (P.map ptOf) (C.map chOf))) (L.map Rn.p)=Q at HAL HYES HNO hql
 clear hdm m0 m1 m2 hm7 hb7 HPI
 go_wp2_with fail
 refine HAL.out.mono ?_
 rintro e wb ⟨A4,c4,rfl,how4,hb4⟩
 have HQ4:=hid how4.rdb
 have HBB:=hid (HB7.out.trans (hb4.mono HB7.out.size))
 clear how4 hb4 HAL HB7
 go_wp2_with fail
 go_loopw [8,9,16] (fun _ _ s wr=>∃ t:Nat,t≤Q.length∧s=.int .i64 t∧drawL P C L (Q.take t)=none∧Below wb.heap.size wb wr) (fun _ _ s _=>Q.length - (intOf s).toNat)
 case atStart=>exact⟨0,by omega,rfl,rfl,Below.refl _ _⟩
 case round =>
  obtain⟨t,htq,rfl,hno,hb⟩:=hrel
  have HNN:=hid hno
  have HK:=hid hb
  clear hno hb
  by_cases htl:t < Q.length
  ·have htli:(t:Int) < (Q.length:Int):=by omega
   obtain⟨am,x,rfl,ham,hx,d0,dk⟩:=(HQ4.out.on HK.out).at_ mcl_len (by omega) htl
   have e0:=d0 _ rfl
   have e1:=dk 1 _ (by omega) rfl
   have e2:=dk 2 _ (by omega) rfl
   have hmo:=drawL_more (P:=P) (C:=C) (L:=L) hx HNN.out
   have hdl:=doZ_len L x.i x.j x.r
   have hdt:=doZ_ticks L x.i x.j x.r
   obtain⟨i,j,r⟩:=x
   dsimp only at e0 e1 e2 hmo hdl hdt
   have hbl:=bl1 wr (.cells #[.int .i64 (i:Int),.int .i64 (j:Int),.bool r] 108)
   have g0:(wr.alloc (.cells #[.int .i64 (i:Int),.int .i64 (j:Int),.bool r] 108)).cell? ⟨wr.heap.size,0,none⟩=some (.int .i64 (i:Int)):=World.cell?_alloc_mark _ _ _ _ _
   have g1:(wr.alloc (.cells #[.int .i64 (i:Int),.int .i64 (j:Int),.bool r] 108)).cell? ⟨wr.heap.size,1,none⟩=some (.int .i64 (j:Int)):=World.cell?_alloc_mark _ _ _ _ _
   have g2:(wr.alloc (.cells #[.int .i64 (i:Int),.int .i64 (j:Int),.bool r] 108)).cell? ⟨wr.heap.size,2,none⟩=some (.bool r):=World.cell?_alloc_mark _ _ _ _ _
   have HK1:=hid (HK.out.trans (hbl.mono HK.out.size))
   clear hx d0 dk ham hbl
   go_upto_region 5 with fail
   generalize wr.alloc (.cells #[.int .i64 (i:Int),.int .i64 (j:Int),.bool r] 108)=W2 at g0 g1 g2 HK1 ⊢
   generalize wr.heap.size=gx at g0 g1 g2 ⊢
   have HWB:=hid (HBB.out.trans (HK1.out.mono HBB.out.size))
   have HDO:=hid (rdo_any A n c L (i:Int) (j:Int) r W2 (HR.out.on HWB.out) hc (by omega) (by omega))
   rw[HLN.out] at hdl
   have hok:okF P C (doZ L (i:Int) (j:Int) r)=decide (holdsF (wordsL (doZ L (i:Int) (j:Int) r)) P C=0):=rfl
   rw[hok] at hmo
   generalize doZ L (i:Int) (j:Int) r=R at HDO hmo hdl hdt
   have HMO:=hid hmo
   clear hmo hok e0 e1 e2
   go_wp2_with fail
   refine HDO.out.mono ?_
   rintro e w6 ⟨A9,c9,rfl,hr9,hc9,hb9⟩
   have HR9:=hid hr9
   have HW6:=hid (HWB.out.trans (hb9.mono HWB.out.size))
   have HK6:=hid (HK1.out.trans (hb9.mono HK1.out.size))
   obtain⟨m0,m1,m2⟩:=(HBX.out.on HW6.out).three
   have HHO:=hid (holdsx_any A1 A2 A3 A9 n1 n2 n3 R.length c1 c2 c3 c9 P C R w6 (HCF.out.on HW6.out).p (HCF.out.on HW6.out).c hr9 (by omega) q2 hc9 (by omega) (by omega) HZ.out)
   generalize holdsF (wordsL R) P C=hz at HHO HMO
   clear hr9 hb9 HDO g0 g1 g2
   by_cases h0:hz=0
   ·subst h0
    obtain⟨ey,eb⟩:=HYES.out R (t+1) (by rw[HMO.out];rfl)
    subst ey
    subst eb
    go_wp2_with fail
    refine HHO.out.mono ?_
    rintro e w7 ⟨rfl,hb7⟩
    have HB9:=hid (HB0.out.trans ((HW6.out.trans (hb7.mono HW6.out.size)).mono HB0.out.size))
    have HRZ:=hid (HR9.out.on hb7)
    clear hb7 HHO m0 m1 m2
    go_wp2_with fail
    go_ret2
    exact⟨A9,c9,rfl,HRZ.out,hc9,HB9.out⟩
   ·have h0b:(hz == 0)=false:=beq_eq_false_iff_ne.2 h0
    have HN2:Hid (drawL P C L (Q.take (t+1))=none):=hid (by rw[HMO.out,if_neg];simp[h0])
    clear h0
    go_wp2_with fail
    refine HHO.out.mono ?_
    rintro e w7 ⟨rfl,hb7⟩
    have HK7:=hid (HK6.out.trans (hb7.mono HK6.out.size))
    clear hb7 HHO m0 m1 m2
    go_wp2_with fail
    go_roundw
    case rel=>exact⟨t+1,by omega,by go_num,HN2.out,HK7.out⟩
    case measure=>simp[intOf];omega
  ·have htli:¬ (t:Int) < (Q.length:Int):=by omega
   have e:Q.take t=Q:=List.take_of_length_le (by omega)
   have hnn:=HNN.out
   rw[e] at hnn
   obtain⟨ey,eb⟩:=HNO.out hnn
   subst ey
   subst eb
   have HWB:=hid (HBB.out.trans (HK.out.mono HBB.out.size))
   have hbe:=bl1 wr (.cells #[] 75)
   have hown0:OwnV 75 2 (wr.alloc (.cells #[] 75)) wr.heap.size (some ⟨wr.heap.size,0,none⟩) 0 0 []:=ownV_lit wr _ 2 wr.heap.size #[] 0 rfl (Nat.le_refl _) (by unfold maxLen;omega)
   have hrd:=((HR.out.on HWB.out).on hbe).rd
   have hle:wr.heap.size≤(wr.alloc (.cells #[] 75)).heap.size:=hbe.size
   have HBE:=hid (HB0.out.trans ((HWB.out.trans (hbe.mono HWB.out.size)).mono HB0.out.size))
   have HBW:=hid (HB0.out.trans (HWB.out.mono HB0.out.size))
   have HBE1:=hid hbe
   clear hnn hbe e
   go_wp2_with (at_builtin;go_loud (refine wpList_appV elR rfl (.tmp 29) (.tmp 30) rfl rfl wr.heap.size (some ⟨wr.heap.size,0,none⟩) 0 0 [] rfl hown0 A n c (rs RR) _ rfl hrd (by rw[rs_length,HLN.out]) (rs_one _) (by omega) (by unfold maxLen;omega) hle n (Nat.zero_add _) (rs RR) (List.nil_append _) ?_;intro A9 c9 w9 hw9 hb9 _))
   go_ret2
   exact⟨A9,c9,by rw[HLN.out];rfl,by rw[HLN.out];exact⟨HLN.out,hw9.rd⟩,by rw[HLN.out];exact hw9.cap,HBW.out.trans ((HBE1.out.trans hb9).mono HBW.out.size)⟩
set_option maxRecDepth 100000 in
set_option maxHeartbeats 4000000 in
theorem rvalid_any (A1 A2 A3 A B:Option Addr) (n1 n2 n3 n m c1 c2 c3 c d:Nat) (P:List PtV) (C:List ChV) (L X:List Rn) (w:World) (hCf:CfW w w.heap.size A1 A2 n1 n2 P C) (hL:RdR w w.heap.size A n L) (hX:RdR w w.heap.size B m X)
  (q1:n1≤1024) (q2:n2≤1048576) (hc:n≤c) (hd:m≤d) (hn:n≤1048576) (ht:ticks L≤8192) (hz:∀ x∈P,In64 x.per) (hF:Frm X m) :
  Calls Tryz.prog 38 #[.agg #[.slice A1 n1 c1,.slice A2 n2 c2,.slice A3 n3 c3],.slice A n c,.slice B m d] w (Ans (.bool (validF P C L X)) w):=by
 have hb0:=bl1 w (.cells #[.slice A1 n1 c1,.slice A2 n2 c2,.slice A3 n3 c3] 31)
 have hbox:=box_vec w (.slice A1 n1 c1) (.slice A2 n2 c2) (.slice A3 n3 c3) 31
 have HCF:=hid (hCf.on hb0)
 have HL:=hid (hL.on hb0)
 have HX:=hid (hX.on hb0)
 have HB0:=hid hb0
 have hPl:P.length=n1:=hCf.p.len
 have HZ:=hid hz
 have HF:=hid hF
 have hml:=hF.le
 have hmt:=hF.tk
 obtain⟨s,hs⟩:∃ s,s=!(diffF (depW n1 (depF (P.map ptOf) (C.map chOf))) L X).2.2:=⟨_,rfl⟩
 obtain⟨z,hzz⟩:∃ z,z=holdsF (wordsL X) P C:=⟨_,rfl⟩
 have hv:validF P C L X=(s && decide (z=0)):=by unfold validF depP okF;rw[hPl,hs,hzz]
 have HS:=hid fun W A7 c7 (hb:Below (w.alloc (.cells #[.slice A1 n1 c1,.slice A2 n2 c2,.slice A3 n3 c3] 31)).heap.size (w.alloc (.cells #[.slice A1 n1 c1,.slice A2 n2 c2,.slice A3 n3 c3] 31)) W) (hm:RdM W W.heap.size A7 n1 (fun _=>n1) (depF (P.map ptOf) (C.map chOf)))=>rsamew_any A B A7 n m n1 c d c7 L X _ W (HL.out.on hb) (HX.out.on hb) hm hc hd hn (by omega) q1 (by omega) (by omega)
 have HH:=hid fun W (hb:Below (w.alloc (.cells #[.slice A1 n1 c1,.slice A2 n2 c2,.slice A3 n3 c3] 31)).heap.size (w.alloc (.cells #[.slice A1 n1 c1,.slice A2 n2 c2,.slice A3 n3 c3] 31)) W)=>holdsx_any A1 A2 A3 B n1 n2 n3 m c1 c2 c3 d P C X W (HCF.out.on hb).p (HCF.out.on hb).c (HX.out.on hb) (by omega) q2 hd (by omega) (by omega) HZ.out
 have HU:=hid fun W (hb:Below (w.alloc (.cells #[.slice A1 n1 c1,.slice A2 n2 c2,.slice A3 n3 c3] 31)).heap.size (w.alloc (.cells #[.slice A1 n1 c1,.slice A2 n2 c2,.slice A3 n3 c3] 31)) W)=>rruns_any B m d X W (HX.out.on hb) hd HF.out
 rw[← hs] at HS
 rw[← hzz] at HH
 generalize validF P C L X=v at hv ⊢
 have HV:=hid hv
 clear hCf hL hX hb0 hz hF hPl hs hzz hv
 go_enter Tryz.func38,Tryz.ntmps38
 go_upto_region 1 with fail
 generalize w.alloc (.cells #[.slice A1 n1 c1,.slice A2 n2 c2,.slice A3 n3 c3] 31)=W at hbox HCF HL HX HB0 HS HH HU ⊢
 obtain⟨gc,hgc⟩:∃ gc,gc=w.heap.size:=⟨_,rfl⟩
 rw[← hgc] at hbox ⊢
 clear hgc
 have HBX:=hid hbox
 obtain⟨m0,m1,m2⟩:=hbox.three
 clear hbox
 go_wp2_with fail
 refine(rdepends_any A1 A2 A3 n1 n2 n3 c1 c2 c3 P C W HCF.out q1 q2).mono ?_
 intro e w5 hdm
 obtain⟨A7,c7,rfl,hc7,hm7,hb7⟩:=hdm.m
 have HK5:=hid hb7
 have HS5:=hid (HS.out w5 A7 c7 hb7 hm7)
 clear hdm m0 m1 m2 hm7 hb7 HS
 cases s with
 | false =>
  have e:v=false:=by rw[HV.out];rfl
  subst e
  go_wp2_with fail
  refine HS5.out.mono ?_
  rintro e w6 ⟨rfl,hb6⟩
  have HB6:=hid (HB0.out.trans ((HK5.out.trans (hb6.mono HK5.out.size)).mono HB0.out.size))
  clear hb6
  go_wp2_with fail
  go_ret
  exact Ans.mk rfl HB6.out
 | true =>
  go_wp2_with fail
  refine HS5.out.mono ?_
  rintro e w6 ⟨rfl,hb6⟩
  have HK6:=hid (HK5.out.trans (hb6.mono HK5.out.size))
  clear hb6
  obtain⟨m0,m1,m2⟩:=(HBX.out.on HK6.out).three
  have HH6:=hid (HH.out w6 HK6.out)
  by_cases h0:z=0
  ·subst h0
   have e:v=true:=by rw[HV.out];rfl
   subst e
   go_wp2_with fail
   refine HH6.out.mono ?_
   rintro e w7 ⟨rfl,hb7⟩
   have HK7:=hid (HK6.out.trans (hb7.mono HK6.out.size))
   have HU7:=hid (HU.out w7 HK7.out)
   clear hb7 m0 m1 m2 HH6
   go_wp2_with fail
   refine HU7.out.mono ?_
   rintro e w8 ⟨rfl,hb8⟩
   have HB8:=hid (HB0.out.trans ((HK7.out.trans (hb8.mono HK7.out.size)).mono HB0.out.size))
   clear hb8
   go_wp2_with fail
   go_ret
   exact Ans.mk rfl HB8.out
  ·have h0b:(z == 0)=false:=beq_eq_false_iff_ne.2 h0
   have e:v=false:=by rw[HV.out,decide_eq_false h0];rfl
   subst e
   clear h0
   go_wp2_with fail
   refine HH6.out.mono ?_
   rintro e w7 ⟨rfl,hb7⟩
   have HB7:=hid (HB0.out.trans ((HK6.out.trans (hb7.mono HK6.out.size)).mono HB0.out.size))
   clear hb7 m0 m1 m2 HH6
   go_wp2_with fail
   go_ret
   exact Ans.mk rfl HB7.out
set_option maxRecDepth 100000 in
set_option maxHeartbeats 2000000 in
theorem rstuck_any (A1 A2 A3 A:Option Addr) (n1 n2 n3 n c1 c2 c3 c:Nat) (P:List PtV) (C:List ChV) (L:List Rn) (w:World) (hCf:CfW w w.heap.size A1 A2 n1 n2 P C) (hL:RdR w w.heap.size A n L)
  (q1:n1≤1024) (q2:n2≤1048576) (hc:n≤c) (hn:n≤1024) (ht:ticks L≤8192) (hz:∀ x∈P,In64 x.per) (hps:∀ r∈L,-1≤r.p∧r.p≤1024) :
  Calls Tryz.prog 25 #[.agg #[.slice A1 n1 c1,.slice A2 n2 c2,.slice A3 n3 c3],.slice A n c] w (Ans (.bool (!(drwB P C L))) w):=by
 have hb0:=bl1 w (.cells #[.slice A1 n1 c1,.slice A2 n2 c2,.slice A3 n3 c3] 31)
 have hbox:=box_vec w (.slice A1 n1 c1) (.slice A2 n2 c2) (.slice A3 n3 c3) 31
 have HD:=hid (rdraw_any A1 A2 A3 A n1 n2 n3 n c1 c2 c3 c P C L _ (hCf.on hb0) (hL.on hb0) q1 q2 hc hn ht hz hps)
 have HB0:=hid hb0
 obtain⟨m0,m1,m2⟩:=hbox.three
 generalize drwB P C L=b at HD ⊢
 generalize drwR P C L=R at HD
 clear hCf hL hb0 hz hps hbox
 go_enter Tryz.func25,Tryz.ntmps25
 go_wp2_with fail
 refine HD.out.mono ?_
 rintro e w5 ⟨A9,c9,rfl,_,_,hb9⟩
 have HB9:=hid (HB0.out.trans (hb9.mono HB0.out.size))
 clear hb9 HD m0 m1 m2
 go_wp2_with fail
 go_ret
 exact Ans.mk rfl HB9.out
theorem redF_step {P:List PtV} {C:List ChV} {X x:List Rn} (h:stepF P C X=some x) {f:Nat} (hf:X.length≤f) (hp:0 < X.length):∃ f',f=f'+1∧(redF P C f X).1=(redF P C f' x).1∧(redF P C f X).2=(redF P C f' x).2+1:=by
 obtain⟨f',rfl⟩:∃ f',f=f'+1:=⟨f - 1,by omega⟩
 refine⟨f',rfl,?_⟩
 have e:redF P C (f'+1) X=((redF P C f' x).1,(redF P C f' x).2+1):=by
  simp only[redF,h]
 rw[e]
 exact⟨rfl,rfl⟩
theorem drwR_some {P:List PtV} {C:List ChV} {X:List Rn} (h:drwB P C X=true):drawF P C X=some (drwR P C X):=by
 unfold drwB at h
 unfold drwR
 cases hd:drawF P C X with
 | none=>rw[hd] at h;cases h
 | some x=>rfl
theorem drwB_none {P:List PtV} {C:List ChV} {X:List Rn} (h:drwB P C X=false):drawF P C X=none:=by
 unfold drwB at h
 cases hd:drawF P C X with
 | none=>rfl
 | some x=>rw[hd] at h;cases h
set_option maxRecDepth 100000 in
set_option maxHeartbeats 8000000 in
theorem rreds_any (A1 A2 A3 A:Option Addr) (n1 n2 n3 n c1 c2 c3 c:Nat) (P:List PtV) (C:List ChV) (L:List Rn) (w:World) (hCf:CfW w w.heap.size A1 A2 n1 n2 P C) (hL:RdR w w.heap.size A n L)
  (q1:n1≤1024) (q2:n2≤1048576) (hc:n≤c) (hz:∀ x∈P,In64 x.per) (hF:Frm L n) :
  Calls Tryz.prog 34 #[.agg #[.slice A1 n1 c1,.slice A2 n2 c2,.slice A3 n3 c3],.slice A n c] w (RowNn (redF P C n L).1 (redF P C n L).2 w):=by
 have hb0:=bl1 w (.cells #[.slice A1 n1 c1,.slice A2 n2 c2,.slice A3 n3 c3] 31)
 have hbox:=box_vec w (.slice A1 n1 c1) (.slice A2 n2 c2) (.slice A3 n3 c3) 31
 have HCF:=hid (hCf.on hb0)
 have HR0:=hid (hL.on hb0)
 have HB0:=hid hb0
 have HZ:=hid hz
 have HF0:=hid hF
 have HLN:=hid hL.len
 have hn96:=hF.le
 obtain⟨RR,hRR⟩:∃ RR,RR=redF P C n L:=⟨_,rfl⟩
 rw[← hRR]
 have HRR:=hid hRR
 clear hCf hL hb0 hz hF hRR
 go_enter Tryz.func34,Tryz.ntmps34
 go_upto_region 1 with fail
 generalize w.alloc (.cells #[.slice A1 n1 c1,.slice A2 n2 c2,.slice A3 n3 c3] 31)=W at hbox HCF HR0 HB0 ⊢
 obtain⟨gc,hgc⟩:∃ gc,gc=w.heap.size:=⟨_,rfl⟩
 rw[← hgc] at hbox ⊢
 clear hgc
 have HBX:=hid hbox
 clear hbox
 go_wp2_with fail
 go_loopw [1,6,7,8] (fun t1 t6 _ _ wr=>∃(A':Option Addr) (m c' k f:Nat) (X:List Rn),t1=.slice A' m c'∧t6=.int .i64 k∧m≤c'∧Frm X m∧RdR wr wr.heap.size A' m X∧m≤f∧k+m≤n∧RR.1=(redF P C f X).1∧RR.2=(redF P C f X).2+k∧Below W.heap.size W wr) (fun t1 _ _ _ _=>lenOf t1)
 case atStart=>exact⟨A,n,c,0,n,L,rfl,rfl,hc,HF0.out,HR0.out,Nat.le_refl _,by omega,by rw[HRR.out],by rw[HRR.out];rfl,Below.refl _ _⟩
 case round =>
  obtain⟨A',m,c',k,f,X,rfl,rfl,hmc,hFX,hRX,hmf,hkm,hr1,hr2,hb⟩:=hrel
  have hXl:=hRX.len
  have hm96:=hFX.le
  have hmp:=hFX.pos
  have hmt:=hFX.tk
  have HFX:=hid hFX
  have HRX:=hid fun V (hv:Below wr.heap.size wr V)=>hRX.on hv
  have HBW:=hid hb
  have HCX:=hid fun V (hv:Below wr.heap.size wr V)=>HCF.out.on (hb.trans (hv.mono hb.size))
  have HBXX:=hid fun V (hv:Below wr.heap.size wr V)=>(HBX.out.on (hb.trans (hv.mono hb.size))).three
  have HDR:=hid fun V (hv:Below wr.heap.size wr V)=>rdraw_any A1 A2 A3 A' n1 n2 n3 m c1 c2 c3 c' P C X V (HCX.out V hv) (HRX.out V hv) q1 q2 hmc (by omega) (by omega) HZ.out (fun r hr=>by have:=HFX.out.all r hr;omega)
  have HVL:=hid fun B m9 d X9 V (hv:Below wr.heap.size wr V) (hX9:RdR V V.heap.size B m9 X9) (hd:m9≤d) (hF9:Frm X9 m9)=>rvalid_any A1 A2 A3 A' B n1 n2 n3 m m9 c1 c2 c3 c' d P C X X9 V (HCX.out V hv) (HRX.out V hv) hX9 q1 q2 hmc hd (by omega) (by omega) HZ.out hF9
  have HMG:=hid (rmerge_any A' m c' X wr hRX hmc (by omega) (by omega))
  have HR1:=hid hr1
  have HR2:=hid hr2
  have HSTEP:Hid (∀ x,stepF P C X=some x→Frm x x.length∧x.length < m∧∃ f',f=f'+1∧RR.1=(redF P C f' x).1∧RR.2=(redF P C f' x).2+(k+1)):=hid fun x hx=>by
   have h1:=stepF_stepd hFX hXl hx
   obtain⟨f',e1,e2,e3⟩:=redF_step hx (by rw[hXl];exact hmf) (by omega)
   exact⟨h1.frm,by have:=h1.less;omega,f',e1,by rw[hr1,e2],by rw[hr2,e3];omega⟩
  have HEND:Hid (stepF P C X=none→RR.1=X∧RR.2=k):=hid fun hx=>by
   rw[redF_end hx] at hr1 hr2
   exact⟨hr1,by rw[hr2];exact Nat.zero_add k⟩
  have HFT:=hid (frm_tidy hFX hXl)
  have hvt:=validF_tidy P C X
  have hst:stepF P C X=if mergeB X=true∧okF P C X=true then some (tidy X) else drawF P C X:=rfl
  have HDS:=hid (fun h=>drwR_some (P:=P) (C:=C) (X:=X) h)
  have HDN:=hid (fun h=>drwB_none (P:=P) (C:=C) (X:=X) h)
  have HVD:=hid (fun x h=>validF_draw (P:=P) (C:=C) (L:=X) (x:=x) h)
  clear hFX hRX hb hr1 hr2
  have HDRAW:Hid (¬ (mergeB X=true∧okF P C X=true)→stepF P C X=drawF P C X):=hid fun h=>by rw[hst,if_neg h]
  obtain⟨mb,hmb⟩:∃ mb,mb=mergeB X:=⟨_,rfl⟩
  obtain⟨ok,hok⟩:∃ ok,ok=okF P C X:=⟨_,rfl⟩
  rw[← hmb] at HMG HDRAW hst
  rw[← hok] at HDRAW hst hvt
  have HST:=hid hst
  have HVT:=hid hvt
  have hw1:IntKind.i64.wrap ((k:Int)+1)=(k:Int)+1:=IntWalk.i64_in _ (by omega)
  clear hst hvt hmb hok
  go_wp2_with fail
  refine HMG.out.mono ?_
  rintro e w5 ⟨A5,c5,rfl,hr5,hc5,hb5⟩
  have HK5:=hid hb5
  have HR5:=hid fun V (hv:Below w5.heap.size w5 V)=>hr5.on hv
  clear hr5 hb5 HMG
  cases mb with
  | false =>
   have HSD:=hid (HDRAW.out (fun h=>by cases h.1))
   obtain⟨m0,m1,m2⟩:=HBXX.out w5 HK5.out
   have HD5:=hid (HDR.out w5 HK5.out)
   obtain⟨db,hdb⟩:∃ db,db=drwB P C X:=⟨_,rfl⟩
   rw[← hdb] at HD5
   have HDB:=hid hdb
   clear hdb
   go_wp2_with fail
   refine HD5.out.mono ?_
   rintro e w7 ⟨A7,c7,rfl,hr7,hc7,hb7⟩
   have HK7:=hid (HK5.out.trans (hb7.mono HK5.out.size))
   have HR7:=hid fun V (hv:Below w7.heap.size w7 V)=>hr7.on hv
   clear hb7 hr7 HD5 m0 m1 m2
   cases db with
   | false =>
    obtain⟨eX,ek⟩:=HEND.out (HSD.out.trans (HDN.out HDB.out.symm))
    have HEX:=hid eX
    have HEK:=hid ek
    clear eX ek
    have hbe:=bl1 w7 (.cells #[] 75)
    have hown0:OwnV 75 2 (w7.alloc (.cells #[] 75)) w7.heap.size (some ⟨w7.heap.size,0,none⟩) 0 0 []:=ownV_lit w7 _ 2 w7.heap.size #[] 0 rfl (Nat.le_refl _) (by unfold maxLen;omega)
    have hrd:=((HRX.out w7 HK7.out).on hbe).rd
    have hle:w7.heap.size≤(w7.alloc (.cells #[] 75)).heap.size:=hbe.size
    have HBE:=hid hbe
    clear hbe
    go_wp2_with (at_builtin;go_loud (refine wpList_appV elR rfl (.tmp 38) (.tmp 39) rfl rfl w7.heap.size (some ⟨w7.heap.size,0,none⟩) 0 0 [] rfl hown0 A' m c' (rs X) _ rfl hrd (by rw[rs_length,hXl]) (rs_one _) (by omega) (by unfold maxLen;omega) hle m (Nat.zero_add _) (rs X) (List.nil_append _) ?_;intro A9 c9 w9 hw9 hb9 _))
    go_ret2
    have hK:=HB0.out.trans ((HBW.out.trans ((HK7.out.trans ((HBE.out.trans hb9).mono HK7.out.size)).mono HBW.out.size)).mono HB0.out.size)
    exact⟨A9,c9,by rw[HEX.out,HEK.out,hXl];rfl,by rw[HEX.out,hXl];exact⟨hXl,hw9.rd⟩,by rw[HEX.out,hXl];exact hw9.cap,hK⟩
   | true =>
    have hdr:=HDS.out HDB.out.symm
    have hsx:=HSD.out.trans hdr
    have hvd:=HVD.out _ hdr
    obtain⟨hfr,hls,f',ef,er1,er2⟩:=HSTEP.out _ hsx
    obtain⟨R,hR⟩:∃ R,R=drwR P C X:=⟨_,rfl⟩
    rw[← hR] at hvd hfr hls er1 er2 HR7 hc7 ⊢
    have HVC:=hid (HVL.out A7 R.length c7 R w7 HK7.out (HR7.out w7 (Below.refl _ _)) hc7 hfr)
    rw[hvd] at HVC
    have HFIN:=hid (And.intro hfr (And.intro er1 er2))
    clear hdr hsx hvd hR hfr er1 er2
    obtain⟨m0,m1,m2⟩:=HBXX.out w7 HK7.out
    go_wp2_with fail
    refine HVC.out.mono ?_
    rintro e w8 ⟨rfl,hb8⟩
    have HK8:=hid (HBW.out.trans ((HK7.out.trans (hb8.mono HK7.out.size)).mono HBW.out.size))
    have HR8:=hid (HR7.out w8 hb8)
    clear hb8 m0 m1 m2 HVC
    go_wp2_with fail
    go_roundw
    case rel=>exact⟨A7,R.length,c7,k+1,f',R,rfl,by go_num,hc7,HFIN.out.1,HR8.out,by omega,by omega,HFIN.out.2.1,HFIN.out.2.2,HK8.out⟩
    case measure=>simp[lenOf];omega
  | true =>
   obtain⟨m0,m1,m2⟩:=HBXX.out w5 HK5.out
   have HV5:=hid (HVL.out A5 (tidy X).length c5 (tidy X) w5 HK5.out (HR5.out w5 (Below.refl _ _)) hc5 HFT.out)
   rw[HVT.out] at HV5
   cases ok with
   | false =>
    have HSD:=hid (HDRAW.out (fun h=>by cases h.2))
    go_wp2_with fail
    refine HV5.out.mono ?_
    rintro e w6 ⟨rfl,hb6⟩
    have HK6:=hid (HK5.out.trans (hb6.mono HK5.out.size))
    clear hb6 HV5 m0 m1 m2
    obtain⟨m0,m1,m2⟩:=HBXX.out w6 HK6.out
    have HD5:=hid (HDR.out w6 HK6.out)
    obtain⟨db,hdb⟩:∃ db,db=drwB P C X:=⟨_,rfl⟩
    rw[← hdb] at HD5
    have HDB:=hid hdb
    clear hdb
    go_wp2_with fail
    refine HD5.out.mono ?_
    rintro e w7 ⟨A7,c7,rfl,hr7,hc7,hb7⟩
    have HK7:=hid (HK6.out.trans (hb7.mono HK6.out.size))
    have HR7:=hid fun V (hv:Below w7.heap.size w7 V)=>hr7.on hv
    clear hb7 hr7 HD5 m0 m1 m2
    cases db with
    | false =>
     obtain⟨eX,ek⟩:=HEND.out (HSD.out.trans (HDN.out HDB.out.symm))
     have HEX:=hid eX
     have HEK:=hid ek
     clear eX ek
     have hbe:=bl1 w7 (.cells #[] 75)
     have hown0:OwnV 75 2 (w7.alloc (.cells #[] 75)) w7.heap.size (some ⟨w7.heap.size,0,none⟩) 0 0 []:=ownV_lit w7 _ 2 w7.heap.size #[] 0 rfl (Nat.le_refl _) (by unfold maxLen;omega)
     have hrd:=((HRX.out w7 HK7.out).on hbe).rd
     have hle:w7.heap.size≤(w7.alloc (.cells #[] 75)).heap.size:=hbe.size
     have HBE:=hid hbe
     clear hbe
     go_wp2_with (at_builtin;go_loud (refine wpList_appV elR rfl (.tmp 38) (.tmp 39) rfl rfl w7.heap.size (some ⟨w7.heap.size,0,none⟩) 0 0 [] rfl hown0 A' m c' (rs X) _ rfl hrd (by rw[rs_length,hXl]) (rs_one _) (by omega) (by unfold maxLen;omega) hle m (Nat.zero_add _) (rs X) (List.nil_append _) ?_;intro A9 c9 w9 hw9 hb9 _))
     go_ret2
     have hK:=HB0.out.trans ((HBW.out.trans ((HK7.out.trans ((HBE.out.trans hb9).mono HK7.out.size)).mono HBW.out.size)).mono HB0.out.size)
     exact⟨A9,c9,by rw[HEX.out,HEK.out,hXl];rfl,by rw[HEX.out,hXl];exact⟨hXl,hw9.rd⟩,by rw[HEX.out,hXl];exact hw9.cap,hK⟩
    | true =>
     have hdr:=HDS.out HDB.out.symm
     have hsx:=HSD.out.trans hdr
     have hvd:=HVD.out _ hdr
     obtain⟨hfr,hls,f',ef,er1,er2⟩:=HSTEP.out _ hsx
     obtain⟨R,hR⟩:∃ R,R=drwR P C X:=⟨_,rfl⟩
     rw[← hR] at hvd hfr hls er1 er2 HR7 hc7 ⊢
     have HVC:=hid (HVL.out A7 R.length c7 R w7 HK7.out (HR7.out w7 (Below.refl _ _)) hc7 hfr)
     rw[hvd] at HVC
     have HFIN:=hid (And.intro hfr (And.intro er1 er2))
     clear hdr hsx hvd hR hfr er1 er2
     obtain⟨m0,m1,m2⟩:=HBXX.out w7 HK7.out
     go_wp2_with fail
     refine HVC.out.mono ?_
     rintro e w8 ⟨rfl,hb8⟩
     have HK8:=hid (HBW.out.trans ((HK7.out.trans (hb8.mono HK7.out.size)).mono HBW.out.size))
     have HR8:=hid (HR7.out w8 hb8)
     clear hb8 m0 m1 m2 HVC
     go_wp2_with fail
     go_roundw
     case rel=>exact⟨A7,R.length,c7,k+1,f',R,rfl,by go_num,hc7,HFIN.out.1,HR8.out,by omega,by omega,HFIN.out.2.1,HFIN.out.2.2,HK8.out⟩
     case measure=>simp[lenOf];omega
   | true =>
    have hsx:stepF P C X=some (tidy X):=by rw[HST.out,if_pos ⟨rfl,rfl⟩]
    obtain⟨hfr,hls,f',ef,er1,er2⟩:=HSTEP.out _ hsx
    have HFIN:=hid (And.intro hfr (And.intro er1 er2))
    have HVV:=hid fun V (hv:Below wr.heap.size wr V) (hq:Below w5.heap.size w5 V)=>HVL.out A5 (tidy X).length c5 (tidy X) V hv (HR5.out V hq) hc5 HFT.out
    rw[HVT.out] at HVV
    clear hsx hfr er1 er2
    go_wp2_with fail
    refine HV5.out.mono ?_
    rintro e w6 ⟨rfl,hb6⟩
    have HQ6:=hid hb6
    have HK6:=hid (HK5.out.trans (hb6.mono HK5.out.size))
    clear hb6 HV5 m0 m1 m2
    obtain⟨m0,m1,m2⟩:=HBXX.out w6 HK6.out
    have HV6:=hid (HVV.out w6 HK6.out HQ6.out)
    go_wp2_with fail
    refine HV6.out.mono ?_
    rintro e w8 ⟨rfl,hb8⟩
    have HK8:=hid (HBW.out.trans ((HK6.out.trans (hb8.mono HK6.out.size)).mono HBW.out.size))
    have HR8:=hid (HR5.out w8 (HQ6.out.trans (hb8.mono HQ6.out.size)))
    clear hb8 m0 m1 m2 HV6
    go_wp2_with fail
    go_roundw
    case rel=>exact⟨A5,(tidy X).length,c5,k+1,f',tidy X,rfl,by go_num,hc5,HFIN.out.1,HR8.out,by omega,by omega,HFIN.out.2.1,HFIN.out.2.2,HK8.out⟩
    case measure=>simp[lenOf];omega
end Go.Proofs.YtfddpnhaejkacaaGreat
