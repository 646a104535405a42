import Derived.Test.YtfddpnhaejkacaaGreatLow2
import Derived.Test.YtfddpnhaejkacaaGreatLow5
import Derived.Deep.Cut
import Derived.Test.YtfddpnhaejkacaaGreatLow1
import Derived.Test.YtfddpnhaejkacaaGreatLow3
set_option linter.unusedSimpArgs false
set_option linter.unusedVariables false
namespace Go.Proofs.YtfddpnhaejkacaaGreat
open Go.RowKit Tab
open Lib (hid)
set_option maxRecDepth 100000 in
set_option maxHeartbeats 4000000 in
theorem rproj_any (A:Option Addr) (n cap:Nat) (L:List Rn) (a b:Int) (w:World) (h:RdR w w.heap.size A n L) (hc:n≤cap) (hn:n≤1048576) (ht:ticks L≤1099511627776) :
  Calls Tryz.prog 85 #[.slice A n cap,.int .i64 a,.int .i64 b] w (MadeR (proj a b L) w):=by
 have hfl:=ticks_filter (sees a b) L
 go_enter Tryz.func85,Tryz.ntmps85
 go_wp2_with fail
 go_loopw [7,9,12] (fun q _ s wr=>∃(i m c':Nat) (A':Option Addr),i≤n∧s=.int .i64 i∧q=.slice A' m c'∧m≤i∧OwnV 75 2 wr w.heap.size A' m c' (rs (prj a b (L.take i)))∧Below w.heap.size w wr) (fun _ _ s _=>n - (intOf s).toNat)
 case atStart=>exact⟨0,0,0,none,by omega,rfl,rfl,by omega,by simpa [prj,rs] using OwnV.nil _ _ _ _,Below.refl _ _⟩
 case round =>
  obtain⟨i,m,c',A',hi,rfl,rfl,hm,how,hb⟩:=hrel
  by_cases hlt:i < n
  ·have hlti:(i:Int) < (n:Int):=by omega
   obtain⟨ad,r,rfl,had,hr,c0,c1⟩:=(h.on hb).at_ hlt
   have hmore:=prj_more (a:=a) (b:=b) hr
   have hbl:=bl1 wr (.cells #[.int .i64 r.p,.int .i64 (r.n:Int)] 75)
   have hb1:=hb.trans (hbl.mono hb.size)
   have how1:=how.below rfl hbl
   have f0:(wr.alloc (.cells #[.int .i64 r.p,.int .i64 (r.n:Int)] 75)).cell? ⟨wr.heap.size,0,none⟩=some (.int .i64 r.p):=World.cell?_alloc_mark _ _ _ _ _
   have f1:(wr.alloc (.cells #[.int .i64 r.p,.int .i64 (r.n:Int)] 75)).cell? ⟨wr.heap.size,1,none⟩=some (.int .i64 (r.n:Int)):=World.cell?_alloc_mark _ _ _ _ _
   clear how hb hbl hr
   go_upto_region 5 with fail
   generalize wr.alloc (.cells #[.int .i64 r.p,.int .i64 (r.n:Int)] 75)=W1 at hb1 how1 f0 f1 ⊢
   generalize wr.heap.size=gx at f0 f1 ⊢
   clear c0 c1
   by_cases hs:sees a b r=true
   ·rw[if_pos hs] at hmore
    have HMO:=hid hmore
    have hbl:=bl1 W1 (.cells #[.int .i64 r.p,.int .i64 (r.n:Int)] 75)
    have how2:=how1.below rfl hbl
    have hrd:=rdV_new W1 #[.int .i64 r.p,.int .i64 (r.n:Int)] 75 (rs [r]) rfl
    have hb2:=hb1.trans (hbl.mono hb1.size)
    have hs2:=hb2.size
    have HB2:=hid hb2
    have hs':=sees_iff.1 hs
    clear hmore how1 hb1 hbl hb2 hs
    by_cases ha:r.p=a
    ·have ha':(r.p == a)=true:=beq_iff_eq.2 ha
     clear hs' ha
     go_wp2_with (at_builtin;go_loud (refine wpList_appX elR rfl (.tmp 26) (.tmp 28) rfl rfl w.heap.size A' m c' _ rfl how2 _ 1 1 _ _ rfl hrd rfl Nat.one_pos (rs_one _) (by omega) (by unfold maxLen;omega) hs2 (m+1) rfl (rs (prj a b (L.take (i+1)))) (by rw[HMO.out];exact(rs_append _ _).symm) ?_;intro A4 c4 w4 hw4 hb4 hot))
     go_roundw
     case rel=>exact⟨i+1,m+1,c4,A4,by omega,by go_num,rfl,by omega,hw4,HB2.out.trans hb4⟩
     case measure=>simp[intOf];omega
    ·have ha':(r.p == a)=false:=beq_eq_false_iff_ne.2 ha
     have hb':(r.p == b)=true:=beq_iff_eq.2 (hs'.resolve_left ha)
     clear hs' ha
     go_wp2_with (at_builtin;go_loud (refine wpList_appX elR rfl (.tmp 26) (.tmp 28) rfl rfl w.heap.size A' m c' _ rfl how2 _ 1 1 _ _ rfl hrd rfl Nat.one_pos (rs_one _) (by omega) (by unfold maxLen;omega) hs2 (m+1) rfl (rs (prj a b (L.take (i+1)))) (by rw[HMO.out];exact(rs_append _ _).symm) ?_;intro A4 c4 w4 hw4 hb4 hot))
     go_roundw
     case rel=>exact⟨i+1,m+1,c4,A4,by omega,by go_num,rfl,by omega,hw4,HB2.out.trans hb4⟩
     case measure=>simp[intOf];omega
   ·rw[if_neg hs] at hmore
    rw[← hmore] at how1
    have HOW:=hid how1
    have HB1:=hid hb1
    have ha:r.p≠a:=fun e=>hs (sees_iff.2 (.inl e))
    have hb:r.p≠b:=fun e=>hs (sees_iff.2 (.inr e))
    have ha':(r.p == a)=false:=beq_eq_false_iff_ne.2 ha
    have hb':(r.p == b)=false:=beq_eq_false_iff_ne.2 hb
    clear hmore how1 hb1 hs ha hb
    go_wp2_with fail
    go_roundw
    case rel=>exact⟨i+1,m,c',A',by omega,by go_num,rfl,by omega,HOW.out,HB1.out⟩
    case measure=>simp[intOf];omega
  ·have hge:¬ (i:Int) < (n:Int):=by omega
   have e:L.take i=L:=List.take_of_length_le (by rw[h.len];omega)
   rw[e] at how
   have hcp:=how.cap
   have HT:=hid (rtidy_any A' m c' (prj a b L) wr how.rdr hcp (by omega) (by unfold prj;omega))
   have HB:=hid hb
   clear how hb e
   go_wp2_with fail
   refine HT.out.mono ?_
   rintro e w5 ⟨A5,c5,rfl,hr5,hc5,hb5,hnew⟩
   have H5:=hid hr5
   have HB5:=hid (HB.out.trans (hb5.mono HB.out.size))
   have HN:=hid hnew
   clear hr5 hb5 hnew
   go_wp2_with fail
   go_ret
   exact⟨A5,c5,rfl,H5.out,hc5,HB5.out,fun ad e=>Nat.le_trans HB.out.size (HN.out ad e)⟩
def depW (n:Nat) (m:Nat→Nat→Bool) (a b:Int):Bool:=decide (a=b) || (inP n a && inP n b && (m a.toNat b.toNat || m b.toNat a.toNat))
theorem depW_sym (n:Nat) (m:Nat→Nat→Bool) (a b:Int):depW n m a b=depW n m b a:=by
 unfold depW
 rw[show decide (a=b)=decide (b=a) from by by_cases h:a=b <;> simp[h,eq_comm],Bool.and_comm (inP n a),Bool.or_comm (m a.toNat b.toNat)]
set_option maxRecDepth 100000 in
set_option maxHeartbeats 4000000 in
theorem rdepw_any (A:Option Addr) (n c:Nat) (m:Nat→Nat→Bool) (a b:Nat) (w:World) (h:RdM w w.heap.size A n (fun _=>n) m) (hn:n≤1024) (ha:a≤1024) (hb:b≤1024) :
  Calls Tryz.prog 84 #[.slice A n c,.int .i64 (a:Int),.int .i64 (b:Int)] w (Ans (.bool (depW n m a b)) w):=by
 have hv:∀ v,v=depW n m a b→Ans (.bool (depW n m a b)) w (.returned (.bool v)) w:=fun v e=>by rw[e];exact Ans.mk rfl (Below.refl _ _)
 have HV:=hid hv
 clear hv
 by_cases hab:a=b
 ·subst hab
  go_enter Tryz.func84,Tryz.ntmps84
  go_wp2_with fail
  go_ret
  exact HV.out _ (by simp[depW])
 ·have hab':((a:Int) == (b:Int))=false:=beq_eq_false_iff_ne.2 (by omega)
  have habd:decide ((a:Int)=(b:Int))=false:=decide_eq_false (by omega)
  by_cases han:a < n
  ·have hani:(a:Int) < (n:Int):=by omega
   have ia:inP n (a:Int)=true:=inP_iff.2 ⟨by omega,hani⟩
   by_cases hbn:b < n
   ·have hbni:(b:Int) < (n:Int):=by omega
    have ib:inP n (b:Int)=true:=inP_iff.2 ⟨by omega,hbni⟩
    have hd:depW n m a b=(m a b || m b a):=by unfold depW;rw[habd,ia,ib];simp
    obtain⟨ad,R,c1,rfl,had,p0,_,hr0⟩:=h.at_ han
    obtain⟨ad',R',c2,e,_,p1,_,hr1⟩:=h.at_ hbn
    injection e with e
    subst e
    obtain⟨ar,rfl,_,u0⟩:=hr0.at_ hbn
    obtain⟨ar',rfl,_,u1⟩:=hr1.at_ han
    have HD:=hid hd
    clear hr0 hr1 h hd
    go_enter Tryz.func84,Tryz.ntmps84
    generalize m a b=v0 at u0 HD
    generalize m b a=v1 at u1 HD
    cases v0
    all_goals
     go_wp2_with fail
     go_ret
     exact HV.out _ (by rw[HD.out];simp)
   ·have hbni:¬ (b:Int) < (n:Int):=by omega
    have ib:inP n (b:Int)=false:=by
     cases e:inP n (b:Int) with
     | false=>rfl
     | true=>have:=(inP_iff.1 e).2;omega
    have hd:depW n m a b=false:=by unfold depW;rw[habd,ib];simp
    have HD:=hid hd
    clear h hd
    go_enter Tryz.func84,Tryz.ntmps84
    go_wp2_with fail
    go_ret
    exact HV.out _ (by rw[HD.out])
  ·have hani:¬ (a:Int) < (n:Int):=by omega
   have ia:inP n (a:Int)=false:=by
    cases e:inP n (a:Int) with
    | false=>rfl
    | true=>have:=(inP_iff.1 e).2;omega
   have hd:depW n m a b=false:=by unfold depW;rw[habd,ia];simp
   have HD:=hid hd
   clear h hd
   go_enter Tryz.func84,Tryz.ntmps84
   go_wp2_with fail
   go_ret
   exact HV.out _ (by rw[HD.out])
set_option maxRecDepth 100000 in
set_option maxHeartbeats 4000000 in
theorem xticks_any (A:Option Addr) (n cap:Nat) (L:List Rn) (p:Int) (w:World) (h:RdR w w.heap.size A n L) (hc:n≤cap) (hn:n≤1048576) (ht:ticks L≤1099511627776) :
  Calls Tryz.prog 23 #[.slice A n cap,.int .i64 p] w (Ans (.int .i64 (tkOf p L:Nat)) w):=by
 have htl:=tkOf_le p L
 generalize hT:tkOf p L=T at htl
 have HT:=hid hT
 clear hT
 go_enter Tryz.func23,Tryz.ntmps23
 go_wp2_with fail
 go_loopw [5,7,10] (fun q _ s wr=>∃ i k:Nat,i≤n∧s=.int .i64 i∧q=.int .i64 k∧k=tkOf p (L.take i)∧Below w.heap.size w wr) (fun _ _ s _=>n - (intOf s).toNat)
 case atStart=>exact⟨0,0,by omega,rfl,rfl,by simp[tkOf],Below.refl _ _⟩
 case round =>
  obtain⟨i,k,hi,rfl,rfl,hk,hb⟩:=hrel
  have HK:=hid hk
  clear hk
  by_cases hlt:i < n
  ·have hlti:(i:Int) < (n:Int):=by omega
   obtain⟨ad,r,rfl,had,hr,c0,c1⟩:=(h.on hb).at_ hlt
   have hmo:=tkOf_more (p:=p) hr
   have hle:tkOf p (L.take (i+1))≤ticks L:=Nat.le_trans (tkOf_le p _) (take_ticks L (i+1))
   have hbl:=bl1 wr (.cells #[.int .i64 r.p,.int .i64 (r.n:Int)] 75)
   have HB:=hid (hb.trans (hbl.mono hb.size))
   have f0:(wr.alloc (.cells #[.int .i64 r.p,.int .i64 (r.n:Int)] 75)).cell? ⟨wr.heap.size,0,none⟩=some (.int .i64 r.p):=World.cell?_alloc_mark _ _ _ _ _
   have f1:(wr.alloc (.cells #[.int .i64 r.p,.int .i64 (r.n:Int)] 75)).cell? ⟨wr.heap.size,1,none⟩=some (.int .i64 (r.n:Int)):=World.cell?_alloc_mark _ _ _ _ _
   clear hr hb hbl
   go_upto_region 5 with fail
   generalize wr.alloc (.cells #[.int .i64 r.p,.int .i64 (r.n:Int)] 75)=W1 at HB f0 f1 ⊢
   generalize wr.heap.size=gx at f0 f1 ⊢
   clear c0 c1
   obtain⟨rp,rn⟩:=r
   dsimp only at f0 f1 hmo
   by_cases hp:rp=p
   ·have hp':(rp == p)=true:=beq_iff_eq.2 hp
    rw[if_pos hp] at hmo
    by_cases h0:0 < rn
    ·have h0':(0:Int) < (rn:Int):=by omega
     have hkb:k+rn≤1099511627776:=by rw[HK.out];omega
     have HK2:Hid (k+rn=tkOf p (L.take (i+1))):=hid (by rw[hmo,HK.out])
     have HS:=hid fun W=>sum_any (k:Int) (rn:Int) (k:Int) (rn:Int) W (by omega) (by omega) (by omega) rfl rfl
     clear hmo hp hle
     go_wp2_with fail
     refine(HS.out _).mono ?_
     rintro e w5 ⟨rfl,rfl⟩
     go_wp2_with fail
     go_roundw
     case rel=>exact⟨i+1,k+rn,by omega,by go_num,by go_num,HK2.out,HB.out⟩
     case measure=>simp[intOf];omega
    ·have h0n:rn=0:=by omega
     have h0':¬ (0:Int) < (rn:Int):=by omega
     have HK2:Hid (k=tkOf p (L.take (i+1))):=hid (by rw[hmo,HK.out];omega)
     clear hmo hp hle h0n
     go_wp2_with fail
     go_roundw
     case rel=>exact⟨i+1,k,by omega,by go_num,rfl,HK2.out,HB.out⟩
     case measure=>simp[intOf];omega
   ·have hp':(rp == p)=false:=beq_eq_false_iff_ne.2 hp
    rw[if_neg hp] at hmo
    have HK2:Hid (k=tkOf p (L.take (i+1))):=hid (by rw[hmo,HK.out];rfl)
    clear hmo hp hle
    go_wp2_with fail
    go_roundw
    case rel=>exact⟨i+1,k,by omega,by go_num,rfl,HK2.out,HB.out⟩
    case measure=>simp[intOf];omega
  ·have hlti:¬ (i:Int) < (n:Int):=by omega
   have e:L.take i=L:=List.take_of_length_le (by rw[h.len];omega)
   have hk:=HK.out
   rw[e,HT.out] at hk
   subst hk
   clear e HK
   go_wp2_with fail
   go_ret
   exact Ans.mk rfl hb
def firstF (B:Nat→Bool):Nat→Nat→Option Nat
 | _,0=>none
 | b,k+1=>if B b=true then some b else firstF B (b+1) k
def rowsF (B:Nat→Nat→Bool):Nat→Nat→Option (Nat×Nat)
 | _,0=>none
 | a,k+1=>match firstF (B a) a (k+1) with
  | some b=>some (a,b)
  | none=>rowsF B (a+1) k
def badF (D:Int→Int→Bool) (x y:List Rn) (a b:Nat):Bool:=D a b && !(sameR (proj a b x) (proj a b y))
def diffF (D:Int→Int→Bool) (x y:List Rn):Int×Int×Bool:=match rowsF (badF D x y) 0 6 with
 | some (a,b)=>((a:Int),(b:Int),true)
 | none=>(-1,-1,tkOf (-1) x != tkOf (-1) y)
theorem firstF_none {B:Nat→Bool} (k:Nat):∀ b,firstF B b k=none↔∀ c,b≤c→c < b+k→B c=false:=by
 induction k with
 | zero=>intro b;exact⟨fun _ c h1 h2=>by omega,fun _=>rfl⟩
 | succ k ih =>
  intro b
  unfold firstF
  cases h:B b with
  | true=>simp only[if_true];exact⟨nofun,fun e=>absurd (e b (Nat.le_refl _) (by omega)) (by rw[h];decide)⟩
  | false =>
   rw[if_neg (by decide),ih]
   exact⟨fun e c h1 h2=>by
    by_cases hc:c=b
    ·rw[hc];exact h
    ·exact e c (by omega) (by omega),fun e c h1 h2=>e c (by omega) (by omega)⟩
theorem rowsF_none {B:Nat→Nat→Bool} (k:Nat):∀ a,rowsF B a k=none↔∀ c d,a≤c→c≤d→d < a+k→B c d=false:=by
 induction k with
 | zero=>intro a;exact⟨fun _ c d h1 h2 h3=>by omega,fun _=>rfl⟩
 | succ k ih =>
  intro a
  unfold rowsF
  cases h:firstF (B a) a (k+1) with
  | some b =>
   simp only
   refine⟨fun e=>by(cases e),fun e=>?_⟩
   have:firstF (B a) a (k+1)=none:=(firstF_none (k+1) a).2 fun c h1 h2=>e a c (Nat.le_refl _) h1 h2
   rw[h] at this
   cases this
  | none =>
   simp only
   rw[ih]
   have h0:=(firstF_none (k+1) a).1 h
   exact⟨fun e c d h1 h2 h3=>by
    by_cases hc:c=a
    ·subst hc;exact h0 d h2 h3
    ·exact e c d (by omega) h2 (by omega),fun e c d h1 h2 h3=>e c d (by omega) h2 (by omega)⟩
theorem diffF_same (D:Int→Int→Bool) (x y:List Rn):(diffF D x y).2.2=false↔SameW D x y:=by
 unfold diffF
 have key:rowsF (badF D x y) 0 6=none↔∀ a b:Nat,a≤b→b < 6→D a b=true→proj a b x=proj a b y:=by
  rw[rowsF_none]
  refine⟨fun h a b h1 h2 h3=>?_,fun h a b _ h1 h2=>?_⟩
  ·have:=h a b (Nat.zero_le _) h1 (by omega)
   unfold badF at this
   rw[h3] at this
   rw[← sameR_iff]
   simpa using this
  ·unfold badF
   cases hd:D a b with
   | false=>rfl
   | true =>
    rw[(sameR_iff _ _).2 (h a b h1 (by omega) hd)]
    rfl
 cases h:rowsF (badF D x y) 0 6 with
 | some q =>
  refine⟨fun e=>by(cases e),fun e=>?_⟩
  have:=key.2 e.1
  rw[h] at this
  cases this
 | none =>
  show (tkOf (-1) x != tkOf (-1) y)=false↔_
  rw[bne_eq_false_iff_eq]
  exact⟨fun e=>⟨key.1 h,e⟩,fun e=>e.2⟩
theorem firstF_step {B:Nat→Bool} {b:Nat} (hb:b < 6):firstF B b (6 - b)=if B b=true then some b else firstF B (b+1) (6 - (b+1)):=by
 have e:6 - b=(6 - (b+1))+1:=by omega
 rw[e]
 rfl
theorem rowsF_step {B:Nat→Nat→Bool} {a:Nat} (ha:a < 6):rowsF B a (6 - a)=match firstF (B a) a (6 - a) with
  | some b=>some (a,b)
  | none=>rowsF B (a+1) (6 - (a+1)):=by
 have e:6 - a=(6 - (a+1))+1:=by omega
 rw[e]
 rfl
def DifA (v:Int×Int×Bool) (w:World) (e:Ending) (w':World):Prop:=e=.returned (.tuple #[.int .i64 v.1,.int .i64 v.2.1,.bool v.2.2])∧Below w.heap.size w w'
set_option maxRecDepth 100000 in
set_option maxHeartbeats 4000000 in
theorem rdiffer_any (A1 A2 A3:Option Addr) (n1 n2 n3 c1 c2 c3:Nat) (X Y:List Rn) (m:Nat→Nat→Bool) (w:World) (hX:RdR w w.heap.size A1 n1 X) (hY:RdR w w.heap.size A2 n2 Y) (hM:RdM w w.heap.size A3 n3 (fun _=>n3) m)
  (q1:n1≤c1) (q2:n2≤c2) (b1:n1≤1048576) (b2:n2≤1048576) (b3:n3≤1024) (t1:ticks X≤1099511627776) (t2:ticks Y≤1099511627776) :
  Calls Tryz.prog 51 #[.slice A1 n1 c1,.slice A2 n2 c2,.slice A3 n3 c3] w (DifA (diffF (depW n3 m) X Y) w):=by
 obtain⟨v,hv⟩:∃ v,v=diffF (depW n3 m) X Y:=⟨_,rfl⟩
 rw[← hv]
 obtain⟨B,hB⟩:∃ B,B=badF (depW n3 m) X Y:=⟨_,rfl⟩
 unfold diffF at hv
 rw[← hB] at hv
 have HV:=hid hv
 have HB:=hid hB
 have HX:=hid hX
 have HY:=hid hY
 have HM:=hid hM
 clear hv hB hX hY hM
 go_enter Tryz.func51,Tryz.ntmps51
 go_wp2_with fail
 go_loopw [9,10] (fun s _ wx=>∃ a:Nat,a≤6∧s=.int .i64 a∧rowsF B a (6 - a)=rowsF B 0 6∧Below w.heap.size w wx) (fun s _ _=>6 - (intOf s).toNat)
 case atStart=>exact⟨0,by omega,rfl,rfl,Below.refl _ _⟩
 case round =>
  obtain⟨a,ha6,rfl,hrow,hb⟩:=hrel
  have HROW:=hid hrow
  have HBa:=hid hb
  clear hrow hb
  by_cases ha:a < 6
  ·have hai:(a:Int) < 6:=by omega
   go_wp2_with fail
   go_loopw [10] (fun s wx=>∃ b:Nat,a≤b∧b≤6∧s=.int .i64 b∧firstF (B a) b (6 - b)=firstF (B a) a (6 - a)∧Below w.heap.size w wx) (fun s _=>6 - (intOf s).toNat)
   case atStart=>exact⟨a,Nat.le_refl _,ha6,rfl,rfl,HBa.out⟩
   case round =>
    obtain⟨b,hab,hb6,rfl,hfst,hb⟩:=hrel
    clear HBa
    have HF:=hid hfst
    clear hfst
    by_cases hbl:b < 6
    ·have hbi:(b:Int) < 6:=by omega
     have HBAD:Hid (B a b=(depW n3 m a b && !(sameR (proj a b X) (proj a b Y)))):=hid (by rw[HB.out];rfl)
     have HNEXT:Hid (B a b=false→firstF (B a) (b+1) (6 - (b+1))=firstF (B a) a (6 - a)):=hid fun e=>by
      rw[← HF.out,firstF_step hbl,if_neg (by rw[e];decide)]
     have HDONE:Hid (B a b=true→v=((a:Int),(b:Int),true)):=hid fun e=>by
      have h1:firstF (B a) a (6 - a)=some b:=by rw[← HF.out,firstF_step hbl,if_pos e]
      have h2:rowsF B 0 6=some (a,b):=by rw[← HROW.out,rowsF_step ha,h1]
      rw[HV.out,h2]
     have HD:=hid (rdepw_any A3 n3 c3 m a b wr ((HM.out.on hb)) b3 (by omega) (by omega))
     obtain⟨d,hd⟩:∃ d,d=depW n3 m a b:=⟨_,rfl⟩
     rw[← hd] at HD HBAD
     have HBb:=hid hb
     clear hb hd
     go_wp2_with fail
     refine HD.out.mono ?_
     rintro e w4 ⟨rfl,hb4⟩
     have HB4:=hid (HBb.out.trans (hb4.mono HBb.out.size))
     clear hb4 HD
     cases d with
     | false =>
      have HN:=hid (HNEXT.out (by rw[HBAD.out];rfl))
      go_wp2_with fail
      go_roundw
      case rel=>exact⟨b+1,by omega,by omega,by go_num,HN.out,HB4.out⟩
      case measure=>simp[intOf];omega
     | true =>
      have HP1:=hid (rproj_any A1 n1 c1 X a b w4 (HX.out.on HB4.out) q1 b1 t1)
      go_wp2_with fail
      refine HP1.out.mono ?_
      rintro e w5 ⟨A5,c5,rfl,hr5,hc5,hb5,_⟩
      have HB5:=hid (HB4.out.trans (hb5.mono HB4.out.size))
      have HR5:=hid hr5
      have HP2:=hid (rproj_any A2 n2 c2 Y a b w5 (HY.out.on HB5.out) q2 b2 t2)
      clear hb5 hr5 HP1
      go_wp2_with fail
      refine HP2.out.mono ?_
      rintro e w6 ⟨A6,c6,rfl,hr6,hc6,hb6,_⟩
      have HB6:=hid (HB5.out.trans (hb6.mono HB5.out.size))
      have hl5:(proj a b X).length≤1048576:=by
       have h1:=tidy_le (prj a b X)
       have h2:=prj_le a b X
       rw[HX.out.len] at h2
       unfold proj
       omega
      have HS:=hid (xsame_any A5 A6 _ _ c5 c6 _ _ w6 (HR5.out.on hb6) hr6 hl5)
      generalize sameR (proj a b X) (proj a b Y)=s at HS HBAD
      generalize (proj a b X).length=l5 at HS HR5 hc5 ⊢
      generalize (proj a b Y).length=l6 at HS hc6 ⊢
      clear hr6 hb6 HP2 hl5 HR5
      go_wp2_with fail
      refine HS.out.mono ?_
      intro e w7 hq
      obtain⟨rfl,hb7⟩:=hq.ans
      have HB7:=hid (HB6.out.trans (hb7.mono HB6.out.size))
      clear hq hb7 HS
      cases s with
      | true =>
       have HN:=hid (HNEXT.out (by rw[HBAD.out];rfl))
       go_wp2_with fail
       go_roundw
       case rel=>exact⟨b+1,by omega,by omega,by go_num,HN.out,HB7.out⟩
       case measure=>simp[intOf];omega
      | false =>
       have HVV:=hid (HDONE.out (by rw[HBAD.out];rfl))
       go_wp2_with fail
       go_ret3
       exact⟨by rw[HVV.out];rfl,HB7.out⟩
    ·have hbi:¬ (b:Int) < 6:=by omega
     obtain rfl:b=6:=by omega
     have HN:Hid (rowsF B (a+1) (6 - (a+1))=rowsF B 0 6):=hid (by
      have h1:firstF (B a) a (6 - a)=none:=by rw[← HF.out];rfl
      rw[← HROW.out,rowsF_step ha,h1])
     have HBb:=hid hb
     clear hb
     go_wp2_with fail
     go_roundw
     case rel=>exact⟨a+1,by omega,by go_num,HN.out,HBb.out⟩
     case measure=>simp[intOf];omega
  ·have hai:¬ (a:Int) < 6:=by omega
   obtain rfl:a=6:=by omega
   have HVV:Hid (v=(-1,-1,tkOf (-1) X != tkOf (-1) Y)):=hid (by
    have h2:rowsF B 0 6=none:=by rw[← HROW.out];rfl
    rw[HV.out,h2])
   have HT1:=hid (xticks_any A1 n1 c1 X (-1) wr (HX.out.on HBa.out) q1 b1 t1)
   have HT2:=hid fun w' (hb:Below w.heap.size w w')=>xticks_any A2 n2 c2 Y (-1) w' (HY.out.on hb) q2 b2 t2
   generalize tkOf (-1) X=u1 at HT1 HVV
   generalize tkOf (-1) Y=u2 at HT2 HVV
   obtain⟨q,hq⟩:∃ q,q=(u1 != u2):=⟨_,rfl⟩
   have hqi:((u1:Int) != (u2:Int))=q:=by
    rw[hq]
    by_cases h:u1=u2
    ·subst h;simp
    ·rw[bne_iff_ne.2 h];exact bne_iff_ne.2 (by omega)
   rw[← hq] at HVV
   clear hq
   go_wp2_with fail
   refine HT1.out.mono ?_
   rintro e w5 ⟨rfl,hb5⟩
   have HB5:=hid (HBa.out.trans (hb5.mono HBa.out.size))
   clear hb5 HT1
   go_wp2_with fail
   refine(HT2.out w5 HB5.out).mono ?_
   rintro e w6 ⟨rfl,hb6⟩
   have HB6:=hid (HB5.out.trans (hb6.mono HB5.out.size))
   clear hb6 HT2
   go_wp2_with fail
   go_ret3
   exact⟨by rw[HVV.out];rfl,HB6.out⟩
set_option maxRecDepth 100000 in
set_option maxHeartbeats 1000000 in
theorem rsamew_any (A1 A2 A3:Option Addr) (n1 n2 n3 c1 c2 c3:Nat) (X Y:List Rn) (m:Nat→Nat→Bool) (w:World) (hX:RdR w w.heap.size A1 n1 X) (hY:RdR w w.heap.size A2 n2 Y) (hM:RdM w w.heap.size A3 n3 (fun _=>n3) m)
  (q1:n1≤c1) (q2:n2≤c2) (b1:n1≤1048576) (b2:n2≤1048576) (b3:n3≤1024) (t1:ticks X≤1099511627776) (t2:ticks Y≤1099511627776) :
  Calls Tryz.prog 21 #[.slice A1 n1 c1,.slice A2 n2 c2,.slice A3 n3 c3] w (Ans (.bool (!(diffF (depW n3 m) X Y).2.2)) w):=by
 have H:=hid (rdiffer_any A1 A2 A3 n1 n2 n3 c1 c2 c3 X Y m w hX hY hM q1 q2 b1 b2 b3 t1 t2)
 generalize diffF (depW n3 m) X Y=v at H ⊢
 obtain⟨v0,v1,v2⟩:=v
 clear hX hY hM
 go_enter Tryz.func21,Tryz.ntmps21
 go_wp2_with fail
 refine H.out.mono ?_
 rintro e w5 ⟨rfl,hb5⟩
 dsimp only
 go_wp2_with fail
 go_ret
 exact Ans.mk rfl hb5
structure RdP (w:World) (B:Nat) (A:Option Addr) (n:Nat) (ps:List Int):Prop where
 len:ps.length=n
 at_:∀ i,i < n→∃(ad:Addr) (p z:Int),A=some ad∧ad.block < B∧ps[i]? = some p∧w.cell? (ad.add (i*2))=some (.int .i64 p)∧w.cell? ⟨(ad.add (i*2)).block,(ad.add (i*2)).off+1,none⟩=some (.int .i64 z)
section
variable {w w':World} {B n:Nat} {A:Option Addr} {ps:List Int}
theorem RdR.rdp {L:List Rn} (h:RdR w B A n L):RdP w B A n (L.map Rn.p):=⟨by rw[List.length_map];exact h.len,fun i hi=>by
 obtain⟨ad,r,e,hb,hr,c0,c1⟩:=h.at_ hi
 exact⟨ad,r.p,r.n,e,hb,by rw[List.getElem?_map,hr];rfl,c0,c1⟩⟩
theorem RdP.on (h:RdP w w.heap.size A n ps) (hb:Below w.heap.size w w'):RdP w' w'.heap.size A n ps:=⟨h.len,fun i hi=>by
 obtain⟨ad,p,z,e,hB,hp,c0,c1⟩:=h.at_ i hi
 refine⟨ad,p,z,e,Nat.lt_of_lt_of_le hB hb.size,hp,(hb.cell (by rw[add_block];exact hB)).trans c0,(hb.cell (p:=⟨(ad.add (i*2)).block,(ad.add (i*2)).off+1,none⟩) (by show (ad.add (i*2)).block < _;rw[add_block];exact hB)).trans c1⟩⟩
theorem RdP.mid {ad:Addr} (h:RdP w B (some ad) n ps) {k j:Nat} (hj:j≤n):RdP w B (some (ad.add (k*2))) (j - k) ((ps.drop k).take (j - k)):=by
 refine⟨by rw[List.length_take,List.length_drop,h.len];omega,fun i hi=>?_⟩
 obtain⟨ad',p,z,e,hB,hp,c0,c1⟩:=h.at_ (k+i) (by omega)
 injection e with e
 subst e
 have ea:(ad.add (k*2)).add (i*2)=ad.add ((k+i)*2):=by rw[add_add,Nat.add_mul]
 refine⟨_,p,z,rfl,by rw[add_block];exact hB,?_,by rw[ea];exact c0,by rw[ea];exact c1⟩
 rw[List.getElem?_take,if_pos hi,List.getElem?_drop]
 exact hp
end
def wayP (D:Int→Int→Bool) (p q:Int):Bool:=decide (q=p) || (decide (p≠-1) && (decide (q≠-1) && D p q))
def mayP (D:Int→Int→Bool) (ps:List Int) (i j:Nat):Bool:=match ps[i]?,ps[j]? with
 | some x,some y=>decide (i < j) && (decide (x=y) && !((ps.drop (i+1)).take (j - (i+1))).any (wayP D x))
 | _,_=>false
theorem mayB_parts (D:Int→Int→Bool) (L:List Rn) (i j:Nat):mayB D L i j=mayP D (L.map Rn.p) i j:=by
 unfold mayB mayP Tab.mid
 rw[List.getElem?_map,List.getElem?_map]
 cases L[i]? with
 | none=>rfl
 | some x =>
  cases L[j]? with
  | none=>rfl
  | some y =>
   show _=(decide (i < j) && (decide (x.p=y.p) && !(((L.map Rn.p).drop (i+1)).take (j - (i+1))).any (wayP D x.p)))
   rw[← List.map_drop,← List.map_take,List.any_map]
   rfl
def mayZ (D:Int→Int→Bool) (ps:List Int) (I J:Int):Bool:=decide (0≤I) && (decide (I < J) && (decide (J < (ps.length:Int)) && mayP D ps I.toNat J.toNat))
set_option maxRecDepth 100000 in
set_option maxHeartbeats 4000000 in
theorem rmay_any (A A3:Option Addr) (n c n3 c3:Nat) (ps:List Int) (m:Nat→Nat→Bool) (I J:Int) (rt:Bool) (w:World) (h:RdP w w.heap.size A n ps) (hM:RdM w w.heap.size A3 n3 (fun _=>n3) m)
  (hc:n≤c) (hn:n≤1048576) (h3:n3≤1024) (hps:∀ q∈ps,-1≤q∧q≤1024) :
  Calls Tryz.prog 95 #[.slice A n c,.slice A3 n3 c3,.agg #[.int .i64 I,.int .i64 J,.bool rt]] w (Ans (.bool (mayZ (depW n3 m) ps I J)) w):=by
 have hb0:=bl1 w (.cells #[.int .i64 I,.int .i64 J,.bool rt] 108)
 have f0:(w.alloc (.cells #[.int .i64 I,.int .i64 J,.bool rt] 108)).cell? ⟨w.heap.size,0,none⟩=some (.int .i64 I):=World.cell?_alloc_mark _ _ _ _ _
 have f1:(w.alloc (.cells #[.int .i64 I,.int .i64 J,.bool rt] 108)).cell? ⟨w.heap.size,1,none⟩=some (.int .i64 J):=World.cell?_alloc_mark _ _ _ _ _
 have hP0:=h.on hb0
 have hM0:=hM.on hb0
 have hlen:=h.len
 obtain⟨v,hv⟩:∃ v,v=mayZ (depW n3 m) ps I J:=⟨_,rfl⟩
 rw[← hv]
 unfold mayZ at hv
 rw[hlen] at hv
 have HV:=hid hv
 have HLN:=hid hlen
 have HPS:=hid hps
 have hgs:w.heap.size < (w.alloc (.cells #[.int .i64 I,.int .i64 J,.bool rt] 108)).heap.size:=by simp
 clear hv h hM hlen hps
 go_enter Tryz.func95,Tryz.ntmps95
 go_upto_region 1 with fail
 generalize w.alloc (.cells #[.int .i64 I,.int .i64 J,.bool rt] 108)=W at hb0 f0 f1 hP0 hM0 hgs ⊢
 obtain⟨gm,hgm⟩:∃ gm,gm=w.heap.size:=⟨_,rfl⟩
 rw[← hgm] at f0 f1 hgs ⊢
 clear hgm
 have HB0:=hid hb0
 have HP:=hid hP0
 have HM:=hid hM0
 clear hb0 hP0 hM0
 by_cases hI:I < 0
 ·have e0:decide (I < 0)=true:=decide_eq_true hI
  have e:v=false:=by rw[HV.out,decide_eq_false (show ¬ 0≤I by omega)];rfl
  subst e
  go_quiet (fail)
  go_wp2_with fail
  go_ret
  exact Ans.mk rfl (Below.drewN HB0.out nq)
 ·have e0:decide (I < 0)=false:=decide_eq_false hI
  by_cases hJ:J≤I
  ·have e1:decide (J≤I)=true:=decide_eq_true hJ
   have e:v=false:=by rw[HV.out,decide_eq_false (show ¬ I < J by omega)];simp
   subst e
   go_quiet (fail)
   go_wp2_with fail
   go_ret
   exact Ans.mk rfl (Below.drewN HB0.out nq)
  ·have e1:decide (J≤I)=false:=decide_eq_false hJ
   by_cases hJn:(n:Int)≤J
   ·have e2:decide ((n:Int)≤J)=true:=decide_eq_true hJn
    have e:v=false:=by rw[HV.out,decide_eq_false (show ¬ J < (n:Int) by omega)];simp
    subst e
    go_quiet (fail)
    go_wp2_with fail
    go_ret
    exact Ans.mk rfl (Below.drewN HB0.out nq)
   ·have e2:decide ((n:Int)≤J)=false:=decide_eq_false hJn
    obtain⟨i,rfl⟩:∃ i:Nat,I=i:=⟨I.toNat,by omega⟩
    obtain⟨j,rfl⟩:∃ j:Nat,J=j:=⟨J.toNat,by omega⟩
    have hij:i < j:=by omega
    have hjn:j < n:=by omega
    obtain⟨ad,x,zx,rfl,had,hx,cx0,cx1⟩:=HP.out.at_ i (by omega)
    obtain⟨ad',y,zy,ea,_,hy,cy0,cy1⟩:=HP.out.at_ j hjn
    injection ea with ea
    subst ea
    have hini:(i:Int) < (n:Int):=by omega
    have hjni:(j:Int) < (n:Int):=by omega
    have hvv:v=(decide (x=y) && !((ps.drop (i+1)).take (j - (i+1))).any (wayP (depW n3 m) x)):=by
     rw[HV.out,decide_eq_true (show (0:Int)≤(i:Int) by omega),decide_eq_true (show (i:Int) < (j:Int) by omega),decide_eq_true hjni]
     unfold mayP
     rw[show (i:Int).toNat=i from rfl,show (j:Int).toNat=j from rfl,hx,hy]
     simp[hij]
    have hqx:=HPS.out x (List.mem_of_getElem? hx)
    have HVV:=hid hvv
    clear hvv hx hy cx1 cy1 HV
    by_cases hxy:x=y
    ·subst hxy
     have e3:(x != x)=false:=bne_self_eq_false x
     have hw1:IntKind.i64.wrap ((i:Int)+1)=(i:Int)+1:=IntWalk.i64_in _ (by omega)
     obtain⟨d,hd⟩:∃ d,j - (i+1)=d:=⟨_,rfl⟩
     have hvv:=HVV.out
     rw[decide_eq_true (show x=x from rfl),Bool.true_and,hd] at hvv
     obtain⟨Q,hQ⟩:∃ Q,Q=(ps.drop (i+1)).take d:=⟨_,rfl⟩
     rw[← hQ] at hvv
     have hmid:=HP.out.mid (k:=i+1) (j:=j) (by omega)
     rw[hd,← hQ] at hmid
     have hQs:∀ q∈Q,-1≤q∧q≤1024:=fun q hq=>HPS.out q (by rw[hQ] at hq;exact List.mem_of_mem_drop (List.mem_of_mem_take hq))
     have HQS:=hid hQs
     have HMID:=hid hmid
     have HVQ:=hid hvv
     have hdn:d≤1048576:=by omega
     have hij1:(i:Int)+1≤(j:Int):=by omega
     have hjc:(j:Int)≤(c:Int):=by omega
     have hci:¬ c=i+1:=by omega
     have htn:((i:Int)+1).toNat=i+1:=by omega
     clear hQ hvv hmid hQs HVV
     go_quiet (fail)
     have hbq:Below W.heap.size W (W.drewN nq):=Below.drewN (Below.refl _ _) nq
     have f0q:=(hbq.cell (p:=⟨gm,0,none⟩) hgs).trans f0
     have f1q:=(hbq.cell (p:=⟨gm,1,none⟩) hgs).trans f1
     have cx0q:=(hbq.cell (by rw[add_block];exact had)).trans cx0
     generalize W.drewN nq=Wd at hbq f0q f1q cx0q ⊢
     clear f0 f1 cx0 cy0
     go_wp2_with fail
     clear f0q f1q cx0q
     go_loopw [9,56] (fun _ s wr=>∃ k:Nat,k≤d∧s=.int .i64 k∧(Q.take k).any (wayP (depW n3 m) x)=false∧Below W.heap.size W wr) (fun _ s _=>d - (intOf s).toNat)
     case atStart=>exact⟨0,by omega,rfl,rfl,hbq⟩
     case round =>
      obtain⟨k,hk,rfl,hany,hb⟩:=hrel
      have HANY:=hid hany
      clear hany
      by_cases hkd:k < d
      ·have hkdi:(k:Int) < (d:Int):=by omega
       obtain⟨am,q,z,ea,hab,hq,c0,c1⟩:=(HMID.out.on hb).at_ k hkd
       injection ea with ea
       subst ea
       have hmo:(Q.take (k+1)).any (wayP (depW n3 m) x)=((Q.take k).any (wayP (depW n3 m) x) || wayP (depW n3 m) x q):=by
        obtain⟨hi',e⟩:=List.getElem?_eq_some_iff.1 hq
        rw[List.take_succ_eq_append_getElem hi',List.any_append,e]
        simp
       have hme:wayP (depW n3 m) x q=true→Q.any (wayP (depW n3 m) x)=true:=fun h=>List.any_eq_true.2 ⟨q,List.mem_of_getElem? hq,h⟩
       have hqr:=HQS.out q (List.mem_of_getElem? hq)
       have HMO:=hid hmo
       have HME:=hid hme
       have hbl:=bl1 wr (.cells #[.int .i64 q,.int .i64 z] 75)
       have g0:(wr.alloc (.cells #[.int .i64 q,.int .i64 z] 75)).cell? ⟨wr.heap.size,0,none⟩=some (.int .i64 q):=World.cell?_alloc_mark _ _ _ _ _
       have HB1:=hid (hb.trans (hbl.mono hb.size))
       clear hmo hme hbl hq hb
       go_upto_region 7 with fail
       generalize wr.alloc (.cells #[.int .i64 q,.int .i64 z] 75)=W2 at g0 HB1 ⊢
       generalize wr.heap.size=gx at g0 ⊢
       clear c0 c1 hab
       by_cases hqx2:q=x
       ·have u1:(q == x)=true:=beq_iff_eq.2 hqx2
        have e:v=false:=by rw[HVQ.out,HME.out (by unfold wayP;rw[decide_eq_true hqx2];rfl)];rfl
        subst e
        go_wp2_with fail
        go_ret
        exact Ans.mk rfl (HB0.out.trans (HB1.out.mono HB0.out.size))
       ·have u1:(q == x)=false:=beq_eq_false_iff_ne.2 hqx2
        by_cases hx1:x=-1
        ·have u2:(x != -1)=false:=by rw[hx1];rfl
         have HN:Hid ((Q.take (k+1)).any (wayP (depW n3 m) x)=false):=hid (by
          rw[HMO.out,HANY.out]
          unfold wayP
          rw[decide_eq_false hqx2,decide_eq_false (show ¬ x≠-1 from fun h=>h hx1)]
          rfl)
         clear hx1
         go_wp2_with fail
         go_roundw
         case rel=>exact⟨k+1,by omega,by go_num,HN.out,HB1.out⟩
         case measure=>simp[intOf];omega
        ·have u2:(x != -1)=true:=bne_iff_ne.2 hx1
         by_cases hq1:q=-1
         ·have u3:(q != -1)=false:=by rw[hq1];rfl
          have HN:Hid ((Q.take (k+1)).any (wayP (depW n3 m) x)=false):=hid (by
           rw[HMO.out,HANY.out]
           unfold wayP
           rw[decide_eq_false hqx2,decide_eq_false (show ¬ q≠-1 from fun h=>h hq1)]
           simp)
          clear hq1
          go_wp2_with fail
          go_roundw
          case rel=>exact⟨k+1,by omega,by go_num,HN.out,HB1.out⟩
          case measure=>simp[intOf];omega
         ·have u3:(q != -1)=true:=bne_iff_ne.2 hq1
          obtain⟨a,ha⟩:∃ a:Nat,x=a:=⟨x.toNat,by omega⟩
          obtain⟨b,hb⟩:∃ b:Nat,q=b:=⟨q.toNat,by omega⟩
          have hdp:=rdepw_any A3 n3 c3 m a b W2 (HM.out.on HB1.out) h3 (by omega) (by omega)
          rw[← ha,← hb] at hdp
          have hwy:wayP (depW n3 m) x q=depW n3 m x q:=by
           unfold wayP
           rw[decide_eq_false hqx2,decide_eq_true (show x≠-1 from hx1),decide_eq_true (show q≠-1 from hq1)]
           rfl
          have HWY:=hid hwy
          generalize depW n3 m x q=dv at hdp HWY
          have HDP:=hid hdp
          clear hdp ha hb hwy
          cases dv with
          | true =>
           have e:v=false:=by rw[HVQ.out,HME.out HWY.out];rfl
           subst e
           go_wp2_with fail
           refine HDP.out.mono ?_
           rintro e w5 ⟨rfl,hb5⟩
           have HB5:=hid (HB1.out.trans (hb5.mono HB1.out.size))
           clear hb5 HDP
           go_wp2_with fail
           go_ret
           exact Ans.mk rfl (HB0.out.trans (HB5.out.mono HB0.out.size))
          | false =>
           have HN:Hid ((Q.take (k+1)).any (wayP (depW n3 m) x)=false):=hid (by rw[HMO.out,HANY.out,HWY.out];rfl)
           go_wp2_with fail
           refine HDP.out.mono ?_
           rintro e w5 ⟨rfl,hb5⟩
           have HB5:=hid (HB1.out.trans (hb5.mono HB1.out.size))
           clear hb5 HDP
           go_wp2_with fail
           go_roundw
           case rel=>exact⟨k+1,by omega,by go_num,HN.out,HB5.out⟩
           case measure=>simp[intOf];omega
      ·have hkdi:¬ (k:Int) < (d:Int):=by omega
       have e:v=true:=by
        have h:=HANY.out
        rw[List.take_of_length_le (by rw[HMID.out.len];omega)] at h
        rw[HVQ.out,h]
        rfl
       subst e
       go_wp2_with fail
       go_ret
       exact Ans.mk rfl (HB0.out.trans (hb.mono HB0.out.size))
    ·have e3:(x != y)=true:=bne_iff_ne.2 hxy
     have e:v=false:=by rw[HVV.out,decide_eq_false hxy];rfl
     subst e
     go_quiet (fail)
     go_wp2_with fail
     go_ret
     exact Ans.mk rfl (Below.drewN HB0.out nq)
def wordsL:List Rn→List Int
 | []=>[]
 | r::s=>List.replicate r.n r.p++wordsL s
theorem wordsL_len (L:List Rn):(wordsL L).length=ticks L:=by
 induction L with
 | nil=>rfl
 | cons r s ih=>simp only[wordsL,List.length_append,List.length_replicate,ih,ticks]
theorem wordsL_append (a b:List Rn):wordsL (a++b)=wordsL a++wordsL b:=by
 induction a with
 | nil=>rfl
 | cons r s ih=>simp only[List.cons_append,wordsL,ih,List.append_assoc]
theorem wordsL_more {L:List Rn} {i:Nat} {r:Rn} (h:L[i]? = some r):wordsL (L.take (i+1))=wordsL (L.take i)++List.replicate r.n r.p:=by
 obtain⟨hi,e⟩:=List.getElem?_eq_some_iff.1 h
 rw[List.take_succ_eq_append_getElem hi,wordsL_append,e]
 simp[wordsL]
def MadI (W:List Int) (w:World) (e:Ending) (w':World):Prop:=∃ A c,e=.returned (.slice A W.length c)∧RdI w' w'.heap.size A W.length W∧W.length≤c∧Below w.heap.size w w'
theorem OwnV.rdi {w:World} {B n c:Nat} {A:Option Addr} {L:List Int} (h:OwnV 3 1 w B A n c (is L)):RdI w w.heap.size A n L:=⟨by have:=h.len;rw[is_length] at this;omega,h.rd⟩
theorem rep_snoc (n:Nat) (p:Int):List.replicate (n+1) p=List.replicate n p++[p]:=by rw[List.replicate_succ']
set_option maxRecDepth 100000 in
set_option maxHeartbeats 4000000 in
theorem words_any (A:Option Addr) (n cap:Nat) (L:List Rn) (w:World) (h:RdR w w.heap.size A n L) (hc:n≤cap) (hn:n≤1048576) (ht:ticks L≤8192) :
  Calls Tryz.prog 83 #[.slice A n cap] w (MadI (wordsL L) w):=by
 have HT:=hid ht
 clear ht
 go_enter Tryz.func83,Tryz.ntmps83
 go_wp2_with fail
 go_loopw [3,5,6,9] (fun q _ _ s wr=>∃(i m c:Nat) (A':Option Addr),i≤n∧s=.int .i64 i∧q=.slice A' m c∧OwnV 3 1 wr w.heap.size A' m c (is (wordsL (L.take i)))∧Below w.heap.size w wr) (fun _ _ _ s _=>n - (intOf s).toNat)
 case atStart=>exact⟨0,0,0,none,by omega,rfl,rfl,by simpa [wordsL,is] using OwnV.nil _ _ _ _,Below.refl _ _⟩
 case round =>
  obtain⟨i,m,c,A',hi,rfl,rfl,how,hb⟩:=hrel
  by_cases hlt:i < n
  ·obtain⟨ad,r,rfl,had,hr,c0,c1⟩:=(h.on hb).at_ hlt
   have hbl:=bl1 wr (.cells #[.int .i64 r.p,.int .i64 (r.n:Int)] 75)
   have hb1:=hb.trans (hbl.mono hb.size)
   have hmore:=wordsL_more hr
   have htk:=take_more hr
   have hle:=take_ticks L (i+1)
   have hT:=HT.out
   have how1:=how.below rfl hbl
   have hm:=how.len
   rw[is_length,wordsL_len,Nat.mul_one] at hm
   have hmt:m+r.n≤8192:=by omega
   have HM:=hid hmore
   have hwb:=hb.size
   obtain⟨rp,rn⟩:=r
   dsimp only at c0 c1 hmt how1 HM hb1
   have hobk:obk A'≠some wr.heap.size:=fun e=>by
    cases A' with
    | none=>cases e
    | some a =>
     have hmp:0 < m∨m=0:=by omega
     rcases how.2 with ⟨hv,_⟩ | ⟨g',cap',cur,hv,_,hg',_⟩
     ·cases hv
     ·have h1:some a=some ⟨g',0,none⟩:=by injection hv
      injection h1 with h1
      subst h1
      have h2:=(Array.getElem?_eq_some_iff.1 hg').1
      injection e with e
      have e:g'=wr.heap.size:=e
      omega
   clear hr hmore htk hle hT how hbl hb
   generalize hG:wr.alloc (.cells #[.int .i64 rp,.int .i64 (rn:Int)] 75)=W1 at how1 hb1
   have n0:W1.cell? ⟨wr.heap.size,0,none⟩=some (.int .i64 rp):=by rw[← hG];exact World.cell?_alloc_mark _ _ _ _ _
   have n1:W1.cell? ⟨wr.heap.size,1,none⟩=some (.int .i64 (rn:Int)):=by rw[← hG];exact World.cell?_alloc_mark _ _ _ _ _
   have hsz:wr.heap.size < W1.heap.size:=by rw[← hG];simp
   go_wp2_with fail
   generalize wr.heap.size=g at n0 n1 hsz hwb hobk ⊢
   clear hG c0 c1 had
   go_loopw [3,6] (fun q s wx=>∃(j k c2:Nat) (A2:Option Addr),j≤rn∧s=.int .i64 j∧q=.slice A2 k c2∧k=m+j∧OwnV 3 1 wx w.heap.size A2 k c2 (is (wordsL (L.take i)++List.replicate j rp))∧Below w.heap.size w wx∧wx.cell? ⟨g,0,none⟩=some (.int .i64 rp)∧wx.cell? ⟨g,1,none⟩=some (.int .i64 (rn:Int))∧obk A2≠some g) (fun _ s _=>rn - (intOf s).toNat)
   case atStart=>exact⟨0,m,c,A',by omega,rfl,rfl,rfl,by simpa using how1,hb1,n0,n1,hobk⟩
   case round =>
    obtain⟨j,k,c2,A2,hj,rfl,rfl,hk,how2,hbx,n0,n1,hob⟩:=hrel
    by_cases hjn:j < rn
    ·have hk8:(k:Int) < 8192:=by omega
     have hk9:k < 8192:=by omega
     have HKK:=hid hk
     clear hk
     have hbl2:=bl1 wr (.cells #[.int .i64 rp] 3)
     have how3:=how2.below rfl hbl2
     have hrd:=rdV_new wr #[.int .i64 rp] 3 (is [rp]) rfl
     have hb3:=hbx.trans (hbl2.mono hbx.size)
     have hgx:g < wr.heap.size:=by
      have:=World.block_lt_of_cell? wr _ n0
      exact this
     go_wp2_with (at_builtin;go_loud (refine wpList_appX elI rfl (.tmp 24) (.tmp 27) rfl rfl w.heap.size A2 k c2 _ rfl how3 _ 1 1 _ _ rfl hrd rfl Nat.one_pos (is_one _) (by omega) (by unfold maxLen;omega) hb3.size (k+1) rfl (is (wordsL (L.take i)++List.replicate (j+1) rp)) (by rw[rep_snoc,← List.append_assoc];exact(is_append _ _).symm) ?_;intro A4 c4 w4 hw4 hb4 hot))
     go_roundw
     case rel =>
      have hst:∀ o v,wr.cell? ⟨g,o,none⟩=some v→w4.cell? ⟨g,o,none⟩=some v:=fun o v hv=>by
       have h1:w4.cell? ⟨g,o,none⟩=(wr.alloc (.cells #[.int .i64 rp] 3)).cell? ⟨g,o,none⟩:=World.cell?_of_block (hot.gb.block g (by simp;omega) (fun e=>hob e.symm))
       rw[h1,World.cell?_alloc_lt _ _ _ hgx]
       exact hv
      refine⟨j+1,k+1,c4,A4,by omega,by go_num,rfl,by have:=HKK.out;omega,hw4,hb3.trans hb4,hst _ _ n0,hst _ _ n1,?_⟩
      rcases hot.at_ with e | ⟨g4,e,hge⟩
      ·rw[e];exact hob
      ·rw[e]
       intro e5
       injection e5 with e5
       simp at hge
       omega
     case measure=>simp[intOf];omega
    ·obtain rfl:j=rn:=by omega
     have how5:=how2
     rw[← HM.out] at how5
     have HOW5:=hid how5
     clear how5 how2 hk
     go_wp2_with fail
     go_roundw
     case rel=>exact⟨i+1,k,c2,A2,by omega,by go_num,rfl,HOW5.out,hbx⟩
     case measure=>simp[intOf];omega
  ·have hge:n≤i:=by omega
   have e:L.take i=L:=List.take_of_length_le (by rw[h.len];exact hge)
   rw[e] at how
   have hm:=how.len
   rw[is_length,Nat.mul_one] at hm
   go_wp2_with fail
   go_ret
   exact⟨A',c,by rw[hm];rfl,by rw[hm];exact how.rdi,by rw[hm];exact how.cap,hb⟩
def distF (W:List Int) (q:Int) (t:Nat):Nat→Nat→Nat
 | 0,d=>d
 | f+1,d=>if W[(t+d) % W.length]? = some q then d else distF W q t f (d+1)
def dist (W:List Int) (q:Int) (t:Nat):Nat:=distF W q t W.length 1
def lateW (W:List Int) (p q:Int):Nat→Nat
 | 0=>0
 | k+1=>if W[k]? = some p then max (lateW W p q k) (dist W q k) else lateW W p q k
def hasL (q:Int):List Int→Bool
 | []=>false
 | x::l=>decide (x=q) || hasL q l
def lateL (W:List Int) (p q:Int):Int:=if hasL p W=false then 0 else if hasL q W=false then -1 else (lateW W p q W.length:Int)
theorem hasL_append (q:Int) (a b:List Int):hasL q (a++b)=(hasL q a || hasL q b):=by
 induction a with
 | nil=>rfl
 | cons x a ih=>simp only[List.cons_append,hasL,ih,Bool.or_assoc]
theorem hasL_more {W:List Int} {i:Nat} {x:Int} (q:Int) (h:W[i]? = some x):hasL q (W.take (i+1))=(hasL q (W.take i) || decide (x=q)):=by
 obtain⟨hi,e⟩:=List.getElem?_eq_some_iff.1 h
 rw[List.take_succ_eq_append_getElem hi,hasL_append,e]
 simp[hasL]
theorem hasL_get {W:List Int} {q:Int} (h:hasL q W=true):∃ i,i < W.length∧W[i]? = some q:=by
 induction W with
 | nil=>cases h
 | cons x W ih =>
  simp only[hasL,Bool.or_eq_true,decide_eq_true_eq] at h
  rcases h with rfl | h
  ·exact⟨0,by simp,rfl⟩
  ·obtain⟨i,hi,e⟩:=ih h
   exact⟨i+1,by simp only[List.length_cons];omega,by simpa using e⟩
theorem dist_ex {W:List Int} {q:Int} (h:hasL q W=true) (t:Nat):∃ e,1≤e∧e≤W.length∧W[(t+e) % W.length]? = some q:=by
 obtain⟨i,hi,e⟩:=hasL_get h
 have hn:0 < W.length:=by omega
 have h1:=Nat.mod_lt t hn
 have h2:=Nat.div_add_mod t W.length
 by_cases hlt:t % W.length < i
 ·refine⟨i - t % W.length,by omega,by omega,?_⟩
  have h3:(t+(i - t % W.length)) % W.length=i:=by
   have h4:t+(i - t % W.length)=i+W.length*(t / W.length):=by omega
   rw[h4,Nat.add_mul_mod_self_left,Nat.mod_eq_of_lt hi]
  rw[h3]
  exact e
 ·refine⟨W.length+i - t % W.length,by omega,by omega,?_⟩
  have h3:(t+(W.length+i - t % W.length)) % W.length=i:=by
   have h4:t+(W.length+i - t % W.length)=i+W.length*(t / W.length+1):=by
    rw[Nat.mul_add,Nat.mul_one]
    omega
   rw[h4,Nat.add_mul_mod_self_left,Nat.mod_eq_of_lt hi]
  rw[h3]
  exact e
theorem distF_yes {W:List Int} {q:Int} {t f d:Nat} (h:W[(t+d) % W.length]? = some q):distF W q t f d=d:=by
 cases f with
 | zero=>rfl
 | succ f=>simp only[distF];rw[if_pos h]
theorem distF_no {W:List Int} {q:Int} {t f d:Nat} (h:¬ W[(t+d) % W.length]? = some q):distF W q t (f+1) d=distF W q t f (d+1):=by simp only[distF];rw[if_neg h]
set_option maxRecDepth 100000 in
set_option maxHeartbeats 4000000 in
theorem late_any (A:Option Addr) (n cap:Nat) (L:List Rn) (p q:Int) (w:World) (h:RdR w w.heap.size A n L) (hc:n≤cap) (hn:n≤1048576) (ht:ticks L≤8192) :
  Calls Tryz.prog 49 #[.slice A n cap,.int .i64 p,.int .i64 q] w (Ans (.int .i64 (lateL (wordsL L) p q)) w):=by
 have hW:=words_any A n cap L w h hc hn ht
 have hl:=wordsL_len L
 unfold MadI at hW
 generalize wordsL L=W at hW hl ⊢
 have hm:W.length≤8192:=by omega
 have hlate0:hasL p W=false→lateL W p q=0:=fun e=>if_pos e
 have hlate1:hasL p W=true→hasL q W=false→lateL W p q=-1:=fun e e2=>by unfold lateL;rw[if_neg (by rw[e];simp),if_pos e2]
 have hlate2:hasL p W=true→hasL q W=true→lateL W p q=(lateW W p q W.length:Int):=fun e e2=>by unfold lateL;rw[if_neg (by rw[e];simp),if_neg (by rw[e2];simp)]
 generalize lateL W p q=R at hlate0 hlate1 hlate2 ⊢
 generalize hM:W.length=m at hW hm hlate2
 have HM:=hid hM
 have HW:=hid hW
 have HL0:=hid hlate0
 have HL1:=hid hlate1
 have HL2:=hid hlate2
 clear hW hlate0 hlate1 hlate2 hM h hl
 go_enter Tryz.func49,Tryz.ntmps49
 go_wp2_with fail
 refine HW.out.mono ?_
 rintro e w1 ⟨A1,c1,rfl,hr1,hc1,hb1⟩
 go_wp2_with fail
 go_loopw [9,10,12,20] (fun s9 s10 _ s wr=>∃ i:Nat,i≤m∧s=.int .i64 i∧s9=.bool (hasL q (W.take i))∧s10=.bool (hasL p (W.take i))∧wr=w1) (fun _ _ _ s _=>m - (intOf s).toNat)
 case atStart=>exact⟨0,by omega,rfl,rfl,rfl,rfl⟩
 case round =>
  obtain⟨i,hi,rfl,rfl,rfl,hw⟩:=hrel
  have hw':=hw.symm
  clear hw
  subst hw'
  by_cases hlt:i < m
  ·obtain⟨ad,x,rfl,had,hx,c0⟩:=hr1.at_ hlt
   have e1:=hasL_more q hx
   have e2:=hasL_more p hx
   have E1:=hid e1
   have E2:=hid e2
   clear e1 e2 hx
   generalize hasL q (W.take i)=b1 at E1 ⊢
   generalize hasL p (W.take i)=b2 at E2 ⊢
   have f1:(x == q)=decide (x=q):=rfl
   have f2:(x == p)=decide (x=p):=rfl
   cases b1 <;> cases b2 <;>
    (go_wp2_with fail
     go_roundw
     case rel=>exact⟨i+1,by omega,by go_num,by rw[E1.out];simp,by rw[E2.out];simp,trivial⟩
     case measure=>simp[intOf];omega)
  ·have hge:m≤i:=by omega
   have e:W.take i=W:=List.take_of_length_le (by rw[HM.out];exact hge)
   rw[e]
   clear e
   cases hp:hasL p W with
   | false =>
    have e:=HL0.out hp
    subst e
    go_wp2_with fail
    go_ret
    exact⟨rfl,hb1⟩
   | true =>
    cases hq:hasL q W with
    | false =>
     have e:=HL1.out hp hq
     subst e
     go_wp2_with fail
     go_ret
     exact⟨rfl,hb1⟩
    | true =>
     have e:=HL2.out hp hq
     have HE:=hid e
     have HEX:=hid fun t=>dist_ex hq t
     clear e hp hq HL0 HL1 HL2
     go_wp2_with fail
     go_loopw [8,13,14,15,43] (fun s8 _ _ _ s wr=>∃ t k:Nat,t≤m∧s=.int .i64 t∧s8=.int .i64 k∧k=lateW W p q t∧k≤m∧wr=w1) (fun _ _ _ _ s _=>m - (intOf s).toNat)
     case atStart=>exact⟨0,0,by omega,rfl,rfl,rfl,by omega,rfl⟩
     case round =>
      obtain⟨t,k,ht,rfl,rfl,hk,hkm,hw⟩:=hrel
      have hw':=hw.symm
      clear hw
      subst hw'
      have HK:=hid hk
      clear hk
      by_cases hlt:t < m
      ·obtain⟨ad,x,rfl,had,hx,c0⟩:=hr1.at_ hlt
       have HX:=hid hx
       clear hx
       by_cases hxp:x=p
       ·subst hxp
        have hne:(x != x)=false:=by simp
        go_wp2_with fail
        go_loopw [15] (fun s wr=>∃ d f:Nat,1≤d∧d+f=m+1∧s=.int .i64 d∧distF W q t f d=dist W q t∧(∃ e,d≤e∧e≤m∧W[(t+e) % m]? = some q)∧wr=w1) (fun s _=>m+1 - (intOf s).toNat)
        case atStart =>
         obtain⟨e,h1,h2,h3⟩:=HEX.out t
         rw[HM.out] at h2 h3
         exact⟨1,m,by omega,by omega,rfl,by unfold dist;rw[HM.out],⟨e,h1,h2,h3⟩,rfl⟩
        case round =>
         obtain⟨d,f,hd1,hdf,rfl,hdist,hex,hw⟩:=hrel
         have hw':=hw.symm
         clear hw
         subst hw'
         have hdm:d≤m:=by obtain⟨e,h1,h2,_⟩:=hex;omega
         obtain⟨r,hr⟩:∃ r,r=(t+d) % m:=⟨_,rfl⟩
         have hrm:r < m:=by rw[hr];exact Nat.mod_lt _ (by omega)
         obtain⟨ad2,y,e2,_,hy,d0⟩:=hr1.at_ hrm
         injection e2 with e2
         subst e2
         have hr2:((t:Int)+(d:Int)) % (m:Int)=(r:Int):=by rw[hr,Int.natCast_emod];rfl
         have hr3:((t:Int)+(d:Int)).tmod (m:Int)=(r:Int):=by rw[Int.tmod_eq_emod_of_nonneg (by omega)];exact hr2
         have HD:=hid hdist
         have HX2:=hid hex
         have HY:=hid hy
         have HRR:=hid hr
         have hm0:¬ m=0:=by omega
         clear hdist hex hy hr
         by_cases hyq:y=q
         ·subst hyq
          have hne2:(y != y)=false:=by simp
          have hdd:distF W y t f d=d:=distF_yes (by rw[HM.out,← HRR.out];exact HY.out)
          have hD:=HD.out
          rw[hdd] at hD
          have HD2:=hid hD
          have hx1:max (k:Int) (d:Int)=((max k d:Nat):Int):=by omega
          have HLW:Hid (max k d=lateW W x y (t+1)):=hid (by simp only[lateW];rw[if_pos HX.out,HK.out,hD])
          have hmx:max k d≤m:=by omega
          clear hD hdd HD
          go_wp2_with fail
          go_roundw
          case rel=>exact⟨t+1,max k d,by omega,by go_num,by congr 1;first | omega | (split <;> omega),HLW.out,hmx,trivial⟩
          case measure=>simp[intOf];omega
         ·have hne2:(y != q)=true:=bne_iff_ne.2 hyq
          have hno:¬ W[(t+d) % W.length]? = some q:=by
           rw[HM.out,← HRR.out,HY.out]
           intro e
           injection e with e
           exact hyq e
          have hx2:∃ e,d+1≤e∧e≤m∧W[(t+e) % m]? = some q:=by
           obtain⟨e,h1,h2,h3⟩:=HX2.out
           refine⟨e,?_,h2,h3⟩
           rcases Nat.lt_or_ge d e with h4 | h4
           ·exact h4
           ·have:e=d:=by omega
            subst this
            rw[HM.out] at hno
            exact absurd h3 hno
          obtain⟨f',rfl⟩:∃ f',f=f'+1:=⟨f - 1,by obtain⟨e,h1,h2,_⟩:=hx2;omega⟩
          have hD:=HD.out
          rw[distF_no hno] at hD
          have HD2:=hid hD
          have HX3:=hid hx2
          clear hD HD hno hx2 HX2
          go_wp2_with fail
          go_roundw
          case rel=>exact⟨d+1,f',by omega,by omega,by go_num,HD2.out,HX3.out,trivial⟩
          case measure=>simp[intOf];omega
       ·have hne:(x != p)=true:=bne_iff_ne.2 hxp
        have HLW:Hid (k=lateW W p q (t+1)):=hid (by
         simp only[lateW]
         rw[if_neg (by rw[HX.out];intro e;injection e with e;exact hxp e)]
         exact HK.out)
        go_wp2_with fail
        go_roundw
        case rel=>exact⟨t+1,k,by omega,by go_num,rfl,HLW.out,hkm,trivial⟩
        case measure=>simp[intOf];omega
      ·obtain rfl:t=m:=by omega
       have hR:R=(k:Int):=by rw[HE.out,HK.out]
       have HR:=hid hR
       clear hR
       go_wp2_with fail
       go_ret
       exact⟨by rw[HR.out];rfl,hb1⟩
set_option maxRecDepth 100000 in
set_option maxHeartbeats 1600000 in
theorem total_any (A:Option Addr) (n cap:Nat) (L:List Rn) (w:World) (h:RdR w w.heap.size A n L) (hc:n≤cap) (hn:n≤1048576) (ht:ticks L≤1099511627776) :
  Calls Tryz.prog 18 #[.slice A n cap] w (Ans (.int .i64 (ticks L:Nat)) w):=by
 generalize hT:ticks L=T at ht
 have HT:=hid hT
 clear hT
 go_enter Tryz.func18,Tryz.ntmps18
 go_wp2_with fail
 go_loopw [3,5,8] (fun q _ s wr=>∃ i k:Nat,i≤n∧s=.int .i64 i∧q=.int .i64 k∧k=ticks (L.take i)∧Below w.heap.size w wr) (fun _ _ s _=>n - (intOf s).toNat)
 case atStart=>exact⟨0,0,by omega,rfl,rfl,by simp[ticks],Below.refl _ _⟩
 case round =>
  obtain⟨i,k,hi,rfl,rfl,hk,hb⟩:=hrel
  have HK:=hid hk
  clear hk
  by_cases hlt:i < n
  ·obtain⟨ad,r,rfl,had,hr,c0,c1⟩:=(h.on hb).at_ hlt
   have htk:=take_more hr
   have hle:=take_ticks L (i+1)
   rw[HT.out] at hle
   have hk2:k+r.n=ticks (L.take (i+1)):=by rw[htk,HK.out]
   have hkb:k+r.n≤1099511627776:=by omega
   have HK2:=hid hk2
   have hbl:=bl1 wr (.cells #[.int .i64 r.p,.int .i64 (r.n:Int)] 75)
   have HB:=hid (hb.trans (hbl.mono hb.size))
   obtain⟨rp,rn⟩:=r
   dsimp only at c0 c1 hkb HK2 HB
   have HS:=hid fun W=>sum_any (k:Int) (rn:Int) (k:Int) (rn:Int) W (by omega) (by omega) (by omega) rfl rfl
   clear hr htk hle hk2 hbl
   go_wp2_with fail
   refine(HS.out _).mono ?_
   rintro e w5 ⟨rfl,rfl⟩
   go_wp2_with fail
   go_roundw
   case rel=>exact⟨i+1,k+rn,by omega,by go_num,by go_num,HK2.out,HB.out⟩
   case measure=>simp[intOf];omega
  ·have hge:n≤i:=by omega
   have e:L.take i=L:=List.take_of_length_le (by rw[h.len];exact hge)
   have hk:=HK.out
   rw[e,HT.out] at hk
   subst hk
   clear e HK
   go_wp2_with fail
   go_ret
   exact Ans.mk rfl hb
def cntF (p:Int):List Int→Nat
 | []=>0
 | x::l=>(if x=p then 1 else 0)+cntF p l
theorem cntF_append (p:Int) (a b:List Int):cntF p (a++b)=cntF p a+cntF p b:=by
 induction a with
 | nil=>simp[cntF]
 | cons x a ih=>simp only[List.cons_append,cntF,ih];omega
theorem cntF_le (p:Int) (a:List Int):cntF p a≤a.length:=by
 induction a with
 | nil=>simp[cntF]
 | cons x a ih=>simp only[cntF,List.length_cons];split <;> omega
theorem cntF_more {W:List Int} {i:Nat} {x:Int} (p:Int) (h:W[i]? = some x):cntF p (W.take (i+1))=cntF p (W.take i)+if x=p then 1 else 0:=by
 obtain⟨hi,e⟩:=List.getElem?_eq_some_iff.1 h
 rw[List.take_succ_eq_append_getElem hi,cntF_append,e]
 simp[cntF]
def budW (W:List Int) (p:Int) (P:Nat):Nat→Nat
 | 0=>P+1
 | k+1=>min (budW W p P k) (cntF p ((W.drop (k*P)).take P))
def budL (W:List Int) (p z:Int):Int:=if z < 1 then -1 else if W.length=0 then -1 else if W.length % z.toNat≠0 then -1 else (budW W p z.toNat (W.length / z.toNat):Int)
set_option maxRecDepth 100000 in
set_option maxHeartbeats 4000000 in
theorem budget_any (A:Option Addr) (n cap:Nat) (L:List Rn) (p z:Int) (w:World) (h:RdR w w.heap.size A n L) (hc:n≤cap) (hn:n≤1048576) (ht:ticks L≤8192) (hz:In64 z) :
  Calls Tryz.prog 50 #[.slice A n cap,.int .i64 p,.int .i64 z] w (Ans (.int .i64 (budL (wordsL L) p z)) w):=by
 have hW:=words_any A n cap L w h hc hn ht
 have hl:=wordsL_len L
 unfold MadI at hW
 generalize wordsL L=W at hW hl ⊢
 have hm:W.length≤8192:=by omega
 have hb0:z < 1→budL W p z=-1:=fun e=>if_pos e
 have hb1':¬ z < 1→W.length=0→budL W p z=-1:=fun e e2=>by unfold budL;rw[if_neg e,if_pos e2]
 have hb2':¬ z < 1→¬ W.length=0→W.length % z.toNat≠0→budL W p z=-1:=fun e e2 e3=>by unfold budL;rw[if_neg e,if_neg e2,if_pos e3]
 have hb3':¬ z < 1→¬ W.length=0→W.length % z.toNat=0→budL W p z=(budW W p z.toNat (W.length / z.toNat):Int):=fun e e2 e3=>by unfold budL;rw[if_neg e,if_neg e2,if_neg (by simpa using e3)]
 generalize budL W p z=R at hb0 hb1' hb2' hb3' ⊢
 generalize hM:W.length=m at hW hm hb1' hb2' hb3'
 have HM:=hid hM
 have HW:=hid hW
 have H0:=hid hb0
 have H1:=hid hb1'
 have H2:=hid hb2'
 have H3:=hid hb3'
 unfold In64 at hz
 clear hW hb0 hb1' hb2' hb3' hM h hl
 go_enter Tryz.func50,Tryz.ntmps50
 go_wp2_with fail
 refine HW.out.mono ?_
 rintro e w1 ⟨A1,c1,rfl,hr1,hc1,hb1⟩
 by_cases hz1:z < 1
 ·have e:=H0.out hz1
  subst e
  go_wp2_with fail
  go_ret
  exact⟨rfl,hb1⟩
 ·obtain⟨P,rfl⟩:=Int.eq_ofNat_of_zero_le (show 0≤z by omega)
  have hP1:1≤P:=by omega
  by_cases hm0:m=0
  ·have e:=H1.out (by omega) hm0
   have hmb:((m:Int) == 0)=true:=beq_iff_eq.2 (by omega)
   subst e
   subst hm0
   go_wp2_with fail
   go_ret
   exact⟨rfl,hb1⟩
  ·have hmb:((m:Int) == 0)=false:=beq_eq_false_iff_ne.2 (by omega)
   have hP0:¬ P=0:=by omega
   by_cases hmp:m % P=0
   ·have e:=H3.out (by omega) hm0 hmp
    rw[Int.toNat_natCast] at e
    have h1:(m:Int) % (P:Int)=0:=by rw[← Int.natCast_emod,hmp];rfl
    have h2:(m:Int).tmod (P:Int)=0:=by rw[Int.tmod_eq_emod_of_nonneg (Int.natCast_nonneg _)];exact h1
    have h3:((m:Int).tmod (P:Int) != 0)=false:=by rw[h2];rfl
    have h4:((m:Int) % (P:Int) != 0)=false:=by rw[h1];rfl
    obtain⟨K,hK⟩:∃ K,K=m / P:=⟨_,rfl⟩
    have hKP:K*P=m:=by rw[hK];exact Nat.div_mul_cancel (Nat.dvd_of_mod_eq_zero hmp)
    rw[← hK] at e
    have HE:=hid e
    have HKP:=hid hKP
    have hPm:P≤m:=by
     rcases Nat.eq_zero_or_pos K with h0 | h0
     ·rw[h0] at hKP;omega
     ·have:=Nat.le_mul_of_pos_left P h0
      omega
    clear e hKP hK hmp H0 H1 H2 H3
    go_wp2_with fail
    go_loopw [8,9,10,12] (fun s8 s9 _ _ wr=>∃ k t l:Nat,k≤K∧t=k*P∧l=budW W p P k∧s9=.int .i64 t∧s8=.int .i64 l∧t≤m∧l≤8193∧wr=w1) (fun _ s9 _ _ _=>m - (intOf s9).toNat)
    case atStart=>exact⟨0,0,P+1,by omega,by omega,rfl,rfl,by go_num,by omega,by omega,rfl⟩
    case round =>
     obtain⟨k,t,l,hk,ht',hl',rfl,rfl,htm,hl8,hw⟩:=hrel
     have hw':=hw.symm
     clear hw
     subst hw'
     have HTK:=hid ht'
     have HLK:=hid hl'
     clear ht' hl'
     by_cases hlt:t < m
     ·have hkK:k < K:=by
       rcases Nat.lt_or_ge k K with h5 | h5
       ·exact h5
       ·have:=Nat.mul_le_mul_right P h5
        rw[HKP.out,← HTK.out] at this
        omega
      have htP:t+P≤m:=by
       have:=Nat.mul_le_mul_right P (show k+1≤K from hkK)
       rw[HKP.out,Nat.succ_mul,← HTK.out] at this
       exact this
      obtain⟨ad,x0,rfl,_⟩:=hr1.at_ hlt
      have hct:¬ c1=t:=by omega
      go_wp2_with fail
      go_loopw [10,12,45] (fun s10 _ s wr=>∃ j q:Nat,j≤P∧s=.int .i64 j∧s10=.int .i64 q∧q=cntF p (((W.drop t).take P).take j)∧q≤j∧wr=w1) (fun _ _ s _=>P - (intOf s).toNat)
      case atStart=>exact⟨0,0,by omega,rfl,rfl,by simp[cntF],by omega,rfl⟩
      case round =>
       obtain⟨j,q,hj,rfl,rfl,hq,hqj,hw⟩:=hrel
       have hw':=hw.symm
       clear hw
       subst hw'
       have HQ:=hid hq
       clear hq
       by_cases hjP:j < P
       ·obtain⟨ad2,x,e2,_,hx,d0⟩:=hr1.at_ (i:=t+j) (by omega)
        injection e2 with e2
        subst e2
        rw[← add_add] at d0
        have hvx:((W.drop t).take P)[j]? = some x:=by rw[List.getElem?_take,if_pos hjP,List.getElem?_drop];exact hx
        have hcm:=cntF_more p hvx
        rw[← HQ.out] at hcm
        have HCM:=hid hcm
        clear hcm hvx hx
        by_cases hxp:x=p
        ·subst hxp
         have hne:(x == x)=true:=by simp
         have hc2:=HCM.out
         rw[if_pos rfl] at hc2
         have HC2:=hid hc2
         clear hc2 HCM
         go_wp2_with fail
         go_roundw
         case rel=>exact⟨j+1,q+1,by omega,by go_num,by go_num,HC2.out.symm,by omega,trivial⟩
         case measure=>simp[intOf];omega
        ·have hne:(x == p)=false:=beq_eq_false_iff_ne.2 hxp
         have hc2:=HCM.out
         rw[if_neg hxp] at hc2
         have HC2:=hid hc2
         clear hc2 HCM
         go_wp2_with fail
         go_roundw
         case rel=>exact⟨j+1,q,by omega,by go_num,by go_num,HC2.out.symm,by omega,trivial⟩
         case measure=>simp[intOf];omega
       ·have e:((W.drop t).take P).take j=(W.drop t).take P:=List.take_of_length_le (by rw[List.length_take];omega)
        have hq:=HQ.out
        rw[e] at hq
        have HLN:Hid (min l q=budW W p P (k+1)):=hid (by simp only[budW];rw[← HLK.out,← HTK.out,← hq])
        have HTN:Hid (t+P=(k+1)*P):=hid (by rw[Nat.succ_mul,← HTK.out])
        have hml:min l q≤8193:=by omega
        clear hq e HQ
        go_wp2_with fail
        go_roundw
        case rel=>exact⟨k+1,t+P,min l q,by omega,HTN.out,HLN.out,by go_num,by congr 1;first | omega | (split <;> omega),htP,hml,trivial⟩
        case measure=>simp[intOf];omega
     ·have hkK:k=K:=by
       rcases Nat.lt_or_ge k K with h5 | h5
       ·have:=Nat.mul_le_mul_right P (show k+1≤K from h5)
        rw[HKP.out,Nat.succ_mul,← HTK.out] at this
        omega
       ·omega
      have hR:R=(l:Int):=by rw[HE.out,HLK.out,hkK]
      have HR:=hid hR
      have htm':¬ (t:Int) < (m:Int):=by omega
      clear hR hkK
      go_wp2_with fail
      go_ret
      exact⟨by rw[HR.out];rfl,hb1⟩
   ·have e:=H2.out (by omega) hm0 (by rw[Int.toNat_natCast];exact hmp)
    have h1:¬ (m:Int) % (P:Int)=0:=by rw[← Int.natCast_emod];omega
    have h2:¬ (m:Int).tmod (P:Int)=0:=by rw[Int.tmod_eq_emod_of_nonneg (Int.natCast_nonneg _)];exact h1
    have h3:((m:Int).tmod (P:Int) != 0)=true:=bne_iff_ne.2 h2
    have h4:((m:Int) % (P:Int) != 0)=true:=bne_iff_ne.2 h1
    subst e
    go_wp2_with fail
    go_ret
    exact⟨rfl,hb1⟩
structure ChV where
 from_:Int
 to_:Int
 queue:Bool
 cap:Int
 max:Int
 late:Int
structure PtV where
 name:ByteArray
 bud:Int
 per:Int
 sched:Bool
 stop:Bool
 pa:Option Addr
 pn:Nat
 pc:Nat
 h0:Int
 h1:Int
 h2:Int
 h3:Int
 h4:Int
abbrev cv (x:ChV):Value:=.agg #[.int .i64 x.from_,.int .i64 x.to_,.bool x.queue,.int .i64 x.cap,.int .u32 x.max,.int .i64 x.late]
abbrev pv (x:PtV):Value:=.agg #[.string x.name,.int .i64 x.bud,.int .i64 x.per,.bool x.sched,.bool x.stop,.slice x.pa x.pn x.pc,.int .i64 x.h0,.int .i64 x.h1,.int .i64 x.h2,.int .i64 x.h3,.int .i64 x.h4]
def SomB (w:World) (e:Ending) (w':World):Prop:=∃ b,e=.returned (.bool b)∧Below w.heap.size w w'
set_option maxRecDepth 100000 in
set_option maxHeartbeats 4000000 in
theorem chanRight_any (x:ChV) (n:Int) (w:World):Calls Tryz.prog 132 #[cv x,.int .i64 n] w (SomB w):=by
 obtain⟨f,t,q,c,m,l⟩:=x
 go_enter Tryz.func132,Tryz.ntmps132
 cases q <;> go_wp2 <;> (go_ret;exact⟨_,rfl,bl1 _ _⟩)
section
variable {α:Type} {f:α→List Value} {s:Nat}
theorem flat_get (hf:∀ x,(f x).length=s) (l:List α) (i k:Nat) (x:α) (hx:l[i]? = some x) (hk:k < s):(l.flatMap f)[i*s+k]? = (f x)[k]?:=by
 induction l generalizing i with
 | nil=>simp at hx
 | cons y l ih =>
  rw[List.flatMap_cons]
  cases i with
  | zero =>
   simp at hx
   subst hx
   rw[Nat.zero_mul,Nat.zero_add,List.getElem?_append_left (by rw[hf];exact hk)]
  | succ i =>
   rw[List.getElem?_append_right (by rw[hf,Nat.succ_mul];omega),hf]
   have:=ih i (by simpa using hx)
   rw[← this]
   congr 1
   rw[Nat.succ_mul]
   omega
end
structure RdB {α:Type} (f:α→List Value) (w:World) (B:Nat) (A:Option Addr) (n:Nat) (l:List α):Prop where
 len:l.length=n
 rd:RdV w B A (l.flatMap f)
section
variable {α:Type} {f:α→List Value} {s:Nat} {w w':World} {B n:Nat} {A:Option Addr} {l:List α}
theorem RdB.on (h:RdB f w w.heap.size A n l) (hb:Below w.heap.size w w'):RdB f w' w'.heap.size A n l:=⟨h.len,(h.rd.below hb).more hb.size⟩
theorem RdB.at_ (h:RdB f w B A n l) (hf:∀ x,(f x).length=s) (hs:0 < s) {i:Nat} (hi:i < n):∃(ad:Addr) (x:α),A=some ad∧ad.block < B∧l[i]? = some x∧(∀ v,(f x)[0]? = some v→w.cell? (ad.add (i*s))=some v) ∧
  ∀ k v,0 < k→(f x)[k]? = some v→w.cell? ⟨(ad.add (i*s)).block,(ad.add (i*s)).off+k,none⟩=some v:=by
 have hl:i < l.length:=by rw[h.len];exact hi
 have hx:l[i]? = some l[i]:=List.getElem?_eq_getElem hl
 have hpos:0 < (l.flatMap f).length:=by
  cases l with
  | nil=>simp at hl
  | cons y l=>rw[List.flatMap_cons,List.length_append,hf];omega
 obtain⟨ad,e,hb,hc⟩:=h.rd hpos
 refine⟨ad,l[i],e,hb,hx,fun v hv=>?_,fun k v hk hv=>?_⟩
 ·have:=flat_get hf l i 0 _ hx hs
  rw[Nat.add_zero] at this
  exact hc _ v (this.trans hv)
 ·have hks:k < s:=by rw[← hf l[i]];exact(List.getElem?_eq_some_iff.1 hv).1
  have:=flat_get hf l i k _ hx hks
  have e1:(⟨(ad.add (i*s)).block,(ad.add (i*s)).off+k,none⟩:Addr)=ad.add (i*s+k):=by
   rw[← add_add]
   generalize ad.add (i*s)=p
   unfold Addr.add
   rw[if_neg (by omega)]
  rw[e1]
  exact hc _ v (this.trans hv)
end
def cc (x:ChV):List Value:=[.int .i64 x.from_,.int .i64 x.to_,.bool x.queue,.int .i64 x.cap,.int .u32 x.max,.int .i64 x.late]
def pcl (x:PtV):List Value:=[.string x.name,.int .i64 x.bud,.int .i64 x.per,.bool x.sched,.bool x.stop,.slice x.pa x.pn x.pc,.int .i64 x.h0,.int .i64 x.h1,.int .i64 x.h2,.int .i64 x.h3,.int .i64 x.h4]
theorem cc_len (x:ChV):(cc x).length=6:=rfl
theorem pcl_len (x:PtV):(pcl x).length=11:=rfl
def SomI (w:World) (e:Ending) (w':World):Prop:=∃ z,e=.returned (.int .i64 z)∧Below w.heap.size w w'
set_option maxRecDepth 100000 in
set_option maxHeartbeats 4000000 in
theorem holds_any (A1 A2 A3 A4:Option Addr) (n1 n2 n3 n4 c1 c2 c3 c4:Nat) (P:List PtV) (C:List ChV) (L:List Rn) (w:World) (hP:RdB pcl w w.heap.size A1 n1 P) (hC:RdB cc w w.heap.size A2 n2 C) (hL:RdR w w.heap.size A4 n4 L)
  (q1:n1≤1048576) (q2:n2≤1048576) (q4:n4≤c4) (q5:n4≤1048576) (ht:ticks L≤8192) (hz:∀ x∈P,In64 x.per) :
  Calls Tryz.prog 20 #[.agg #[.slice A1 n1 c1,.slice A2 n2 c2,.slice A3 n3 c3],.slice A4 n4 c4] w (SomI w):=by
 have hb0:=bl1 w (.cells #[.slice A1 n1 c1,.slice A2 n2 c2,.slice A3 n3 c3] 31)
 have hP0:=hP.on hb0
 have hC0:=hC.on hb0
 have hL0:=hL.on hb0
 have m0:(w.alloc (.cells #[.slice A1 n1 c1,.slice A2 n2 c2,.slice A3 n3 c3] 31)).cell? ⟨w.heap.size,0,none⟩=some (.slice A1 n1 c1):=World.cell?_alloc_mark _ _ _ _ _
 have hgs:w.heap.size < (w.alloc (.cells #[.slice A1 n1 c1,.slice A2 n2 c2,.slice A3 n3 c3] 31)).heap.size:=by simp
 have HZ:=hid hz
 clear hP hC hL hz
 go_enter Tryz.func20,Tryz.ntmps20
 go_wp2_with fail
 generalize w.alloc (.cells #[.slice A1 n1 c1,.slice A2 n2 c2,.slice A3 n3 c3] 31)=W at hb0 hP0 hC0 hL0 m0 hgs ⊢
 obtain⟨g,hg⟩:∃ g,g=w.heap.size:=⟨_,rfl⟩
 rw[← hg] at m0 hgs ⊢
 have HG:=hid hg
 have HM0:=hid m0
 clear hg m0
 go_loopw [6,7,13] (fun _ _ s wr=>∃ i:Nat,i≤n2∧s=.int .i64 i∧Below W.heap.size W wr) (fun _ _ s _=>n2 - (intOf s).toNat)
 case atStart=>exact⟨0,by omega,rfl,Below.refl _ _⟩
 case round =>
  obtain⟨i,hi,rfl,hb⟩:=hrel
  by_cases hlt:i < n2
  ·obtain⟨ad,x,rfl,had,hx,c0,ck⟩:=(hC0.on hb).at_ cc_len (by omega) hlt
   have d0:=c0 _ rfl
   have d1:=ck 1 _ (by omega) rfl
   have d2:=ck 2 _ (by omega) rfl
   have d3:=ck 3 _ (by omega) rfl
   have d4:=ck 4 _ (by omega) rfl
   have d5:=ck 5 _ (by omega) rfl
   obtain⟨xf,xt,xq,xc,xm,xl⟩:=x
   dsimp only at d0 d1 d2 d3 d4 d5
   have hbx:=bl1 wr (.cells #[.int .i64 xf,.int .i64 xt,.bool xq,.int .i64 xc,.int .u32 xm,.int .i64 xl] 42)
   have hb1:=hb.trans (hbx.mono hb.size)
   have HLT:=hid (late_any A4 n4 c4 L xf xt _ (hL0.on hb1) q4 q5 ht)
   have HB1:=hid hb1
   clear c0 ck hx hbx hb1
   go_wp2_with fail
   refine HLT.out.mono ?_
   rintro e w5 ⟨rfl,hb5⟩
   have e5:w5.cell? ⟨wr.heap.size,5,none⟩=some (.int .i64 xl):=(hb5.cell (p:=⟨wr.heap.size,5,none⟩) (by simp)).trans (World.cell?_alloc_mark _ _ _ _ _)
   have HB5:=hid (HB1.out.trans (hb5.mono HB1.out.size))
   clear hb5 HLT HB1 d0 d1 d2 d3 d4 d5
   generalize lateL (wordsL L) xf xt=z
   generalize wr.heap.size=gx at e5 ⊢
   go_wp2_with fail
   all_goals
    first
    |(go_ret;exact⟨_,rfl,hb0.trans (HB5.out.mono hb0.size)⟩)
    |(go_roundw
      case rel=>exact⟨i+1,by omega,by go_num,HB5.out⟩
      case measure=>simp[intOf];omega)
  ·have hge:n2≤i:=by omega
   have m0:=(hb.cell (p:=⟨g,0,none⟩) hgs).trans HM0.out
   go_wp2_with fail
   go_loopw [8,9,40] (fun _ _ s wx=>∃ j:Nat,j≤n1∧s=.int .i64 j∧Below W.heap.size W wx) (fun _ _ s _=>n1 - (intOf s).toNat)
   case atStart=>exact⟨0,by omega,rfl,hb⟩
   case round =>
    obtain⟨j,hj,rfl,hb⟩:=hrel
    by_cases hlt:j < n1
    ·obtain⟨ad,x,rfl,had,hx,c0,ck⟩:=(hP0.on hb).at_ pcl_len (by omega) hlt
     have d0:=c0 _ rfl
     have d1:=ck 1 _ (by omega) rfl
     have d2:=ck 2 _ (by omega) rfl
     have d3:=ck 3 _ (by omega) rfl
     have d4:=ck 4 _ (by omega) rfl
     have d5:=ck 5 _ (by omega) rfl
     have d6:=ck 6 _ (by omega) rfl
     have d7:=ck 7 _ (by omega) rfl
     have d8:=ck 8 _ (by omega) rfl
     have d9:=ck 9 _ (by omega) rfl
     have d10:=ck 10 _ (by omega) rfl
     have hzx:=HZ.out x (List.mem_of_getElem? hx)
     obtain⟨nm,bu,pe,sc,st,pa,pn,pc,h0,h1,h2,h3,h4⟩:=x
     dsimp only at d0 d1 d2 d3 d4 d5 d6 d7 d8 d9 d10 hzx
     have hbx:=bl1 wr (.cells #[.string nm,.int .i64 bu,.int .i64 pe,.bool sc,.bool st,.slice pa pn pc,.int .i64 h0,.int .i64 h1,.int .i64 h2,.int .i64 h3,.int .i64 h4] 68)
     have hb1:=hb.trans (hbx.mono hb.size)
     have f1:(wr.alloc (.cells #[.string nm,.int .i64 bu,.int .i64 pe,.bool sc,.bool st,.slice pa pn pc,.int .i64 h0,.int .i64 h1,.int .i64 h2,.int .i64 h3,.int .i64 h4] 68)).cell? ⟨wr.heap.size,1,none⟩=some (.int .i64 bu):=World.cell?_alloc_mark _ _ _ _ _
     have f2:(wr.alloc (.cells #[.string nm,.int .i64 bu,.int .i64 pe,.bool sc,.bool st,.slice pa pn pc,.int .i64 h0,.int .i64 h1,.int .i64 h2,.int .i64 h3,.int .i64 h4] 68)).cell? ⟨wr.heap.size,2,none⟩=some (.int .i64 pe):=World.cell?_alloc_mark _ _ _ _ _
     have hgx:wr.heap.size < (wr.alloc (.cells #[.string nm,.int .i64 bu,.int .i64 pe,.bool sc,.bool st,.slice pa pn pc,.int .i64 h0,.int .i64 h1,.int .i64 h2,.int .i64 h3,.int .i64 h4] 68)).heap.size:=by simp
     clear c0 ck hx hbx
     go_wp2_with fail
     generalize wr.alloc (.cells #[.string nm,.int .i64 bu,.int .i64 pe,.bool sc,.bool st,.slice pa pn pc,.int .i64 h0,.int .i64 h1,.int .i64 h2,.int .i64 h3,.int .i64 h4] 68)=W2 at hb1 f1 f2 hgx ⊢
     generalize wr.heap.size=gx at f1 f2 hgx ⊢
     have HB1:=hid hb1
     clear d0 d1 d2 d3 d4 d5 d6 d7 d8 d9 d10 hb1 had
     by_cases hbu:0 < bu
     ·have hbd:decide (0 < bu)=true:=decide_eq_true hbu
      have HBG:Hid (Calls Tryz.prog 50 #[.slice A4 n4 c4,.int .i64 (j:Int),.int .i64 pe] W2.drew fun e w5=>e=.returned (.int .i64 (budL (wordsL L) (j:Int) pe))∧Below W2.heap.size W2 w5∧w5.cell? ⟨gx,1,none⟩=some (.int .i64 bu)∧w5.cell? ⟨gx,2,none⟩=some (.int .i64 pe)):=hid (by
       refine(budget_any A4 n4 c4 L (j:Int) pe W2.drew ((hL0.on HB1.out).below (Below.refl _ _).drew) q4 q5 ht hzx).mono ?_
       rintro e w5 ⟨rfl,hb5⟩
       have hb6:Below W2.heap.size W2 w5:=⟨hb5.os,hb5.tape,hb5.output,hb5.size,hb5.block⟩
       exact⟨rfl,hb6,(hb6.cell (p:=⟨gx,1,none⟩) hgx).trans f1,(hb6.cell (p:=⟨gx,2,none⟩) hgx).trans f2⟩)
      generalize budL (wordsL L) (j:Int) pe=z at HBG
      go_region_with (go_at_call 50;refine HBG.out.mono ?_;rintro e w5 ⟨rfl,hb5,g1,g2⟩)
      go_wp2_with fail
      all_goals
       first
       |(go_ret;exact⟨_,rfl,hb0.trans ((HB1.out.trans (hb5.mono HB1.out.size)).mono hb0.size)⟩)
       |(go_roundw
         case rel=>exact⟨j+1,by omega,by go_num,HB1.out.trans (hb5.mono HB1.out.size)⟩
         case measure=>simp[intOf];omega)
     ·have hbd:decide (0 < bu)=false:=decide_eq_false hbu
      go_quiet (fail)
      go_wp2_with fail
      go_roundw
      case rel=>exact⟨j+1,by omega,by go_num,Below.drewN HB1.out nq⟩
      case measure=>simp[intOf];omega
    ·have hge:n1≤j:=by omega
     go_wp2_with fail
     go_ret
     exact⟨_,rfl,hb0.trans (hb.mono hb0.size)⟩
theorem heap_set_same (w:World) (g j:Nat) (v:Value) {cur:Array Value} {E:TypeId} {fr:Nat×Nat} (h:w.heap[g]? = some (.cells cur E fr)):(w.setCell ⟨g,j,none⟩ v).heap[g]? = some (.cells (cur.setIfInBounds j v) E fr):=by
 unfold World.setCell
 simp[Array.getElem?_modify,h]
theorem OwnV.set {E s B n c g:Nat} {w:World} {l:List Value} (h:OwnV E s w B (some ⟨g,0,none⟩) n c l) (j:Nat) (v:Value) (hj:j < l.length):OwnV E s (w.setCell ⟨g,j,none⟩ v) B (some ⟨g,0,none⟩) n c (l.set j v):=by
 refine⟨by rw[List.length_set];exact h.1,?_⟩
 rcases h.2 with ⟨hv,_⟩ | ⟨g',cap,cur,hv,hbg,hg,hnc,hcm,hcs,htake⟩
 ·cases hv
 ·simp only[Value.slice.injEq,Option.some.injEq,Addr.mk.injEq,and_true,true_and] at hv
  obtain⟨rfl,rfl⟩:=hv
  refine .inr ⟨g,c,cur.setIfInBounds j v,rfl,hbg,heap_set_same w g j v hg,hnc,hcm,by rw[Array.size_setIfInBounds];exact hcs,?_⟩
  rw[Array.toList_setIfInBounds,List.take_set,htake]
theorem OwnV.other {E s B n c:Nat} {w:World} {A:Option Addr} {l:List Value} (h:OwnV E s w B A n c l) (p:Addr) (v:Value) (hp:∀ g,A=some ⟨g,0,none⟩→g≠p.block):OwnV E s (w.setCell p v) B A n c l:=by
 refine⟨h.1,?_⟩
 rcases h.2 with hv | ⟨g,cap,cur,hv,hbg,hg,r⟩
 ·exact .inl hv
 ·refine .inr ⟨g,cap,cur,hv,hbg,?_,r⟩
  rw[Below.heap_setCell w p v g (hp g (by injection hv))]
  exact hg
section
variable {α:Type} {f:α→List Value} {s:Nat}
theorem flat_len (hf:∀ x,(f x).length=s) (l:List α):(l.flatMap f).length=l.length*s:=by
 induction l with
 | nil=>simp
 | cons x l ih=>rw[List.flatMap_cons,List.length_append,hf,ih,List.length_cons,Nat.succ_mul];omega
theorem flat_set (hf:∀ x,(f x).length=s) (l:List α) (i k:Nat) (x y:α) (v:Value) (hx:l[i]? = some x) (hk:k < s) (hy:f y=(f x).set k v):(l.set i y).flatMap f=(l.flatMap f).set (i*s+k) v:=by
 induction l generalizing i with
 | nil=>simp at hx
 | cons z l ih =>
  cases i with
  | zero =>
   simp at hx
   subst hx
   rw[List.set_cons_zero,List.flatMap_cons,List.flatMap_cons,hy,Nat.zero_mul,Nat.zero_add,List.set_append_left _ _ (by rw[hf];exact hk)]
  | succ i =>
   rw[List.set_cons_succ,List.flatMap_cons,List.flatMap_cons,ih i (by simpa using hx),List.set_append_right _ _ (by rw[hf,Nat.succ_mul];omega),hf]
   congr 2
   rw[Nat.succ_mul]
   omega
end
structure OwnB {α:Type} (E s:Nat) (f:α→List Value) (w:World) (B:Nat) (A:Option Addr) (n c:Nat) (l:List α):Prop where
 len:l.length=n
 own:OwnV E s w B A n c (l.flatMap f)
section
variable {α:Type} {f:α→List Value} {E s B B' n c:Nat} {w w':World} {A:Option Addr} {l:List α}
theorem OwnB.rdb (h:OwnB E s f w B A n c l):RdB f w w.heap.size A n l:=⟨h.len,h.own.rd⟩
theorem OwnB.cap (h:OwnB E s f w B A n c l):n≤c:=h.own.cap
theorem OwnB.nil (w:World) (E s B:Nat):OwnB E s f w B none 0 0 []:=⟨rfl,OwnV.nil _ _ _ _⟩
theorem OwnB.below (h:OwnB E s f w B A n c l) (hb:Below w.heap.size w w'):OwnB E s f w' B A n c l:=⟨h.len,h.own.below rfl hb⟩
theorem OwnB.other (h:OwnB E s f w B A n c l) (p:Addr) (v:Value) (hp:∀ g,A=some ⟨g,0,none⟩→g≠p.block):OwnB E s f (w.setCell p v) B A n c l:=⟨h.len,h.own.other p v hp⟩
theorem OwnB.weak (h:OwnB E s f w B A n c l) (hB:B'≤B):OwnB E s f w B' A n c l:=⟨h.len,h.own.weak hB⟩
theorem OwnB.block (h:OwnB E s f w B A n c l) (hn:0 < n):∃ g,A=some ⟨g,0,none⟩∧B≤g∧g < w.heap.size:=h.own.block hn
theorem mk_add (g i:Nat):(⟨g,0,none⟩:Addr).add i=⟨g,i,none⟩:=by
 unfold Addr.add
 split <;> simp_all
theorem OwnB.set {g:Nat} (h:OwnB E s f w B (some ⟨g,0,none⟩) n c l) (hf:∀ x,(f x).length=s) {i k:Nat} {x y:α} {v:Value} (hx:l[i]? = some x) (hk:k < s) (hy:f y=(f x).set k v) :
  OwnB E s f (w.setCell ⟨((⟨g,0,none⟩:Addr).add (i*s)).block,((⟨g,0,none⟩:Addr).add (i*s)).off+k,none⟩ v) B (some ⟨g,0,none⟩) n c (l.set i y):=by
 have hi:i < l.length:=(List.getElem?_eq_some_iff.1 hx).1
 refine⟨by rw[List.length_set];exact h.len,?_⟩
 rw[mk_add,flat_set hf l i k x y v hx hk hy]
 refine h.own.set (i*s+k) v ?_
 rw[flat_len hf]
 have h1:(i+1)*s≤l.length*s:=Nat.mul_le_mul_right _ hi
 rw[Nat.succ_mul] at h1
 omega
end
theorem cc_late (x:ChV) (z:Int):cc { x with late:=z }=(cc x).set 5 (.int .i64 z):=rfl
theorem pcl_bud (x:PtV) (z:Int):pcl { x with bud:=z }=(pcl x).set 1 (.int .i64 z):=rfl
theorem pcl_per (x:PtV) (z:Int):pcl { x with per:=z }=(pcl x).set 2 (.int .i64 z):=rfl
end Go.Proofs.YtfddpnhaejkacaaGreat
