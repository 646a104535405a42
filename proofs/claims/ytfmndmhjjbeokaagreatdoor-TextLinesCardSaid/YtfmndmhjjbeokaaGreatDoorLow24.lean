import Derived.Test.YtfmndmhjjbeokaaGreatDoorLow18
import Derived.Test.YtfmndmhjjbeokaaGreatDoorLow21
import Derived.Test.YtfmndmhjjbeokaaGreatDoorLow23
namespace Go.Proofs.YtfmndmhjjbeokaaGreatDoor
open Go.RowKit Tab
set_option linter.unusedSimpArgs false
set_option linter.unusedVariables false
def rnd (W:List Int) (t:Nat):Option Int:=W[t % W.length]?
theorem rnd_add (W:List Int) (t k:Nat):rnd W (t+W.length*k)=rnd W t:=by
 unfold rnd
 rw [Nat.add_mul_mod_self_left]
theorem rnd_lt {W:List Int} {t:Nat} (h:t < W.length):rnd W t=W[t]?:=by
 unfold rnd
 rw [Nat.mod_eq_of_lt h]
theorem hasL_iff {W:List Int} {q:Int}:hasL q W=true↔∃ i,i < W.length∧W[i]? = some q:=by
 refine ⟨hasL_get,?_⟩
 induction W with
 | nil=>rintro ⟨i,hi,_⟩;simp at hi
 | cons x W ih =>
  rintro ⟨i,hi,e⟩
  simp only [hasL,Bool.or_eq_true,decide_eq_true_eq]
  cases i with
  | zero=>left;simpa using e
  | succ i=>right;exact ih ⟨i,by simpa using hi,by simpa using e⟩
theorem hasL_rnd {W:List Int} {q:Int}:hasL q W=true↔∃ t,rnd W t=some q:=by
 rw [hasL_iff]
 constructor
 ·rintro ⟨i,hi,e⟩
  exact ⟨i,by rw [rnd_lt hi];exact e⟩
 ·rintro ⟨t,e⟩
  unfold rnd at e
  have h:=(List.getElem?_eq_some_iff.1 e).1
  exact ⟨_,h,e⟩
def Dst (W:List Int) (q:Int) (t d:Nat):Prop:=1≤d∧rnd W (t+d)=some q∧∀ e,1≤e→e < d→¬ rnd W (t+e)=some q
theorem Dst.eq {W:List Int} {q:Int} {t d e:Nat} (h:Dst W q t d) (k:Dst W q t e):d=e:=by
 rcases Nat.lt_trichotomy d e with hl | hl | hl
 ·exact absurd h.2.1 (k.2.2 d h.1 hl)
 ·exact hl
 ·exact absurd k.2.1 (h.2.2 e k.1 hl)
theorem distF_dst {W:List Int} {q:Int} {t:Nat}:∀ f d,1≤d→(∀ e,1≤e→e < d→¬ rnd W (t+e)=some q)→(∃ e,d≤e∧e < d+f∧rnd W (t+e)=some q)→Dst W q t (distF W q t f d):=by
 intro f
 induction f with
 | zero=>rintro d _ _ ⟨e,h1,h2,_⟩;omega
 | succ f ih =>
  intro d hd hno hex
  by_cases hh:rnd W (t+d)=some q
  ·rw [distF_yes (by unfold rnd at hh;exact hh)]
   exact ⟨hd,hh,hno⟩
  ·rw [distF_no (by unfold rnd at hh;exact hh)]
   refine ih (d+1) (by omega) (fun e h1 h2=>?_) ?_
   ·by_cases hed:e=d
    ·subst hed;exact hh
    ·exact hno e h1 (by omega)
   ·obtain ⟨e,h1,h2,h3⟩:=hex
    refine ⟨e,?_,by omega,h3⟩
    rcases Nat.lt_or_ge d e with h4 | h4
    ·omega
    ·have:e=d:=by omega
     subst this
     exact absurd h3 hh
theorem dist_dst {W:List Int} {q:Int} (h:hasL q W=true) (t:Nat):Dst W q t (dist W q t):=by
 obtain ⟨e,h1,h2,h3⟩:=dist_ex h t
 exact distF_dst W.length 1 (Nat.le_refl _) (fun e h1 h2=>by omega) ⟨e,h1,by omega,h3⟩
theorem dist_le {W:List Int} {q:Int} (h:hasL q W=true) (t:Nat):dist W q t≤W.length:=by
 obtain ⟨e,h1,h2,h3⟩:=dist_ex h t
 have k:=dist_dst h t
 rcases Nat.lt_or_ge e (dist W q t) with hl | hl
 ·exact absurd h3 (k.2.2 e h1 hl)
 ·omega
theorem lateW_le {W:List Int} {p q:Int} {M:Nat}:∀ k,lateW W p q k≤M↔∀ t,t < k→W[t]? = some p→dist W q t≤M:=by
 intro k
 induction k with
 | zero=>exact ⟨fun _ t h=>by omega,fun _=>Nat.zero_le _⟩
 | succ k ih =>
  unfold lateW
  by_cases hp:W[k]? = some p
  ·rw [if_pos hp]
   constructor
   ·intro h t ht hpt
    by_cases htk:t=k
    ·subst htk;omega
    ·exact (ih.1 (by omega)) t (by omega) hpt
   ·intro h
    have h1:=ih.2 fun t ht hpt=>h t (by omega) hpt
    have h2:=h k (by omega) hp
    omega
  ·rw [if_neg hp,ih]
   constructor
   ·intro h t ht hpt
    by_cases htk:t=k
    ·subst htk;exact absurd hpt hp
    ·exact h t (by omega) hpt
   ·exact fun h t ht hpt=>h t (by omega) hpt
theorem lateW_rnd {W:List Int} {p q:Int} {M:Nat} (hq:hasL q W=true):lateW W p q W.length≤M↔∀ t d,rnd W t=some p→Dst W q t d→d≤M:=by
 rw [lateW_le]
 constructor
 ·intro h t d hp hd
  have hpos:0 < W.length:=by
   unfold rnd at hp
   have:=(List.getElem?_eq_some_iff.1 hp).1
   omega
  have hlt:t % W.length < W.length:=Nat.mod_lt _ hpos
  have h1:=h (t % W.length) hlt hp
  have e:∀ x,rnd W (t % W.length+x)=rnd W (t+x):=fun x=>by
   have h2:=Nat.div_add_mod t W.length
   have h3:t+x=(t % W.length+x)+W.length*(t / W.length):=by omega
   rw [h3,rnd_add]
  have hd2:Dst W q (t % W.length) d:=⟨hd.1,by rw [e];exact hd.2.1,fun x hx hx2=>by rw [e];exact hd.2.2 x hx hx2⟩
  rw [(dist_dst hq (t % W.length)).eq hd2] at h1
  exact h1
 ·intro h t ht hp
  exact h t _ (by rw [rnd_lt ht];exact hp) (dist_dst hq t)
theorem nat_eq_of_le {a b:Nat} (h:∀ M,a≤M↔b≤M):a=b:=Nat.le_antisymm ((h b).2 (Nat.le_refl _)) ((h a).1 (Nat.le_refl _))
structure Circ (V W:List Int) (a:Nat):Prop where
 pos:0 < W.length
 eq:∀ i,rnd V i=rnd W (i+a)
theorem Circ.back {V W:List Int} {a:Nat} (h:Circ V W a) (j:Nat):∃ i,∀ x,rnd W (j+x)=rnd V (i+x):=by
 refine ⟨j+(W.length - 1)*a,fun x=>?_⟩
 rw [h.eq]
 have hp:=h.pos
 have e:j+(W.length - 1)*a+x+a=(j+x)+W.length*a:=by
  have:W.length*a=(W.length - 1)*a+a:=by
   conv=>lhs;rw [show W.length=(W.length - 1)+1 by omega]
   rw [Nat.add_mul,Nat.one_mul]
  omega
 rw [e,rnd_add]
theorem Circ.has {V W:List Int} {a:Nat} (h:Circ V W a) (q:Int):hasL q V=hasL q W:=by
 rw [Bool.eq_iff_iff,hasL_rnd,hasL_rnd]
 constructor
 ·rintro ⟨t,e⟩
  exact ⟨t+a,by rw [← h.eq];exact e⟩
 ·rintro ⟨t,e⟩
  obtain ⟨i,hi⟩:=h.back t
  exact ⟨i,by have:=hi 0;simp only [Nat.add_zero] at this;rw [← this];exact e⟩
theorem Circ.late {V W:List Int} {a:Nat} (h:Circ V W a) (p q:Int):lateL V p q=lateL W p q:=by
 unfold lateL
 rw [h.has p,h.has q]
 by_cases hp:hasL p W=false
 ·rw [if_pos hp,if_pos hp]
 ·rw [if_neg hp,if_neg hp]
  by_cases hq:hasL q W=false
  ·rw [if_pos hq,if_pos hq]
  ·rw [if_neg hq,if_neg hq]
   have hqW:hasL q W=true:=by simpa using hq
   have hqV:hasL q V=true:=by rw [h.has];exact hqW
   congr 1
   refine nat_eq_of_le fun M=>?_
   rw [lateW_rnd hqV,lateW_rnd hqW]
   constructor
   ·intro H t d hpt hd
    obtain ⟨i,hi⟩:=h.back t
    have h0:=hi 0
    simp only [Nat.add_zero] at h0
    exact H i d (by rw [← h0];exact hpt) ⟨hd.1,by rw [← hi];exact hd.2.1,fun x h1 h2=>by rw [← hi];exact hd.2.2 x h1 h2⟩
   ·intro H t d hpt hd
    have e:∀ x,rnd V (t+x)=rnd W (t+a+x):=fun x=>by rw [h.eq,Nat.add_right_comm]
    have e0:=e 0
    simp only [Nat.add_zero] at e0
    exact H (t+a) d (by rw [← e0];exact hpt) ⟨hd.1,by rw [← e];exact hd.2.1,fun x h1 h2=>by rw [← e];exact hd.2.2 x h1 h2⟩
def gapL (W:List Int) (p:Int):Int:=if lateL W p p < 1 then -1 else lateL W p p - 1
theorem lateL_le (W:List Int) (p q:Int):lateL W p q≤W.length:=by
 unfold lateL
 split
 ·omega
 ·split
  ·omega
  ·rename_i h
   have hq:hasL q W=true:=by simpa using h
   have:=(lateW_le (W:=W) (p:=p) (q:=q) (M:=W.length) W.length).2 fun t _ _=>dist_le hq t
   omega
theorem cnt_has {W:List Int} {p:Int}:0 < cntF p W↔hasL p W=true:=by
 induction W with
 | nil=>simp [cntF,hasL]
 | cons x W ih =>
  simp only [cntF,hasL,Bool.or_eq_true,decide_eq_true_eq,← ih]
  by_cases hx:x=p
  ·simp [hx];omega
  ·simp [hx]
theorem cnt_rep (p x:Int) (n:Nat):cntF p (List.replicate n x)=if x=p then n else 0:=by
 induction n with
 | zero=>simp [cntF]
 | succ n ih =>
  simp only [List.replicate_succ,cntF,ih]
  by_cases h:x=p
  ·simp [h];omega
  ·simp [h]
theorem cnt_words (p:Int) (L:List Rn):cntF p (wordsL L)=tkOf p L:=by
 induction L with
 | nil=>rfl
 | cons r s ih=>simp only [wordsL,cntF_append,cnt_rep,tkOf,ih]
theorem budL_ge (W:List Int) (p z:Int):-1≤budL W p z:=by
 unfold budL
 split
 ·omega
 ·split
  ·omega
  ·split <;> omega
end Go.Proofs.YtfmndmhjjbeokaaGreatDoor
namespace Go.Proofs.YtfmndmhjjbeokaaGreatDoor
open Go.RowKit Tab
set_option linter.unusedSimpArgs false
set_option linter.unusedVariables false
def chLate (W:List Int) (x:ChV):Bool:=decide (0 < x.late) && (decide (lateL W x.from_ x.to_ < 0) || decide (x.late < lateL W x.from_ x.to_))
def ptShort (W:List Int) (i:Nat) (x:PtV):Bool:=decide (0 < x.bud) && decide (budL W (i:Int) x.per < x.bud)
def shortF (W:List Int):Nat→List PtV→Bool
 | _,[]=>false
 | i,x::l=>ptShort W i x || shortF W (i+1) l
def holdsF (W:List Int) (P:List PtV) (C:List ChV):Int:=if C.any (chLate W)=true then 19 else if shortF W 0 P=true then 20 else 0
theorem holdsF_late {W:List Int} {P:List PtV} {C:List ChV} (h:C.any (chLate W)=true):holdsF W P C=19:=if_pos h
theorem holdsF_short {W:List Int} {P:List PtV} {C:List ChV} (h:C.any (chLate W)=false) (h2:shortF W 0 P=true):holdsF W P C=20:=by unfold holdsF;rw [if_neg (by rw [h];decide),if_pos h2]
theorem holdsF_ok {W:List Int} {P:List PtV} {C:List ChV} (h:C.any (chLate W)=false) (h2:shortF W 0 P=false):holdsF W P C=0:=by unfold holdsF;rw [if_neg (by rw [h];decide),if_neg (by rw [h2];decide)]
theorem any_more {α:Type} (f:α→Bool) {l:List α} {i:Nat} {x:α} (h:l[i]? = some x):(l.take (i+1)).any f=((l.take i).any f || f x):=by
 obtain ⟨hi,e⟩:=List.getElem?_eq_some_iff.1 h
 rw [List.take_succ_eq_append_getElem hi,List.any_append,e]
 simp
theorem any_mem {α:Type} (f:α→Bool) {l:List α} {i:Nat} {x:α} (h:l[i]? = some x) (hf:f x=true):l.any f=true:=List.any_eq_true.2 ⟨x,List.mem_of_getElem? h,hf⟩
theorem shortF_append (W:List Int) (a b:List PtV):∀ i,shortF W i (a++b)=(shortF W i a || shortF W (i+a.length) b):=by
 induction a with
 | nil=>intro i;simp [shortF]
 | cons x a ih =>
  intro i
  simp only [List.cons_append,shortF,ih,List.length_cons,Bool.or_assoc]
  rw [show i+1+a.length=i+(a.length+1) by omega]
theorem short_more {W:List Int} {l:List PtV} {i:Nat} {x:PtV} (h:l[i]? = some x):shortF W 0 (l.take (i+1))=(shortF W 0 (l.take i) || ptShort W i x):=by
 obtain ⟨hi,e⟩:=List.getElem?_eq_some_iff.1 h
 rw [List.take_succ_eq_append_getElem hi,shortF_append,e,Nat.zero_add,List.length_take,Nat.min_eq_left (by omega)]
 simp [shortF]
theorem short_mem {W:List Int} {l:List PtV} {i:Nat} {x:PtV} (h:l[i]? = some x) (hs:ptShort W i x=true):shortF W 0 l=true:=by
 have e:=short_more (W:=W) h
 rw [hs,Bool.or_true] at e
 have k:=shortF_append W (l.take (i+1)) (l.drop (i+1)) 0
 rw [List.take_append_drop,e,Bool.true_or] at k
 exact k
theorem shortF_iff {W:List Int} {l:List PtV}:shortF W 0 l=false↔∀ i x,l[i]? = some x→ptShort W i x=false:=by
 constructor
 ·intro h i x hx
  cases hs:ptShort W i x with
  | false=>rfl
  | true=>rw [short_mem hx hs] at h;cases h
 ·intro h
  have key:∀ k,shortF W 0 (l.take k)=false:=by
   intro k
   induction k with
   | zero=>rfl
   | succ k ih =>
    cases hx:l[k]? with
    | none =>
     have:l.length≤k:=List.getElem?_eq_none_iff.1 hx
     rw [List.take_of_length_le (by omega)]
     rw [List.take_of_length_le this] at ih
     exact ih
    | some x=>rw [short_more hx,ih,h k x hx];rfl
  have:=key l.length
  rwa [List.take_length] at this
set_option maxRecDepth 100000 in
set_option maxHeartbeats 4000000 in
theorem holdsx_any (A1 A2 A3 A4:Option Addr) (n1 n2 n3 n4 c1 c2 c3 c4:Nat) (P:List PtV) (C:List ChV) (L:List Rn) (w:World) (hP:RdB pcl w w.heap.size A1 n1 P) (hC:RdB cc w w.heap.size A2 n2 C) (hL:RdR w w.heap.size A4 n4 L)
  (q1:n1≤1048576) (q2:n2≤1048576) (q4:n4≤c4) (q5:n4≤1048576) (ht:ticks L≤8192) (hz:∀ x∈P,In64 x.per) :
  Calls Tryz.prog 92 #[.agg #[.slice A1 n1 c1,.slice A2 n2 c2,.slice A3 n3 c3],.slice A4 n4 c4] w (Ans (.int .i64 (holdsF (wordsL L) P C)) w):=by
 have hb0:=bl1 w (.cells #[.slice A1 n1 c1,.slice A2 n2 c2,.slice A3 n3 c3] 31)
 have hP0:=hP.on hb0
 have hC0:=hC.on hb0
 have hL0:=hL.on hb0
 have m0:(w.alloc (.cells #[.slice A1 n1 c1,.slice A2 n2 c2,.slice A3 n3 c3] 31)).cell? ⟨w.heap.size,0,none⟩=some (.slice A1 n1 c1):=World.cell?_alloc_mark _ _ _ _ _
 have hgs:w.heap.size < (w.alloc (.cells #[.slice A1 n1 c1,.slice A2 n2 c2,.slice A3 n3 c3] 31)).heap.size:=by simp
 have HZ:=Lib.hid hz
 obtain ⟨R,hR⟩:∃ R,R=holdsF (wordsL L) P C:=⟨_,rfl⟩
 rw [← hR]
 obtain ⟨X,hX⟩:∃ X,X=wordsL L:=⟨_,rfl⟩
 rw [← hX] at hR
 have HR:=Lib.hid hR
 have HX:=Lib.hid hX
 have hPl:=hP.len
 have hCl:=hC.len
 have HPL:=Lib.hid hPl
 have HCL:=Lib.hid hCl
 clear hP hC hL hz hR hX hPl hCl
 go_enter Tryz.func92,Tryz.ntmps92
 go_wp2_with fail
 generalize w.alloc (.cells #[.slice A1 n1 c1,.slice A2 n2 c2,.slice A3 n3 c3] 31)=W at hb0 hP0 hC0 hL0 m0 hgs ⊢
 obtain ⟨g,hg⟩:∃ g,g=w.heap.size:=⟨_,rfl⟩
 rw [← hg] at m0 hgs ⊢
 have HG:=Lib.hid hg
 have HM0:=Lib.hid m0
 clear hg m0
 go_loopw [6,7,13] (fun _ _ s wr=>∃ i:Nat,i≤n2∧s=.int .i64 i∧(C.take i).any (chLate X)=false∧Below W.heap.size W wr) (fun _ _ s _=>n2 - (intOf s).toNat)
 case atStart=>exact ⟨0,by omega,rfl,rfl,Below.refl _ _⟩
 case round =>
  obtain ⟨i,hi,rfl,hany,hb⟩:=hrel
  have HANY:=Lib.hid hany
  clear hany
  by_cases hlt:i < n2
  ·obtain ⟨ad,x,rfl,had,hx,c0,ck⟩:=(hC0.on hb).at_ cc_len (by omega) hlt
   have d0:=c0 _ rfl
   have d1:=ck 1 _ (by omega) rfl
   have d2:=ck 2 _ (by omega) rfl
   have d3:=ck 3 _ (by omega) rfl
   have d4:=ck 4 _ (by omega) rfl
   have d5:=ck 5 _ (by omega) rfl
   have HMORE:=Lib.hid (any_more (chLate X) hx)
   have HMEM:=Lib.hid (any_mem (chLate X) hx)
   obtain ⟨xf,xt,xq,xc,xm,xl⟩:=x
   dsimp only at d0 d1 d2 d3 d4 d5
   have hbx:=bl1 wr (.cells #[.int .i64 xf,.int .i64 xt,.bool xq,.int .i64 xc,.int .u32 xm,.int .i64 xl] 66)
   have hb1:=hb.trans (hbx.mono hb.size)
   have HLT:=Lib.hid (late_any A4 n4 c4 L xf xt _ (hL0.on hb1) q4 q5 ht)
   have HB1:=Lib.hid hb1
   clear c0 ck hx hbx hb1
   go_wp2_with fail
   refine HLT.out.mono ?_
   rintro e w5 ⟨rfl,hb5⟩
   have e5:w5.cell? ⟨wr.heap.size,5,none⟩=some (.int .i64 xl):=(hb5.cell (p:=⟨wr.heap.size,5,none⟩) (by simp)).trans (World.cell?_alloc_mark _ _ _ _ _)
   have HB5:=Lib.hid (HB1.out.trans (hb5.mono HB1.out.size))
   clear hb5 HLT HB1 d0 d1 d2 d3 d4 d5
   rw [← HX.out]
   have hcl:chLate X ⟨xf,xt,xq,xc,xm,xl⟩=(decide (0 < xl) && (decide (lateL X xf xt < 0) || decide (xl < lateL X xf xt))):=rfl
   generalize lateL X xf xt=z at hcl ⊢
   generalize wr.heap.size=gx at e5 ⊢
   have HCL2:=Lib.hid hcl
   clear hcl
   by_cases t1:0 < xl
   ·have u1:decide (0 < xl)=true:=decide_eq_true t1
    by_cases t2:z < 0
    ·have u2:decide (z < 0)=true:=decide_eq_true t2
     have hres:R=19:=by
      rw [HR.out]
      exact holdsF_late (HMEM.out (by rw [HCL2.out,u1,u2];rfl))
     subst hres
     go_wp2_with fail
     go_ret
     exact Ans.mk rfl (hb0.trans (HB5.out.mono hb0.size))
    ·have u2:decide (z < 0)=false:=decide_eq_false t2
     by_cases t3:xl < z
     ·have u3:decide (xl < z)=true:=decide_eq_true t3
      have hres:R=19:=by
       rw [HR.out]
       exact holdsF_late (HMEM.out (by rw [HCL2.out,u1,u3];simp))
      subst hres
      go_wp2_with fail
      go_ret
      exact Ans.mk rfl (hb0.trans (HB5.out.mono hb0.size))
     ·have u3:decide (xl < z)=false:=decide_eq_false t3
      have HN:Hid ((C.take (i+1)).any (chLate X)=false):=Lib.hid (by rw [HMORE.out,HANY.out,HCL2.out,u1,u2,u3];rfl)
      go_wp2_with fail
      go_roundw
      case rel=>exact ⟨i+1,by omega,by go_num,HN.out,HB5.out⟩
      case measure=>simp [intOf];omega
   ·have u1:decide (0 < xl)=false:=decide_eq_false t1
    have HN:Hid ((C.take (i+1)).any (chLate X)=false):=Lib.hid (by rw [HMORE.out,HANY.out,HCL2.out,u1];rfl)
    go_wp2_with fail
    go_roundw
    case rel=>exact ⟨i+1,by omega,by go_num,HN.out,HB5.out⟩
    case measure=>simp [intOf];omega
  ·have hge:n2≤i:=by omega
   have HALL:Hid (C.any (chLate X)=false):=Lib.hid (by
    have h:=HANY.out
    rw [List.take_of_length_le (by rw [HCL.out];exact hge)] at h
    exact h)
   clear HANY
   have m0:=(hb.cell (p:=⟨g,0,none⟩) hgs).trans HM0.out
   go_wp2_with fail
   go_loopw [8,9,40] (fun _ _ s wx=>∃ j:Nat,j≤n1∧s=.int .i64 j∧shortF X 0 (P.take j)=false∧Below W.heap.size W wx) (fun _ _ s _=>n1 - (intOf s).toNat)
   case atStart=>exact ⟨0,by omega,rfl,rfl,hb⟩
   case round =>
    obtain ⟨j,hj,rfl,hsh,hb⟩:=hrel
    have HSH:=Lib.hid hsh
    clear hsh
    by_cases hlt:j < n1
    ·obtain ⟨ad,x,rfl,had,hx,c0,ck⟩:=(hP0.on hb).at_ pcl_len (by omega) hlt
     have d0:=c0 _ rfl
     have d1:=ck 1 _ (by omega) rfl
     have d2:=ck 2 _ (by omega) rfl
     have d3:=ck 3 _ (by omega) rfl
     have d4:=ck 4 _ (by omega) rfl
     have d5:=ck 5 _ (by omega) rfl
     have d6:=ck 6 _ (by omega) rfl
     have d7:=ck 7 _ (by omega) rfl
     have d8:=ck 8 _ (by omega) rfl
     have d9:=ck 9 _ (by omega) rfl
     have d10:=ck 10 _ (by omega) rfl
     have hzx:=HZ.out x (List.mem_of_getElem? hx)
     have HSM:=Lib.hid (short_more (W:=X) hx)
     have HSE:=Lib.hid (short_mem (W:=X) hx)
     obtain ⟨nm,bu,pe,sc,st,pa,pn,pc,h0,h1,h2,h3,h4⟩:=x
     dsimp only at d0 d1 d2 d3 d4 d5 d6 d7 d8 d9 d10 hzx
     have hbx:=bl1 wr (.cells #[.string nm,.int .i64 bu,.int .i64 pe,.bool sc,.bool st,.slice pa pn pc,.int .i64 h0,.int .i64 h1,.int .i64 h2,.int .i64 h3,.int .i64 h4] 60)
     have hb1:=hb.trans (hbx.mono hb.size)
     have f1:(wr.alloc (.cells #[.string nm,.int .i64 bu,.int .i64 pe,.bool sc,.bool st,.slice pa pn pc,.int .i64 h0,.int .i64 h1,.int .i64 h2,.int .i64 h3,.int .i64 h4] 60)).cell? ⟨wr.heap.size,1,none⟩=some (.int .i64 bu):=World.cell?_alloc_mark _ _ _ _ _
     have f2:(wr.alloc (.cells #[.string nm,.int .i64 bu,.int .i64 pe,.bool sc,.bool st,.slice pa pn pc,.int .i64 h0,.int .i64 h1,.int .i64 h2,.int .i64 h3,.int .i64 h4] 60)).cell? ⟨wr.heap.size,2,none⟩=some (.int .i64 pe):=World.cell?_alloc_mark _ _ _ _ _
     have hgx:wr.heap.size < (wr.alloc (.cells #[.string nm,.int .i64 bu,.int .i64 pe,.bool sc,.bool st,.slice pa pn pc,.int .i64 h0,.int .i64 h1,.int .i64 h2,.int .i64 h3,.int .i64 h4] 60)).heap.size:=by simp
     clear c0 ck hx hbx
     go_wp2_with fail
     generalize wr.alloc (.cells #[.string nm,.int .i64 bu,.int .i64 pe,.bool sc,.bool st,.slice pa pn pc,.int .i64 h0,.int .i64 h1,.int .i64 h2,.int .i64 h3,.int .i64 h4] 60)=W2 at hb1 f1 f2 hgx ⊢
     generalize wr.heap.size=gx at f1 f2 hgx ⊢
     have HB1:=Lib.hid hb1
     clear d0 d1 d2 d3 d4 d5 d6 d7 d8 d9 d10 hb1 had
     by_cases hbu:0 < bu
     ·have hbd:decide (0 < bu)=true:=decide_eq_true hbu
      have HBG:Hid (Calls Tryz.prog 54 #[.slice A4 n4 c4,.int .i64 (j:Int),.int .i64 pe] W2.drew fun e w5=>e=.returned (.int .i64 (budL (wordsL L) (j:Int) pe))∧Below W2.heap.size W2 w5∧w5.cell? ⟨gx,1,none⟩=some (.int .i64 bu)∧w5.cell? ⟨gx,2,none⟩=some (.int .i64 pe)):=Lib.hid (by
       refine (budget_any A4 n4 c4 L (j:Int) pe W2.drew ((hL0.on HB1.out).below (Below.refl _ _).drew) q4 q5 ht hzx).mono ?_
       rintro e w5 ⟨rfl,hb5⟩
       have hb6:Below W2.heap.size W2 w5:=⟨hb5.os,hb5.tape,hb5.output,hb5.size,hb5.block⟩
       exact ⟨rfl,hb6,(hb6.cell (p:=⟨gx,1,none⟩) hgx).trans f1,(hb6.cell (p:=⟨gx,2,none⟩) hgx).trans f2⟩)
      rw [← HX.out] at HBG
      have hps:ptShort X j ⟨nm,bu,pe,sc,st,pa,pn,pc,h0,h1,h2,h3,h4⟩=(decide (0 < bu) && decide (budL X (j:Int) pe < bu)):=rfl
      generalize budL X (j:Int) pe=z at HBG hps
      rw [hbd,Bool.true_and] at hps
      have HPS:=Lib.hid hps
      clear hps
      go_region_with (go_at_call 54;refine HBG.out.mono ?_;rintro e w5 ⟨rfl,hb5,g1,g2⟩)
      all_goals
       by_cases t2:z < bu
       ·have u2:decide (z < bu)=true:=decide_eq_true t2
        have hres:R=20:=by
         rw [HR.out]
         exact holdsF_short HALL.out (HSE.out (by rw [HPS.out];exact u2))
        subst hres
        go_wp2_with fail
        go_ret
        exact Ans.mk rfl (hb0.trans ((HB1.out.trans (hb5.mono HB1.out.size)).mono hb0.size))
       ·have u2:decide (z < bu)=false:=decide_eq_false t2
        have HN:Hid (shortF X 0 (P.take (j+1))=false):=Lib.hid (by rw [HSM.out,HSH.out,HPS.out,u2];rfl)
        go_wp2_with fail
        go_roundw
        case rel=>exact ⟨j+1,by omega,by go_num,HN.out,HB1.out.trans (hb5.mono HB1.out.size)⟩
        case measure=>simp [intOf];omega
     ·have hbd:decide (0 < bu)=false:=decide_eq_false hbu
      have hps:ptShort X j ⟨nm,bu,pe,sc,st,pa,pn,pc,h0,h1,h2,h3,h4⟩=(decide (0 < bu) && decide (budL X (j:Int) pe < bu)):=rfl
      rw [hbd,Bool.false_and] at hps
      have HN:Hid (shortF X 0 (P.take (j+1))=false):=Lib.hid (by rw [HSM.out,HSH.out,hps];rfl)
      clear hps
      go_quiet (fail)
      go_wp2_with fail
      go_roundw
      case rel=>exact ⟨j+1,by omega,by go_num,HN.out,Below.drewN HB1.out nq⟩
      case measure=>simp [intOf];omega
    ·have hge:n1≤j:=by omega
     have hres:R=0:=by
      rw [HR.out]
      refine holdsF_ok HALL.out ?_
      have h:=HSH.out
      rw [List.take_of_length_le (by rw [HPL.out];exact hge)] at h
      exact h
     subst hres
     go_wp2_with fail
     go_ret
     exact Ans.mk rfl (hb0.trans (hb.mono hb0.size))
end Go.Proofs.YtfmndmhjjbeokaaGreatDoor
namespace Go.Proofs.YtfmndmhjjbeokaaGreatDoor
open Go.RowKit Tab
set_option linter.unusedSimpArgs false
set_option linter.unusedVariables false
theorem elPc:Elt 57 62 2 16 (.agg #[.int .i64 0,.int .i64 0]):=⟨Tryz.underlying57,by kernel_rfl,rfl,by omega⟩
theorem elPt:Elt 27 60 11 104 (.agg #[.string ⟨#[]⟩,.int .i64 0,.int .i64 0,.bool false,.bool false,.slice none 0 0,.int .i64 0,.int .i64 0,.int .i64 0,.int .i64 0,.int .i64 0]):=⟨Tryz.underlying27,by kernel_rfl,rfl,by omega⟩
theorem elCh:Elt 28 66 6 48 (.agg #[.int .i64 0,.int .i64 0,.bool false,.int .i64 0,.int .u32 0,.int .i64 0]):=⟨Tryz.underlying28,by kernel_rfl,rfl,by omega⟩
theorem elNN:Elt 29 34 1 24 (.slice none 0 0):=⟨Tryz.underlying29,by kernel_rfl,rfl,by omega⟩
structure Rnd (B b:Nat) (A:Option Addr) (m c:Nat) (f:Nat→Int) (wr w:World):Prop where
 on:Only (fun k=>k=b) wr w
 tp:∃ at_,TapeW w B b A m c f at_
section
variable {B b:Nat} {A:Option Addr} {m c:Nat} {f:Nat→Int} {wr w w':World}
theorem Rnd.next {at_:Nat} (h:Rnd B b A m c f wr w) (T:TapeW w' B b A m c f at_) (hg:w.grownBy w' (some b)):Rnd B b A m c f wr w':=⟨h.on.trans (Only.gb hg rfl),⟨at_,T⟩⟩
theorem Rnd.blw {g:Nat} (h:Rnd B b A m c f wr w) (hg:wr.heap.size≤g) (hb:b < g) (hw:Below g w w'):Rnd B b A m c f wr w':=by
 obtain ⟨at_,T⟩:=h.tp
 exact ⟨⟨hw.os.trans h.on.os,hw.tape.trans h.on.tape,hw.output.trans h.on.output,Nat.le_trans h.on.size hw.size,fun k hk hn=>(hw.block k (by omega)).trans (h.on.block k hk hn)⟩,⟨at_,T.below hw hb⟩⟩
theorem Rnd.bel (h:Rnd B b A m c f wr w) (hb:b < wr.heap.size) (hw:Below w.heap.size w w'):Rnd B b A m c f wr w':=by
 obtain ⟨at_,T⟩:=h.tp
 exact ⟨h.on.trans (Only.bel hw),⟨at_,T.below hw (Nat.lt_of_lt_of_le hb h.on.size)⟩⟩
end
def pvf (x:PtV) (j:Nat):Value:=(pcl x)[j]?.getD (.bool false)
def prc (q:Int×Int):List Value:=[.int .i64 q.1,.int .i64 q.2]
theorem prc_len (q:Int×Int):(prc q).length=2:=rfl
theorem prc_one (l:List (Int×Int)):∀ u∈l.flatMap prc,u.oneCell'=true:=by
 intro u hu
 obtain ⟨x,_,hx⟩:=List.mem_flatMap.1 hu
 simp [prc] at hx
 rcases hx with rfl | rfl <;> rfl
structure PrtS (gx:Nat) (x:PtV) (L:List (Int×Int)) (w:World):Prop where
 ve:Vec w gx 11 (pvf x)
 pr:OwnV 62 2 w (gx+1) x.pa x.pn x.pc (L.flatMap prc)
section
variable {gx:Nat} {x:PtV} {L:List (Int×Int)} {w w':World}
theorem PrtS.keep (h:PrtS gx x L w) (hs:w.heap.size≤w'.heap.size) (hk:∀ k,gx≤k→k < w.heap.size→w'.heap[k]? = w.heap[k]?):PrtS gx x L w' :=
 ⟨h.ve.keep (hk gx (Nat.le_refl _) h.ve.lt) hs,h.pr.keep fun k h1 h2=>hk k (by omega) h2⟩
theorem PrtS.gb {b:Nat} (h:PrtS gx x L w) (hg:w.grownBy w' (some b)) (hb:b < gx):PrtS gx x L w':=h.keep hg.size fun k h1 h2=>hg.block k h2 fun e=>by injection e with e;omega
theorem PrtS.bel (h:PrtS gx x L w) (hb:Below w.heap.size w w'):PrtS gx x L w':=h.keep hb.size fun k _ h2=>hb.block k h2
theorem PrtS.at_ (h:PrtS gx x L w) (hL:∀ q∈L,PcOk q.1 q.2):ProcsAt w w.heap.size x.pa x.pn:=fun i hi=>by
 have hl:L.length=x.pn:=by
  have:=h.pr.len
  rw [flat_len prc_len] at this
  omega
 have hr:RdB prc w w.heap.size x.pa x.pn L:=⟨hl,h.pr.rd⟩
 obtain ⟨ad,q,hA,hb,hq,c0,ck⟩:=hr.at_ prc_len (by omega) hi
 exact ⟨ad,q.1,q.2,hA,hb,c0 _ rfl,ck 1 _ (by omega) rfl,hL q (List.mem_of_getElem? hq)⟩
end
theorem box2_rd {w:World} {g:Nat} {v0 v1:Value} (h0:w.cell? ⟨g,0,none⟩=some v0) (h1:w.cell? ⟨g,1,none⟩=some v1):RdV w w.heap.size (some ⟨g,0,none⟩) [v0,v1]:=fun _=>by
 refine ⟨_,rfl,World.block_lt_of_cell? w _ h0,fun j v hj=>?_⟩
 match j with
 | 0=>simp at hj;subst hj;simpa [Addr.add] using h0
 | 1=>simp at hj;subst hj;simpa [Addr.add] using h1
 | j+2=>simp at hj
def PcV (b gx:Nat) (x:PtV) (L:List (Int×Int)) (j:Nat) (v:Value) (w:World):Prop :=
 match j with
 | 0=>v=.pointer (some ⟨gx,5,none⟩)
 | 1=>v=.slice x.pa x.pn x.pc
 | 2=>v=.pointer (some ⟨b,0,none⟩)
 | 3=>∃ k:Nat,k < 6∧v=.int .i64 (k:Int)
 | 4=>∃ k:Int,v=.int .i64 k∧0≤k∧k < 512
 | 5=>v=.pointer (some ⟨b,0,none⟩)
 | 6=>∃ k:Int,v=.int .i64 k∧0≤k∧k≤255
 | 7=>∃ p q:Int,v=.agg #[.int .i64 p,.int .i64 q]∧PcOk p q
 | 8=>∃ (g:Nat) (p q:Int),v=.slice (some ⟨g,0,none⟩) 1 1∧gx < g∧g < w.heap.size∧obk x.pa≠some g∧w.cell? ⟨g,0,none⟩=some (.int .i64 p)∧w.cell? ⟨g,1,none⟩=some (.int .i64 q)∧PcOk p q
 | 9=>∃ (A':Option Addr) (c':Nat) (q:Int×Int),v=.slice A' (x.pn+1:Nat) c'∧OwnV 62 2 w (gx+1) A' (x.pn+1) c' ((L++[q]).flatMap prc)∧PcOk q.1 q.2
 | 10=>v=.pointer (some ⟨gx,5,none⟩)
 | 11=>∃ (A':Option Addr) (c':Nat) (q:Int×Int),PrtS gx { x with pa:=A',pn:=x.pn+1,pc:=c' } (L++[q]) w∧PcOk q.1 q.2
 | _=>True
structure PcW (B b:Nat) (A:Option Addr) (m c:Nat) (f:Nat→Int) (wr:World) (gx:Nat) (x:PtV) (L:List (Int×Int)) (live:Nat→Bool) (w:World):Prop where
 rn:Rnd B b A m c f wr w
 lt:gx < w.heap.size
 ve:live 11=false→Vec w gx 11 (pvf x)
 pr:live 9=false→OwnV 62 2 w (gx+1) x.pa x.pn x.pc (L.flatMap prc)
section
variable {b gx:Nat} {x:PtV} {L:List (Int×Int)} {w w':World}
theorem PcV.keep (hs:w.heap.size≤w'.heap.size) (j:Nat) (v:Value) (hk:∀ k,(j=11∧gx≤k)∨(j=9∧gx < k)∨(j=8∧gx < k∧obk x.pa≠some k)→k < w.heap.size→w'.heap[k]? = w.heap[k]?) (h:PcV b gx x L j v w):PcV b gx x L j v w':=by
 unfold PcV at h ⊢
 split at h
 case h_9 =>
  obtain ⟨g,p,q,h1,h2,h3,h4,h5,h6,h7⟩:=h
  have hb:=hk g (.inr (.inr ⟨rfl,h2,h4⟩)) h3
  exact ⟨g,p,q,h1,h2,by omega,h4,(World.cell?_of_block hb).trans h5,(World.cell?_of_block hb).trans h6,h7⟩
 case h_10 =>
  obtain ⟨A',c',q,h1,h2,h7⟩:=h
  exact ⟨A',c',q,h1,h2.keep fun k h3 h4=>hk k (.inr (.inl ⟨rfl,by omega⟩)) h4,h7⟩
 case h_12 =>
  obtain ⟨A',c',q,h1,h7⟩:=h
  exact ⟨A',c',q,h1.keep hs fun k h3 h4=>hk k (.inl ⟨rfl,h3⟩) h4,h7⟩
 all_goals exact h
theorem PcV.gb (hb:b < gx) (hg:w.grownBy w' (some b)) (j:Nat) (v:Value) (h:PcV b gx x L j v w):PcV b gx x L j v w' :=
 h.keep hg.size j v fun k hk hl=>hg.block k hl fun e=>by
  injection e with e
  rcases hk with hk | hk | hk <;> omega
theorem PcV.bel (hb:Below w.heap.size w w') (j:Nat) (v:Value) (h:PcV b gx x L j v w):PcV b gx x L j v w':=h.keep hb.size j v fun k _ hl=>hb.block k hl
variable {B m c:Nat} {A:Option Addr} {f:Nat→Int} {wr:World} {live:Nat→Bool}
theorem PcW.upd (h:PcW B b A m c f wr gx x L live w) (i:Nat):PcW B b A m c f wr gx x L (Rgs.upd live i) w:=⟨h.rn,h.lt,fun e=>h.ve (Rgs.upd_off e),fun e=>h.pr (Rgs.upd_off e)⟩
theorem PcW.next (h:PcW B b A m c f wr gx x L live w) (hb:b < gx) {at_:Nat} (T:TapeW w' B b A m c f at_) (hg:w.grownBy w' (some b)):PcW B b A m c f wr gx x L live w' :=
 ⟨h.rn.next T hg,Nat.lt_of_lt_of_le h.lt hg.size,fun e=>(h.ve e).keep (hg.block gx h.lt fun e=>by injection e with e;omega) hg.size,fun e=>(h.pr e).gb hg (by omega)⟩
theorem PcW.bel (h:PcW B b A m c f wr gx x L live w) (hb:b < wr.heap.size) (hw:Below w.heap.size w w'):PcW B b A m c f wr gx x L live w' :=
 ⟨h.rn.bel hb hw,Nat.lt_of_lt_of_le h.lt hw.size,fun e=>(h.ve e).on hw,fun e=>(h.pr e).below rfl hw⟩
end
theorem pcl_one (l:List PtV):∀ u∈l.flatMap pcl,u.oneCell'=true:=by
 intro u hu
 obtain ⟨x,_,hx⟩:=List.mem_flatMap.1 hu
 simp [pcl] at hx
 rcases hx with rfl | rfl | rfl | rfl | rfl | rfl | rfl | rfl | rfl | rfl | rfl <;> rfl
theorem cc_one (l:List ChV):∀ u∈l.flatMap cc,u.oneCell'=true:=by
 intro u hu
 obtain ⟨x,_,hx⟩:=List.mem_flatMap.1 hu
 simp [cc] at hx
 rcases hx with rfl | rfl | rfl | rfl | rfl | rfl <;> rfl
theorem tcl_one (l:List TbV):∀ u∈l.flatMap tcl,u.oneCell'=true:=by
 intro u hu
 obtain ⟨x,_,hx⟩:=List.mem_flatMap.1 hu
 simp [tcl] at hx
 subst hx
 rfl
def HealP (x:PtV):Prop:=(0≤x.h0∧x.h0≤2)∧(0≤x.h1∧x.h1≤2)∧(0≤x.h2∧x.h2≤2)∧(0≤x.h3∧x.h3≤2)∧(0≤x.h4∧x.h4≤2)
def nmL (i:Nat):ByteArray:=({ data:=#[112] }:ByteArray)++Utf8.encode (97+i)
def PtsN (P:List PtV):Prop:=∀ i x,P[i]? = some x→x.name=nmL i∧x.bud=0∧x.per=0∧HealP x∧(1≤x.pn∧x.pn≤2)∧x.pn≤x.pc
theorem PtsN.more {P:List PtV} (h:PtsN P) {x:PtV} {n:Nat} (hn:P.length=n) (hx:x.name=nmL n∧x.bud=0∧x.per=0∧HealP x∧(1≤x.pn∧x.pn≤2)∧x.pn≤x.pc):PtsN (P++[x]):=fun i y hy=>by
 rcases Nat.lt_or_ge i P.length with h1 | h1
 ·rw [List.getElem?_append_left h1] at hy
  exact h i y hy
 ·rw [List.getElem?_append_right h1] at hy
  have h2:=(List.getElem?_eq_some_iff.1 hy).1
  simp at h2
  obtain rfl:i=n:=by omega
  rw [show i - P.length=0 by omega] at hy
  simp at hy
  subst hy
  exact hx
theorem PtsN.bud {P:List PtV} (h:PtsN P):∀ x∈P,x.bud≤0:=fun x hx=>by
 obtain ⟨i,hi⟩:=List.getElem?_of_mem hx
 rw [(h i x hi).2.1]
 exact Int.le_refl _
theorem PrtS.heal {gx:Nat} {x:PtV} {L:List (Int×Int)} {w:World} (h:PrtS gx x L w) {j:Nat} (hj:j < 5) (z:Int) (hz:0≤z∧z≤2) (hl:HealP x):∃ x':PtV,x'.pa=x.pa∧x'.pn=x.pn∧x'.pc=x.pc∧x'.per=x.per∧x'.bud=x.bud∧x'.name=x.name∧HealP x'∧PrtS gx x' L (w.setCell ⟨gx,6+j,none⟩ (.int .i64 z)):=by
 have hpr:OwnV 62 2 (w.setCell ⟨gx,6+j,none⟩ (.int .i64 z)) (gx+1) x.pa x.pn x.pc (L.flatMap prc):=h.pr.other _ _ fun g e e2=>by have:=(h.pr.obk_ge (b:=g) (by rw [e];rfl)).1;have e2:g=gx:=e2;omega
 have hv:=h.ve.set (6+j) (.int .i64 z)
 rcases (by omega:j=0∨j=1∨j=2∨j=3∨j=4) with rfl | rfl | rfl | rfl | rfl
 ·exact ⟨{ x with h0:=z },rfl,rfl,rfl,rfl,rfl,rfl,⟨hz,hl.2.1,hl.2.2.1,hl.2.2.2.1,hl.2.2.2.2⟩,hv.congr fun i hi=>by rcases (by omega:i=0∨i=1∨i=2∨i=3∨i=4∨i=5∨i=6∨i=7∨i=8∨i=9∨i=10) with rfl | rfl | rfl | rfl | rfl | rfl | rfl | rfl | rfl | rfl | rfl <;> rfl,hpr⟩
 ·exact ⟨{ x with h1:=z },rfl,rfl,rfl,rfl,rfl,rfl,⟨hl.1,hz,hl.2.2.1,hl.2.2.2.1,hl.2.2.2.2⟩,hv.congr fun i hi=>by rcases (by omega:i=0∨i=1∨i=2∨i=3∨i=4∨i=5∨i=6∨i=7∨i=8∨i=9∨i=10) with rfl | rfl | rfl | rfl | rfl | rfl | rfl | rfl | rfl | rfl | rfl <;> rfl,hpr⟩
 ·exact ⟨{ x with h2:=z },rfl,rfl,rfl,rfl,rfl,rfl,⟨hl.1,hl.2.1,hz,hl.2.2.2.1,hl.2.2.2.2⟩,hv.congr fun i hi=>by rcases (by omega:i=0∨i=1∨i=2∨i=3∨i=4∨i=5∨i=6∨i=7∨i=8∨i=9∨i=10) with rfl | rfl | rfl | rfl | rfl | rfl | rfl | rfl | rfl | rfl | rfl <;> rfl,hpr⟩
 ·exact ⟨{ x with h3:=z },rfl,rfl,rfl,rfl,rfl,rfl,⟨hl.1,hl.2.1,hl.2.2.1,hz,hl.2.2.2.2⟩,hv.congr fun i hi=>by rcases (by omega:i=0∨i=1∨i=2∨i=3∨i=4∨i=5∨i=6∨i=7∨i=8∨i=9∨i=10) with rfl | rfl | rfl | rfl | rfl | rfl | rfl | rfl | rfl | rfl | rfl <;> rfl,hpr⟩
 ·exact ⟨{ x with h4:=z },rfl,rfl,rfl,rfl,rfl,rfl,⟨hl.1,hl.2.1,hl.2.2.1,hl.2.2.2.1,hz⟩,hv.congr fun i hi=>by rcases (by omega:i=0∨i=1∨i=2∨i=3∨i=4∨i=5∨i=6∨i=7∨i=8∨i=9∨i=10) with rfl | rfl | rfl | rfl | rfl | rfl | rfl | rfl | rfl | rfl | rfl <;> rfl,hpr⟩
def zch:ChV:=⟨0,0,false,0,0,0⟩
def ccf (x:ChV) (j:Nat):Value:=(cc x)[j]?.getD (.bool false)
def ChOk (n:Nat) (x:ChV):Prop:=0≤x.from_∧x.from_ < n∧0≤x.to_∧x.to_ < n∧0≤x.max∧x.max≤4294967295
def ChNew0 (n:Nat) (x:ChV):Prop:=ChOk n x∧x.late=0∧x.from_≠x.to_∧x.cap=0
def ChNew (n:Nat) (x:ChV):Prop:=ChOk n x∧x.late=0∧x.from_≠x.to_∧if x.queue=true then 1≤x.cap∧x.cap≤8 else x.cap=0
theorem round_ne {f k n:Nat} (hf:f < n) (hk:k < n - 1):(f+1+k) % n≠f:=by
 rcases Nat.lt_or_ge (f+1+k) n with h | h
 ·rw [Nat.mod_eq_of_lt h]
  omega
 ·rw [Nat.mod_eq_sub_mod h,Nat.mod_eq_of_lt (by omega)]
  omega
def ChqV (b base n fr:Nat) (j:Nat) (v:Value) (w:World):Prop :=
 match j with
 | 0=>v=.int .i64 (fr:Int)
 | 1=>v=.int .i64 (fr:Int)
 | 2=>v=.int .i64 ((fr:Int)+1)
 | 3=>v=.pointer (some ⟨b,0,none⟩)
 | 4=>v=.int .i64 (n:Int)
 | 5=>v=.int .i64 ((n:Int) - 1)
 | 6=>∃ k:Nat,k < n - 1∧v=.int .i64 (k:Int)
 | 7=>∃ k:Nat,k < n - 1∧v=.int .i64 ((fr:Int)+1+(k:Int))
 | 8=>v=.int .i64 (n:Int)
 | 9=>∃ k:Nat,(k < n∧k≠fr)∧v=.int .i64 (k:Int)
 | 10=>v=.pointer (some ⟨b,0,none⟩)
 | 11=>∃ k:Int,v=.int .i64 k
 | 12=>∃ q:Bool,v=.bool q
 | 13=>∃ g:Nat,v=.slice (some ⟨g,0,none⟩) 3 3∧base≤g∧g < w.heap.size∧∀ k,k < 3→∃ z:Int,w.cell? ⟨g,k,none⟩=some (.int .u32 z)∧0≤z∧z≤4294967295
 | 14=>v=.pointer (some ⟨b,0,none⟩)
 | 15=>∃ k:Nat,k < 3∧v=.int .i64 (k:Int)
 | 16=>∃ (g k:Nat) (z:Int),v=.pointer (some ⟨g,k,none⟩)∧base≤g∧g < w.heap.size∧w.cell? ⟨g,k,none⟩=some (.int .u32 z)∧(0≤z∧z≤4294967295)∧∃ z,w.cell? ⟨g,0,none⟩=some (.int .u32 z)
 | 17=>∃ z:Int,v=.int .u32 z∧0≤z∧z≤4294967295
 | 18=>∃ x:ChV,ChNew0 n x∧v=cv x
 | _=>True
structure ChqW (B b:Nat) (A:Option Addr) (m c:Nat) (f:Nat→Int) (wr:World) (n:Nat) (live:Nat→Bool) (a:Act) (w:World):Prop where
 rn:Rnd B b A m c f wr w
 un:live 19=true→live 20=false→∃ g,a.eval (.tmp 11)=.pointer (some ⟨g,0,none⟩)∧wr.heap.size≤g∧Vec w g 6 (ccf zch)
 at_:live 20=true→∃ g x,a.eval (.tmp 11)=.pointer (some ⟨g,0,none⟩)∧wr.heap.size≤g∧ChNew0 n x∧Vec w g 6 (ccf x)
section
variable {b base n fr:Nat} {w w':World}
theorem ChqV.keep (hs:w.heap.size≤w'.heap.size) (j:Nat) (v:Value) (hk:∀ k,base≤k→(∃ z,w.cell? ⟨k,0,none⟩=some (.int .u32 z))→k < w.heap.size→w'.heap[k]? = w.heap[k]?) (h:ChqV b base n fr j v w):ChqV b base n fr j v w':=by
 unfold ChqV at h ⊢
 split at h
 case h_14 =>
  obtain ⟨g,h1,h2,h3,h4⟩:=h
  exact ⟨g,h1,h2,by omega,fun k hk3=>by
   obtain ⟨z,hz,hz1⟩:=h4 k hk3
   obtain ⟨z0,hz0,_⟩:=h4 0 (by omega)
   exact ⟨z,(World.cell?_of_block (hk g h2 ⟨z0,hz0⟩ h3)).trans hz,hz1⟩⟩
 case h_17 =>
  obtain ⟨g,k,z,h1,h2,h3,h4,hzz,z0,h5⟩:=h
  exact ⟨g,k,z,h1,h2,by omega,(World.cell?_of_block (hk g h2 ⟨z0,h5⟩ h3)).trans h4,hzz,z0,(World.cell?_of_block (hk g h2 ⟨z0,h5⟩ h3)).trans h5⟩
 all_goals exact h
theorem ChqV.gb (hb:b < base) (hg:w.grownBy w' (some b)) (j:Nat) (v:Value) (h:ChqV b base n fr j v w):ChqV b base n fr j v w' :=
 h.keep hg.size j v fun k hk _ hl=>hg.block k hl fun e=>by injection e with e;omega
theorem ChqV.bel (hb:Below w.heap.size w w') (j:Nat) (v:Value) (h:ChqV b base n fr j v w):ChqV b base n fr j v w':=h.keep hb.size j v fun k _ _ hl=>hb.block k hl
variable {B m c:Nat} {A:Option Addr} {f:Nat→Int} {wr:World} {live:Nat→Bool} {a:Act}
theorem ChqW.upd (h:ChqW B b A m c f wr n live a w) (i:Nat) (d:Tmp) (v:Value) (hi:i≠19∧i≠20) (hd:d≠11):ChqW B b A m c f wr n (Rgs.upd live i) (a.put (some d) v) w:=by
 have e1:Rgs.upd live i 19=live 19:=by unfold Rgs.upd;simp [Ne.symm hi.1]
 have e2:Rgs.upd live i 20=live 20:=by unfold Rgs.upd;simp [Ne.symm hi.2]
 refine ⟨h.rn,fun h1 h2=>?_,fun h1=>?_⟩
 ·rw [Reg.eval_other _ _ _ _ hd]
  exact h.un (e1▸h1) (e2▸h2)
 ·rw [Reg.eval_other _ _ _ _ hd]
  exact h.at_ (e2▸h1)
theorem ChqW.next (h:ChqW B b A m c f wr n live a w) (hb:b < wr.heap.size) {at_:Nat} (T:TapeW w' B b A m c f at_) (hg:w.grownBy w' (some b)):ChqW B b A m c f wr n live a w':=by
 refine ⟨h.rn.next T hg,fun h1 h2=>?_,fun h1=>?_⟩
 ·obtain ⟨g,e,hle,hv⟩:=h.un h1 h2
  exact ⟨g,e,hle,hv.keep (hg.block g hv.lt fun e=>by injection e with e;omega) hg.size⟩
 ·obtain ⟨g,x,e,hle,ho,hv⟩:=h.at_ h1
  exact ⟨g,x,e,hle,ho,hv.keep (hg.block g hv.lt fun e=>by injection e with e;omega) hg.size⟩
theorem ChqW.bel (h:ChqW B b A m c f wr n live a w) (hb:b < wr.heap.size) (hw:Below w.heap.size w w'):ChqW B b A m c f wr n live a w':=by
 refine ⟨h.rn.bel hb hw,fun h1 h2=>?_,fun h1=>?_⟩
 ·obtain ⟨g,e,hle,hv⟩:=h.un h1 h2
  exact ⟨g,e,hle,hv.on hw⟩
 ·obtain ⟨g,x,e,hle,ho,hv⟩:=h.at_ h1
  exact ⟨g,x,e,hle,ho,hv.on hw⟩
end
def TbQ (Q:Nat) (x:TbV):Prop:=∀ y∈x.x::x.k.flat,0≤y.p∧y.p < (Q:Int)
structure TbGood (BB:Nat) (A1 A2 A3:Option Addr) (Q:Nat) (x:TbV) (w:World):Prop where
 q:TbQ Q x
 at_:TbAt w w.heap.size x∧Frame x
 ap:∀ k,obk x.A=some k→BB≤k∧k < w.heap.size∧obk A1≠some k∧obk A2≠some k∧obk A3≠some k
theorem TbGood.only {BB Q:Nat} {A1 A2 A3:Option Addr} {x:TbV} {w w':World} {p:Nat→Prop} (h:TbGood BB A1 A2 A3 Q x w) (ho:Only p w w') (hp:∀ k,p k→k < BB∨obk A3=some k):TbGood BB A1 A2 A3 Q x w' :=
 ⟨h.q,⟨h.at_.1.only ho fun k hk e=>by
   have h1:=h.ap k hk
   rcases hp k e with e | e
   ·omega
   ·exact h1.2.2.2.2 e,h.at_.2⟩,fun k hk=>⟨(h.ap k hk).1,Nat.lt_of_lt_of_le (h.ap k hk).2.1 ho.size,(h.ap k hk).2.2⟩⟩
section
variable (B b:Nat) (A:Option Addr) (m c:Nat) (f:Nat→Int) (w0:World) (gr gc BB:Nat) (A1 A2 A3:Option Addr) (n1 n2 n3 c1 c2 c3:Nat) (P:List PtV) (C:List ChV) (T:List TbV)
def TbqV (j:Nat) (v:Value) (w:World):Prop :=
 match j with
 | 0=>v=.pointer (some ⟨gc,2,none⟩)
 | 1=>v=.slice A3 n3 c3
 | 2=>v=.pointer (some ⟨b,0,none⟩)
 | 3=>v=.int .i64 (n1:Int)
 | 4=>∃ x:TbV,v=.slice x.A x.n x.c∧TbGood BB A1 A2 A3 n1 x w
 | 5=>∃ (g:Nat) (x:TbV),v=.slice (some ⟨g,0,none⟩) 1 1∧BB≤g∧g < w.heap.size∧obk A3≠some g∧w.cell? ⟨g,0,none⟩=some (.slice x.A x.n x.c)∧TbGood BB A1 A2 A3 n1 x w
 | 6=>w.cell? ⟨gc,2,none⟩=some (.slice A3 n3 c3)→∃ (A':Option Addr) (c':Nat) (w1:World) (x:TbV),v=.slice A' (n3+1:Nat) c'∧CfgS B b A m c f w0 gr gc BB A1 A2 A3 n1 n2 n3 c1 c2 c3 P C T w1∧TbGood BB A1 A2 A3 n1 x w1∧Grew A3 A' w1 w∧OwnV 34 1 w BB A' (n3+1) c' ((T++[x]).flatMap tcl)
 | 7=>v=.pointer (some ⟨gc,2,none⟩)
 | 8=>∃ (A':Option Addr) (c':Nat) (x:TbV),CfgS B b A m c f w0 gr gc BB A1 A2 A' n1 n2 (n3+1) c1 c2 c' P C (T++[x]) w∧TbQ n1 x
 | _=>True
structure TbqW (live:Nat→Bool) (w:World):Prop where
 cf:live 6=false→CfgS B b A m c f w0 gr gc BB A1 A2 A3 n1 n2 n3 c1 c2 c3 P C T w
 ce:live 8=false→w.cell? ⟨gc,2,none⟩=some (.slice A3 n3 c3)∧w.frozen? ⟨gc,2,none⟩=false∧BB≤w.heap.size
end
section
variable {B b:Nat} {A:Option Addr} {m c:Nat} {f:Nat→Int} {w0:World} {gr gc BB:Nat} {A1 A2 A3:Option Addr} {n1 n2 n3 c1 c2 c3:Nat} {P:List PtV} {C:List ChV} {T:List TbV} {w w':World} {live:Nat→Bool}
theorem TbqW.upd (h:TbqW B b A m c f w0 gr gc BB A1 A2 A3 n1 n2 n3 c1 c2 c3 P C T live w) (i:Nat):TbqW B b A m c f w0 gr gc BB A1 A2 A3 n1 n2 n3 c1 c2 c3 P C T (Rgs.upd live i) w:=⟨fun e=>h.cf (Rgs.upd_off e),fun e=>h.ce (Rgs.upd_off e)⟩
theorem TbqV.keep {p:Nat→Prop} (j:Nat) (v:Value) (ho:Only p w w') (hp:∀ k,p k→k < BB∨obk A3=some k) (h6:j≠6) (h8:j≠8) (h:TbqV B b A m c f w0 gr gc BB A1 A2 A3 n1 n2 n3 c1 c2 c3 P C T j v w):TbqV B b A m c f w0 gr gc BB A1 A2 A3 n1 n2 n3 c1 c2 c3 P C T j v w':=by
 unfold TbqV at h ⊢
 split at h
 case h_5 =>
  obtain ⟨x,h1,h2⟩:=h
  exact ⟨x,h1,h2.only ho hp⟩
 case h_6 =>
  obtain ⟨g,x,h1,h2,h3,h4,h5,h6⟩:=h
  refine ⟨g,x,h1,h2,Nat.lt_of_lt_of_le h3 ho.size,h4,(World.cell?_of_block (ho.block g h3 fun e=>?_)).trans h5,h6.only ho hp⟩
  rcases hp g e with e | e
  ·omega
  ·exact h4 e
 case h_7=>exact absurd rfl h6
 case h_9=>exact absurd rfl h8
 all_goals exact h
theorem Only.grew {A0 A':Option Addr} (h:Grew A0 A' w w'):Only (fun k=>obk A0=some k) w w':=⟨h.gb.os,h.gb.tape,h.gb.output,h.gb.size,fun k hk hn=>h.gb.block k hk fun e=>hn e.symm⟩
end
theorem box1_rd {w:World} {g:Nat} {v0:Value} (h0:w.cell? ⟨g,0,none⟩=some v0):RdV w w.heap.size (some ⟨g,0,none⟩) [v0]:=fun _=>by
 refine ⟨_,rfl,World.block_lt_of_cell? w _ h0,fun j v hj=>?_⟩
 match j with
 | 0=>simp at hj;subst hj;simpa [Addr.add] using h0
 | j+1=>simp at hj
def CfgP (B b:Nat) (A:Option Addr) (m c:Nat) (f:Nat→Int) (w:World) (e:Ending) (w':World):Prop :=
 ∃ (A1 A2 A3:Option Addr) (n1 n2 n3 c1 c2 c3:Nat) (P:List PtV) (C:List ChV) (T:List TbV) (at':Nat),e=.returned (.agg #[.slice A1 n1 c1,.slice A2 n2 c2,.slice A3 n3 c3])∧CfW w' w'.heap.size A1 A2 n1 n2 P C∧1≤n1∧n1≤4∧n2≤3∧n1≤c1∧n2≤c2 ∧
  (∀ x∈C,ChOk n1 x)∧RdB tcl w' w'.heap.size A3 n3 T∧(∀ t∈T,TbAt w' w'.heap.size t∧Frame t)∧1≤n3∧n3≤2∧n3≤c3∧TapeW w' B b A m c f at'∧w.grownBy w' (some b)
def CfgPx (B b:Nat) (A:Option Addr) (m c:Nat) (f:Nat→Int) (w:World) (e:Ending) (w':World):Prop :=
 ∃ (A1 A2 A3:Option Addr) (n1 n2 n3 c1 c2 c3:Nat) (P:List PtV) (C:List ChV) (T:List TbV) (at':Nat),e=.returned (.agg #[.slice A1 n1 c1,.slice A2 n2 c2,.slice A3 n3 c3])∧CfW w' w'.heap.size A1 A2 n1 n2 P C∧1≤n1∧n1≤4∧n2≤3∧n1≤c1∧n2≤c2 ∧
  (∀ x∈C,ChOk n1 x)∧RdB tcl w' w'.heap.size A3 n3 T∧(∀ t∈T,TbAt w' w'.heap.size t∧Frame t)∧1≤n3∧n3≤2∧n3≤c3∧TapeW w' B b A m c f at'∧w.grownBy w' (some b) ∧
  (∀ x∈P,In64 x.per)∧(∀ x∈C,∀ t∈T,chLate (wordsL (rowF t)) x=false)∧(∀ k x,P[k]? = some x→∀ t∈T,ptShort (wordsL (rowF t)) k x=false) ∧
  OwnB 60 11 pcl w' w.heap.size A1 n1 c1 P∧OwnB 66 6 cc w' w.heap.size A2 n2 c2 C∧(∀ k,obk A1=some k→obk A2≠some k)
def CfgPz (B b:Nat) (A:Option Addr) (m c:Nat) (f:Nat→Int) (w:World) (e:Ending) (w':World):Prop :=
 ∃ (A1 A2 A3:Option Addr) (n1 n2 n3 c1 c2 c3:Nat) (P:List PtV) (C:List ChV) (T:List TbV) (at':Nat),e=.returned (.agg #[.slice A1 n1 c1,.slice A2 n2 c2,.slice A3 n3 c3])∧CfW w' w'.heap.size A1 A2 n1 n2 P C∧1≤n1∧n1≤4∧n2≤3∧n1≤c1∧n2≤c2 ∧
  (∀ x∈C,ChOk n1 x)∧RdB tcl w' w'.heap.size A3 n3 T∧(∀ t∈T,TbAt w' w'.heap.size t∧Frame t)∧1≤n3∧n3≤2∧n3≤c3∧TapeW w' B b A m c f at'∧w.grownBy w' (some b) ∧
  (∀ x∈P,In64 x.per)∧(∀ x∈C,∀ t∈T,chLate (wordsL (rowF t)) x=false)∧(∀ k x,P[k]? = some x→∀ t∈T,ptShort (wordsL (rowF t)) k x=false) ∧
  OwnB 60 11 pcl w' w.heap.size A1 n1 c1 P∧OwnB 66 6 cc w' w.heap.size A2 n2 c2 C∧(∀ k,obk A1=some k→obk A2≠some k) ∧
  (∀ k,obk A3=some k→w.heap.size≤k)∧(∀ t∈T,∀ k,obk t.A=some k→w.heap.size≤k)
def CfgZ (Rt:Nat→List PtV→List ChV→List TbV→World→Prop) (B b:Nat) (A:Option Addr) (m c:Nat) (f:Nat→Int) (w:World) (e:Ending) (w':World):Prop :=
 ∃ (A1 A2 A3:Option Addr) (n1 n2 n3 c1 c2 c3:Nat) (P:List PtV) (C:List ChV) (T:List TbV) (at':Nat),e=.returned (.agg #[.slice A1 n1 c1,.slice A2 n2 c2,.slice A3 n3 c3])∧CfW w' w'.heap.size A1 A2 n1 n2 P C∧1≤n1∧n1≤4∧n2≤3∧n1≤c1∧n2≤c2 ∧
  (∀ x∈C,ChOk n1 x)∧RdB tcl w' w'.heap.size A3 n3 T∧(∀ t∈T,TbAt w' w'.heap.size t∧Frame t)∧1≤n3∧n3≤2∧n3≤c3∧TapeW w' B b A m c f at'∧w.grownBy w' (some b) ∧
  (∀ x∈P,In64 x.per)∧(∀ x∈C,∀ t∈T,chLate (wordsL (rowF t)) x=false)∧(∀ k x,P[k]? = some x→∀ t∈T,ptShort (wordsL (rowF t)) k x=false) ∧
  OwnB 60 11 pcl w' w.heap.size A1 n1 c1 P∧OwnB 66 6 cc w' w.heap.size A2 n2 c2 C∧(∀ k,obk A1=some k→obk A2≠some k) ∧
  (∀ k,obk A3=some k→w.heap.size≤k)∧(∀ t∈T,∀ k,obk t.A=some k→w.heap.size≤k)∧Rt n1 P C T w'
theorem CfgZ.z {Rt:Nat→List PtV→List ChV→List TbV→World→Prop} {B b:Nat} {A:Option Addr} {m c:Nat} {f:Nat→Int} {w w':World} {e:Ending} (h:CfgZ Rt B b A m c f w e w'):CfgPz B b A m c f w e w':=by
 obtain ⟨A1,A2,A3,n1,n2,n3,c1,c2,c3,P,C,T,at',h1,h2,h3,h4,h5,h6,h7,h8,h9,h10,h11,h12,h13,h14,h15,h16,h17,h18,h19,h20,h21,h22,h23,_⟩:=h
 exact ⟨A1,A2,A3,n1,n2,n3,c1,c2,c3,P,C,T,at',h1,h2,h3,h4,h5,h6,h7,h8,h9,h10,h11,h12,h13,h14,h15,h16,h17,h18,h19,h20,h21,h22,h23⟩
theorem CfgPz.x {B b:Nat} {A:Option Addr} {m c:Nat} {f:Nat→Int} {w w':World} {e:Ending} (h:CfgPz B b A m c f w e w'):CfgPx B b A m c f w e w':=by
 obtain ⟨A1,A2,A3,n1,n2,n3,c1,c2,c3,P,C,T,at',h1,h2,h3,h4,h5,h6,h7,h8,h9,h10,h11,h12,h13,h14,h15,h16,h17,h18,h19,h20,h21,_⟩:=h
 exact ⟨A1,A2,A3,n1,n2,n3,c1,c2,c3,P,C,T,at',h1,h2,h3,h4,h5,h6,h7,h8,h9,h10,h11,h12,h13,h14,h15,h16,h17,h18,h19,h20,h21⟩
theorem CfgPx.p {B b:Nat} {A:Option Addr} {m c:Nat} {f:Nat→Int} {w w':World} {e:Ending} (h:CfgPx B b A m c f w e w'):CfgP B b A m c f w e w':=by
 obtain ⟨A1,A2,A3,n1,n2,n3,c1,c2,c3,P,C,T,at',h1,h2,h3,h4,h5,h6,h7,h8,h9,h10,h11,h12,h13,h14,h15,_⟩:=h
 exact ⟨A1,A2,A3,n1,n2,n3,c1,c2,c3,P,C,T,at',h1,h2,h3,h4,h5,h6,h7,h8,h9,h10,h11,h12,h13,h14,h15⟩
def pO (b:Nat) (A1 A2:Option Addr) (k:Nat):Prop:=k=b∨obk A1=some k∨obk A2=some k
section
variable {B b:Nat} {A:Option Addr} {m c:Nat} {f:Nat→Int} {w:World} {gr gc BB:Nat} {A1 A2 A3:Option Addr} {n1 n2 n3 c1 c2 c3:Nat} {P P':List PtV} {C C':List ChV} {T:List TbV} {wr w':World}
theorem CfgS.asked (h:CfgS B b A m c f w gr gc BB A1 A2 A3 n1 n2 n3 c1 c2 c3 P C T wr) (hB:CfgB b w gr gc BB):Asked (pO b A1 A2) wr A3 n3 P T:=by
 have h1:=hB.br
 have h3:=hB.rc
 have h4:=hB.cB
 refine ⟨h.tb.rdb,fun t ht=>(h.tt t ht).1,fun x hx=>(h.pt x hx).1,fun k hk e=>?_,fun t ht k hk e=>?_,fun x hx k hk e=>?_⟩
 ·rcases e with e | e | e
  ·have:=(h.tb.own.obk_ge hk).1;omega
  ·exact h.d13 k e hk
  ·exact h.d23 k e hk
 ·have h5:=(h.tt t ht).2 k hk
  rcases e with e | e | e
  ·omega
  ·exact h5.2.2.1 e
  ·exact h5.2.2.2.1 e
 ·have h5:=(h.pt x hx).2 k hk
  rcases e with e | e | e
  ·omega
  ·exact h5.2.2.1 e
  ·exact h5.2.2.2.1 e
theorem ChOk.of {n:Nat} (hm:C'.map coreC=C.map coreC) (hc:∀ x∈C,ChOk n x):∀ x∈C',ChOk n x:=fun x hx=>by
 have h1:coreC x∈C.map coreC:=by rw [← hm];exact List.mem_map_of_mem hx
 obtain ⟨y,hy,e⟩:=List.mem_map.1 h1
 have h2:=hc y hy
 have e5:y.max=x.max:=(show (coreC y).max=(coreC x).max from congrArg ChV.max e)
 unfold coreC at e
 injection e with e1 e2 e3
 unfold ChOk at h2 ⊢
 rw [← e1,← e2,← e5]
 exact h2
theorem CfgS.fin (h:CfgS B b A m c f w gr gc BB A1 A2 A3 n1 n2 n3 c1 c2 c3 P C T wr) (hB:CfgB b w gr gc BB) (q1:1≤n1) (q2:n1≤4) (q3:n2≤3) (q4:1≤n3) (q5:n3≤2) (hc:∀ x∈C,ChOk n1 x)
  (hP:RdB pcl w' w'.heap.size A1 n1 P') (hC:RdB cc w' w'.heap.size A2 n2 C') (hm:C'.map coreC=C.map coreC) {at':Nat} (hT:TapeW w' B b A m c f at') (ho:Only (pO b A1 A2) wr w') (hi6:∀ x∈P',In64 x.per) (hlo:∀ x∈C',∀ t∈T,chLate (wordsL (rowF t)) x=false) (hso:∀ k x,P'[k]? = some x→∀ t∈T,ptShort (wordsL (rowF t)) k x=false)
  (hPo:OwnB 60 11 pcl w' BB A1 n1 c1 P') (hCo:OwnB 66 6 cc w' BB A2 n2 c2 C') {Rt:Nat→List PtV→List ChV→List TbV→World→Prop} (hrt:Rt n1 P' C' T (set3 w' gr (.slice A1 n1 c1) (.slice A2 n2 c2) (.slice A3 n3 c3))) :
  Vec w' gr 3 (box3 (.slice none 0 0) (.slice none 0 0) (.slice none 0 0))∧CfgZ Rt B b A m c f w (.returned (.agg #[.slice A1 n1 c1,.slice A2 n2 c2,.slice A3 n3 c3])) (set3 w' gr (.slice A1 n1 c1) (.slice A2 n2 c2) (.slice A3 n3 c3)):=by
 have h1:=hB.br
 have h2:=hB.wr
 have h3:=hB.rc
 have h4:=hB.cB
 have hgs:=h.gb.size
 have np:∀ k,pO b A1 A2 k→k=b∨BB≤k:=fun k e=>by
  rcases e with e | e | e
  ·exact .inl e
  ·exact .inr (h.pp.own.obk_ge e).1
  ·exact .inr (h.ch.own.obk_ge e).1
 have hgr:¬ pO b A1 A2 gr:=fun e=>by have:=np gr e;omega
 have hv:=h.rs.keep (ho.block gr h.rs.lt hgr) ho.size
 have hA:=(h.asked hB).only ho
 have hs:(set3 w' gr (.slice A1 n1 c1) (.slice A2 n2 c2) (.slice A3 n3 c3)).heap.size=w'.heap.size:=by simp [set3]
 have hset:∀ k,k≠gr→(set3 w' gr (.slice A1 n1 c1) (.slice A2 n2 c2) (.slice A3 n3 c3)).heap[k]? = w'.heap[k]?:=fun k hk=>by
  unfold set3
  rw [Below.heap_setCell _ _ _ _ hk,Below.heap_setCell _ _ _ _ hk,Below.heap_setCell _ _ _ _ hk]
 have hon:Only (fun k=>k=gr) w' (set3 w' gr (.slice A1 n1 c1) (.slice A2 n2 c2) (.slice A3 n3 c3)):=⟨rfl,rfl,rfl,by rw [hs];exact Nat.le_refl _,fun k _ hk=>hset k hk⟩
 have n1':∀ k,obk A1=some k→k≠gr:=fun k e=>by have:=(h.pp.own.obk_ge e).1;omega
 have n2':∀ k,obk A2=some k→k≠gr:=fun k e=>by have:=(h.ch.own.obk_ge e).1;omega
 have hbl:Below gr w' (set3 w' gr (.slice A1 n1 c1) (.slice A2 n2 c2) (.slice A3 n3 c3)):=⟨rfl,rfl,rfl,by rw [hs];exact Nat.le_refl _,fun k hk=>hset k (by omega)⟩
 refine ⟨hv,A1,A2,A3,n1,n2,n3,c1,c2,c3,P',C',T,at',rfl,⟨⟨hP.len,?_⟩,⟨hC.len,?_⟩⟩,q1,q2,q3,h.pp.cap,h.ch.cap,ChOk.of hm hc,⟨hA.t.len,?_⟩,fun t ht=>⟨?_,(hA.tt t ht).2⟩,q4,q5,h.tb.cap,hT.below hbl h1,?_,hi6,hlo,hso,?_,?_,h.d12,fun k e=>by have:=(h.tb.own.obk_ge e).1;omega,fun t ht k e=>by have:=((h.tt t ht).2 k e).1;omega,hrt⟩
 ·exact hon.rdv (B:=0) hP.rd fun k e=>n1' k e
 ·exact hon.rdv (B:=0) hC.rd fun k e=>n2' k e
 ·exact hon.rdv (B:=0) hA.t.rd fun k e=>by have:=(h.tb.own.obk_ge e).1;omega
 ·exact (hA.tt t ht).1.only hon fun k e=>by have:=((h.tt t ht).2 k e).1;omega
 ·refine ⟨ho.os.trans h.gb.os,ho.tape.trans h.gb.tape,ho.output.trans h.gb.output,by rw [hs];exact Nat.le_trans hgs ho.size,fun k hk hne=>?_⟩
  have hkb:k≠b:=fun e=>hne (by rw [e])
  exact ((hset k (by omega)).trans (ho.block k (by omega) fun e=>by have:=np k e;omega)).trans (h.gb.block k hk hne)
 ·exact ((((hPo.other ⟨gr,0,none⟩ _ fun g e e2=>by have:=(h.pp.own.obk_ge (b:=g) (by rw [e];rfl)).1;have e2:g=gr:=e2;omega).other ⟨gr,1,none⟩ _ fun g e e2=>by have:=(h.pp.own.obk_ge (b:=g) (by rw [e];rfl)).1;have e2:g=gr:=e2;omega).other ⟨gr,2,none⟩ _ fun g e e2=>by have:=(h.pp.own.obk_ge (b:=g) (by rw [e];rfl)).1;have e2:g=gr:=e2;omega)).weak (by omega)
 ·exact ((((hCo.other ⟨gr,0,none⟩ _ fun g e e2=>by have:=(h.ch.own.obk_ge (b:=g) (by rw [e];rfl)).1;have e2:g=gr:=e2;omega).other ⟨gr,1,none⟩ _ fun g e e2=>by have:=(h.ch.own.obk_ge (b:=g) (by rw [e];rfl)).1;have e2:g=gr:=e2;omega).other ⟨gr,2,none⟩ _ fun g e e2=>by have:=(h.ch.own.obk_ge (b:=g) (by rw [e];rfl)).1;have e2:g=gr:=e2;omega)).weak (by omega)
end
end Go.Proofs.YtfmndmhjjbeokaaGreatDoor
