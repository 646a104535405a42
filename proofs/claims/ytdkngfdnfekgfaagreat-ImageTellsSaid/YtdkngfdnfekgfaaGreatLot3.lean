import Derived.Test.YtdkngfdnfekgfaaGreatLot2
import Derived.Laws.MakeOwn
import Derived.BigQuiet
import Derived.Deep.QuietTactic
set_option maxHeartbeats 1600000
set_option maxRecDepth 100000
set_option linter.unusedSimpArgs false
set_option linter.unusedVariables false
namespace Go.Proofs.YtdkngfdnfekgfaaGreat
open Go.RowKit Tab
theorem kz_seq{x:Nd}(h:x.k=3):kz x=x.n:=if_pos h
theorem kz_rep{x:Nd}(h:x.k=4):kz x=1:=by unfold kz;rw[if_neg (by omega),if_pos h]
theorem kz_leaf{x:Nd}(h:¬ x.k=3)(h':¬ x.k=4):kz x=0:=by unfold kz;rw[if_neg h,if_neg h']
theorem rsize_in(A:Option Addr)(n cap:Nat)(l:List Nd)(a:Nat)(w:World)(h:RdN w w.heap.size A n l)(hc:n≤cap)(hn:n≤1099511627776)(ha:a < n):
  Calls Tryz.prog 108 #[.slice A n cap,.int .i64 a] w (Ans (.int .i64 (size l a:Nat)) w):=by
 obtain⟨ad,x0,rfl,_⟩:=h.at_ ha;rw[size_def l a (by rw[h.len];exact ha)];generalize hS:scan 1 (l.drop a)=S;have HS:=hid hS;clear hS;go_enter Tryz.func108,Tryz.ntmps108;go_wp2_with fail;generalize decide ((a:Int) < 0)=q9;generalize decide (n≤a)=q14;go_loopw [5,6] (fun m s wr=>∃(i k:Nat),a≤i∧i≤n∧s=.int .i64 i∧m=.int .i64 k∧1≤k∧k≤128*(i - a)+1∧S=(scan k (l.drop i)).map (·+(i - a))∧Below w.heap.size w wr) (fun _ s _=>n - (intOf s).toNat)
 case atStart=>exact⟨a,1,by omega,by omega,rfl,rfl,by omega,by omega,by rw[HS.out];simp,Below.refl _ _⟩
 obtain⟨i,k,hai,hi,rfl,rfl,hk1,hk2,hs,hb⟩:=hrel;have HK:=hid hs;clear hs;by_cases hlt:i < n
 ·obtain⟨ad',x,e,_,hx,hin,c0,c1,c2⟩:=(h.on hb).at_ hlt;injection e with e;subst e;obtain⟨xk,xp,xn⟩:=x;have hdr:=drop_cons hx;have HD:=hid hdr;have HI:=hid hin
  clear hdr hx hin
  by_cases hf:fine ⟨xk,xp,xn⟩=true
  ·have HF:=hid hf;have hK:kz ⟨xk,xp,xn⟩=(kn ⟨xk,xp,xn⟩:Int):=kz_kn hf;have hK2:=kn_le hf;clear hf;generalize hKd:kn ⟨xk,xp,xn⟩=K at hK hK2;have HKD:=hid hKd;have HKZ:=hid hK;clear hKd hK;go_wp2_with fail;refine(fine1_any _ _ _ _).mono ?_;rw[HF.out];rintro e w1⟨rfl,hb1⟩;have lt0:(ad.add (i*3)).block < wr.heap.size:=by rw[add_block];assumption
   have d0:=(hb1.cell lt0).trans c0;have d2:=(hb1.cell (p:=⟨(ad.add (i*3)).block,(ad.add (i*3)).off+2,none⟩) lt0).trans c2;clear c0 c1 c2 lt0;have k1:=hb.trans (hb1.mono hb.size);by_cases h3:xk=3
   ·subst h3;have e:=HKZ.out;rw[kz_seq rfl] at e;dsimp only at e;subst e;clear HKZ;by_cases hz:k+K=1
    ·have hz1:((k:Int) - 1+K == 0)=true:=beq_iff_eq.2 (by omega);have HZ:=hid hz;clear hz;go_wp2_with fail;go_ret;refine Ans.mk ?_ k1;rw[HK.out,HD.out,scan_last HF.out (by rw[HKD.out];exact HZ.out)];refine ret_num (b:=(i:Int) - a+1) ?_;simp only[Option.map_some,Option.getD_some];omega
    have hz1:((k:Int) - 1+K == 0)=false:=beq_eq_false_iff_ne.2 (by omega);have HZ:=hid hz;clear hz;go_wp2_with fail;go_roundw
    case rel =>
     have hz:=HZ.out;refine⟨i+1,k+K - 1,by omega,by omega,by go_num,ret_num (by omega),by omega,by omega,?_,k1⟩;rw[HK.out,HD.out,scan_next HF.out (by rw[HKD.out];exact hz),HKD.out,show i+1 - a=1+(i - a) by omega];generalize i - a=q;cases scan (k+K - 1) (l.drop (i+1)) <;> simp[Nat.add_assoc]
    simp[intOf];omega
   by_cases h4:xk=4
   ·subst h4;have e:=HKZ.out;rw[kz_rep rfl] at e;obtain rfl:K=1:=by omega
    clear HKZ h3 e;by_cases hz:k+1=1
    ·exact absurd hz (by omega)
    have hz1:((k:Int) == 0)=false:=beq_eq_false_iff_ne.2 (by omega);have HZ:=hid hz;clear hz;go_wp2_with fail;go_roundw
    case rel =>
     have hz:=HZ.out;refine⟨i+1,k+1 - 1,by omega,by omega,by go_num,ret_num (by omega),by omega,by omega,?_,k1⟩;rw[HK.out,HD.out,scan_next HF.out (by rw[HKD.out];exact hz),HKD.out,show i+1 - a=1+(i - a) by omega];generalize i - a=q;cases scan (k+1 - 1) (l.drop (i+1)) <;> simp[Nat.add_assoc]
    simp[intOf];omega
   have e:=HKZ.out;rw[kz_leaf h3 h4] at e;obtain rfl:K=0:=by omega
   have h3':(xk == 3)=false:=beq_eq_false_iff_ne.2 h3;have h4':(xk == 4)=false:=beq_eq_false_iff_ne.2 h4;clear HKZ e h3 h4;by_cases hz:k+0=1
   ·have hz1:((k:Int) - 1 == 0)=true:=beq_iff_eq.2 (by omega);have HZ:=hid hz;clear hz;go_wp2_with fail;go_ret;refine Ans.mk ?_ k1;rw[HK.out,HD.out,scan_last HF.out (by rw[HKD.out];exact HZ.out)];refine ret_num (b:=(i:Int) - a+1) ?_;simp only[Option.map_some,Option.getD_some];omega
   have hz1:((k:Int) - 1 == 0)=false:=beq_eq_false_iff_ne.2 (by omega);have HZ:=hid hz;clear hz;go_wp2_with fail;go_roundw
   case rel =>
    have hz:=HZ.out;refine⟨i+1,k+0 - 1,by omega,by omega,by go_num,ret_num (by omega),by omega,by omega,?_,k1⟩;rw[HK.out,HD.out,scan_next HF.out (by rw[HKD.out];exact hz),HKD.out,show i+1 - a=1+(i - a) by omega];generalize i - a=q;cases scan (k+0 - 1) (l.drop (i+1)) <;> simp[Nat.add_assoc]
   simp[intOf];omega
  have HF:=hid hf;have hf0:fine ⟨xk,xp,xn⟩=false:=by simpa using hf
  have HF0:=hid hf0;clear hf hf0;go_wp2_with fail;refine(fine1_any _ _ _ _).mono ?_;rw[HF0.out];rintro e w1⟨rfl,hb1⟩;go_wp2_with fail;go_ret;refine Ans.mk ?_ (hb.trans (hb1.mono hb.size));rw[HK.out,HD.out,scan_bad HF.out];simp
 have hge:n≤i:=by omega
 have HL:=hid h.len;go_wp2_with fail;go_ret;refine Ans.mk ?_ hb;rw[HK.out,List.drop_eq_nil_of_le (by have:=HL.out;omega)];simp[scan]
theorem rsize_out(A:Option Addr)(n cap:Nat)(a:Int)(w:World)(ha:a < 0∨(n:Int)≤a)(hn:n≤1099511627776):
  Calls Tryz.prog 108 #[.slice A n cap,.int .i64 a] w fun e w'=>e=.returned (.int .i64 0)∧w=w':=by
 by_cases h0:a < 0
 ·go_enter Tryz.func108,Tryz.ntmps108;go_wp2_with fail;go_ret;exact⟨rfl,rfl⟩
 have h1:(n:Int)≤a:=by omega
 go_enter Tryz.func108,Tryz.ntmps108;go_wp2_with fail;go_ret;exact⟨rfl,rfl⟩
theorem rsize_any(A:Option Addr)(n cap:Nat)(l:List Nd)(a:Int)(w:World)(h:RdN w w.heap.size A n l)(hc:n≤cap)(hn:n≤1099511627776):
  Calls Tryz.prog 108 #[.slice A n cap,.int .i64 a] w (Ans (.int .i64 (size l a:Nat)) w):=by
 by_cases ha:0≤a∧a < n
 ·obtain⟨a',rfl⟩:=Int.eq_ofNat_of_zero_le ha.1;exact rsize_in A n cap l a' w h hc hn (by omega)
 refine(rsize_out A n cap a w (by omega) hn).mono ?_;rintro e w'⟨rfl,rfl⟩;rw[size_none l a (by have:=h.len;omega)];exact⟨rfl,Below.refl _ _⟩
end Go.Proofs.YtdkngfdnfekgfaaGreat
namespace Go.Proofs.YtdkngfdnfekgfaaGreat
namespace Tab
def pos(l:List Nd)(p:Nat):Nat→Nat
 | 0=>p
 | j+1=>pos l p j+size l (pos l p j:Nat)
def F.dr:Nat→F→F
 | 0,f=>f
 | _+1,.nil=>.nil
 | j+1,.cons _ _ r=>F.dr j r
theorem dr_succ{f:F}{j:Nat}{y:Nd}{k r:F}(h:F.dr j f=.cons y k r):F.dr (j+1) f=r:=by
 induction j generalizing f with
 | zero=>subst h;rfl
 | succ j ih =>
  cases f with
  | nil=>simp[F.dr] at h
  | cons x k' r'=>exact ih (f:=r') h
theorem dr_ok{f:F}(h:f.ok)(j:Nat):(F.dr j f).ok:=by
 induction j generalizing f with
 | zero=>exact h
 | succ j ih =>
  cases f with
  | nil=>trivial
  | cons x k r=>exact ih h.2.2.2
theorem dr_cnt(f:F)(j:Nat):(F.dr j f).cnt=f.cnt - j:=by
 induction j generalizing f with
 | zero=>rfl
 | succ j ih =>
  cases f with
  | nil=>simp[F.dr,F.cnt]
  | cons x k r=>simp only[F.dr,F.cnt];rw[ih];omega
theorem dr_cons{f:F}{j:Nat}(h:j < f.cnt):∃ y k r,F.dr j f=.cons y k r:=by
 cases hd:F.dr j f with
 | nil =>
  have:=dr_cnt f j;rw[hd] at this;simp only[F.cnt] at this;omega
 | cons y k r=>exact⟨y,k,r,rfl⟩
theorem dr_all(f:F):F.dr f.cnt f=.nil:=F.cnt_zero (by rw[dr_cnt];omega)
theorem pos_dr{l t:List Nd}{p:Nat}{f:F}(h:f.ok)(hl:l.drop p=f.flat++t)(hp:p≤l.length)(j:Nat)(hj:j≤f.cnt):
  l.drop (pos l p j)=(F.dr j f).flat++t∧pos l p j+(F.dr j f).sz=p+f.sz∧p≤pos l p j∧pos l p j≤l.length:=by
 induction j with
 | zero=>exact⟨hl,rfl,Nat.le_refl _,hp⟩
 | succ j ih =>
  obtain⟨h1,h2,h3,h4⟩:=ih (by omega);obtain⟨y,k,r,e⟩:=dr_cons (f:=f) (j:=j) (by omega);have hok:=dr_ok h j;rw[e] at h1 h2 hok;have hs:size l (pos l p j:Nat)=1+k.sz:=size_at hok h1;have e2:=dr_succ e;have hlen:=congrArg List.length h1;rw[List.length_drop,List.length_append,F.flat_length] at hlen;simp only[F.sz] at h2 hlen;simp only[pos];rw[hs,e2];refine⟨?_,by omega,by omega,by omega⟩;rw[← List.drop_drop,h1];simp only[F.flat,List.cons_append];rw[show 1+k.sz=k.sz+1 by omega,List.drop_succ_cons,List.append_assoc,List.drop_left' (F.flat_length k)]
def kids(l:List Nd)(a:Int):List Int :=
 if size l a=0 then [] else (List.range (((l[a.toNat]?).map kn).getD 0)).map fun j=>(pos l (a.toNat+1) j:Int)
def Path:=List (Nat×Nat)
def times:List (Nat×Nat)→Nat
 | []=>1
 | (_,t)::_=>t
theorem times_cons(a t:Nat)(o:List (Nat×Nat)):times ((a,t)::o)=t:=rfl
def hold(a b:Nat):Nat:=if 4096 < a*b then 4097 else a*b
def pops:List (Nat×Nat)→List (Nat×Nat)
 | []=>[]
 | (a,t)::o=>if 1 < a then (a - 1,t)::o else pops o
def behind(st:List (Nat×Nat))(x:Nd):List (Nat×Nat) :=
 if x.k=3 then (x.n.toNat,times st)::st else if x.k=4 then (1,hold x.n.toNat (times st))::st else pops st
def Outer:List (Nat×Nat)→List F→Prop
 | [],[]=>True
 | (a,t)::o,f::fs=>a=f.cnt+1∧1≤t∧t≤4097∧f.ok∧Outer o fs
 | _,_=>False
def InvP(st:List (Nat×Nat))(cur:F)(fs:List F):Prop :=
 cur.ok∧match st with
 | []=>fs=[]∧cur.cnt≤1
 | (a,t)::o=>a=cur.cnt∧1≤a∧1≤t∧t≤4097∧Outer o fs
def flats:List F→List Nd
 | []=>[]
 | f::fs=>f.flat++flats fs
def remO:List (Nat×Nat)→List F→Nat
 | (_,t)::o,f::fs=>t*f.len+remO o fs
 | _,_=>0
def rem(st:List (Nat×Nat))(cur:F)(fs:List F):Nat:=times st*cur.len+remO st.tail fs
def deepO:List (Nat×Nat)→List F→Nat
 | (_,_)::o,f::fs=>max (if f.cnt=0 then 0 else o.length+1+f.dep) (deepO o fs)
 | _,_=>0
def deepR(st:List (Nat×Nat))(cur:F)(fs:List F):Nat:=max (if cur.cnt=0 then 0 else st.length+cur.dep) (deepO st.tail fs)
theorem hold_le(a b:Nat):hold a b≤4097:=by unfold hold;split <;> omega
theorem hold_pos{a b:Nat}(ha:1≤a)(hb:1≤b):1≤hold a b:=by
 have:0 < a*b:=Nat.mul_pos (by omega) (by omega);unfold hold;split <;> omega
theorem pops_spec(o:List (Nat×Nat))(fs:List F)(h:Outer o fs):
  ∃(cur:F) (fs':List F),InvP (pops o) cur fs'∧flats fs=cur.flat++flats fs'∧rem (pops o) cur fs'=remO o fs∧deepR (pops o) cur fs'=deepO o fs∧(pops o=[]→cur=.nil):=by
 induction o generalizing fs with
 | nil =>
  cases fs with
  | nil=>exact⟨.nil,[],⟨trivial,rfl,by simp[F.cnt]⟩,rfl,rfl,rfl,fun _=>rfl⟩
  | cons f fs=>exact h.elim
 | cons e o ih =>
  obtain⟨a,t⟩:=e;cases fs with
  | nil=>exact h.elim
  | cons f fs =>
   obtain⟨h1,h2,h3,h4,h5⟩:=h;simp only[pops];by_cases ha:1 < a
   ·rw[if_pos ha];refine⟨f,fs,⟨h4,by omega,by omega,h2,h3,h5⟩,rfl,rfl,?_,fun h=>by cases h⟩;simp only[deepR,deepO,List.tail_cons,List.length_cons]
   rw[if_neg ha];obtain rfl:f=.nil:=F.cnt_zero (by omega);obtain⟨cur,fs',i1,i2,i3,i4,i5⟩:=ih fs h5;refine⟨cur,fs',i1,by simpa [flats,F.flat] using i2,by simp[remO,F.len,i3],by simp[deepO,F.cnt,i4],i5⟩
theorem InvP.times{st:List (Nat×Nat)}{cur:F}{fs:List F}(h:InvP st cur fs):1≤times st∧times st≤4097:=by
 cases st with
 | nil=>exact⟨Nat.le_refl _,by simp[Tab.times]⟩
 | cons e o=>exact⟨h.2.2.2.1,h.2.2.2.2.1⟩
theorem InvP.pos{st:List (Nat×Nat)}{cur:F}{fs:List F}(h:InvP st cur fs):st=[]∧fs=[]∨0 < cur.cnt:=by
 cases st with
 | nil=>exact .inl ⟨rfl,h.2.1⟩
 | cons e o=>exact .inr (by have:=h.2.1;have:=h.2.2.1;omega)
theorem hold_min(s a b c:Nat):min 4097 (s+hold a b+c)=min 4097 (s+a*b+c):=by
 unfold hold;split <;> omega
theorem hold_mul(s a b m c:Nat)(hm:1≤m):min 4097 (s+hold a b*m+c)=min 4097 (s+a*b*m+c):=by
 unfold hold;split
 ·have h1:4097*1≤4097*m:=Nat.mul_le_mul_left _ hm;have h2:4097*m≤a*b*m:=Nat.mul_le_mul_right _ (by omega);omega
 rfl
theorem down{st:List (Nat×Nat)}{x:Nd}{k r:F}{fs:List F}(h:InvP st (.cons x k r) fs):
  ∃ fs',Outer st fs'∧r.flat++flats fs=flats fs'∧remO st fs'=times st*r.len+remO st.tail fs∧deepO st fs'=max (if r.cnt=0 then 0 else st.length+r.dep) (deepO st.tail fs):=by
 obtain⟨⟨_,_,_,hrok⟩,h2⟩:=h;cases st with
 | nil =>
  obtain⟨rfl,hc⟩:=h2;obtain rfl:r=.nil:=F.cnt_zero (by simp only[F.cnt] at hc;omega);exact⟨[],trivial,rfl,by simp[remO,F.len],by simp[deepO,F.cnt]⟩
 | cons e o =>
  obtain⟨a,t⟩:=e;obtain⟨h3,h4,h5,h6,h7⟩:=h2;exact⟨r::fs,⟨h3,h5,h6,hrok,h7⟩,rfl,rfl,by simp[deepO]⟩
theorem deepR_cons(st:List (Nat×Nat))(y:Nd)(k r:F)(fs:List F):deepR st (.cons y k r) fs=max (st.length+max (k.dep+1) r.dep) (deepO st.tail fs):=by
 unfold deepR;rw[if_neg (show ¬ (F.cons y k r).cnt=0 from Nat.succ_ne_zero _)];rfl
theorem deepR_in(a t:Nat)(st:List (Nat×Nat))(k:F)(fs:List F)(h:¬ k.cnt=0):deepR ((a,t)::st) k fs=max (st.length+1+k.dep) (deepO st fs):=by
 unfold deepR;rw[if_neg h];rfl
theorem step{st:List (Nat×Nat)}{cur:F}{fs:List F}(h:InvP st cur fs){x:Nd}{tl:List Nd}(hr:cur.flat++flats fs=x::tl):
  fine x=true∧∃(cur':F) (fs':List F),InvP (behind st x) cur' fs'∧tl=cur'.flat++flats fs' ∧
   (∀ s,min 4097 (s+(if kn x=0 then hold x.n.toNat (times st) else 0)+rem (behind st x) cur' fs')=min 4097 (s+rem st cur fs)) ∧
   max (st.length+1) (deepR (behind st x) cur' fs')=max (st.length+1) (deepR st cur fs):=by
 have hc:0 < cur.cnt:=by
  rcases h.pos with ⟨_,rfl⟩ | h0
  ·rcases Nat.eq_zero_or_pos cur.cnt with h0 | h0
   ·rw[F.cnt_zero h0] at hr;simp[F.flat,flats] at hr
   ·exact h0
  ·exact h0
 cases cur with
 | nil=>simp[F.cnt] at hc
 | cons y k r =>
  simp only[F.flat,List.cons_append,List.cons.injEq,List.append_assoc] at hr
  obtain⟨rfl,rfl⟩:=hr
  have hok:=h.1
  obtain⟨hf,hk,hkok,hrok⟩:=hok
  have hn1:=fine_one hf
  refine⟨hf,?_⟩
  obtain⟨ht1,ht2⟩:=h.times
  obtain⟨fs',d1,d2,d3,d4⟩:=down h
  by_cases h3:y.k=3
  ·have ek:kn y=y.n.toNat:=if_pos h3
   have eb:behind st y=(y.n.toNat,times st)::st:=if_pos h3
   have hkc:0 < k.cnt:=by omega
   have et:F.tick y k.len=k.len:=if_pos h3
   rw[eb]
   refine⟨k,fs',⟨hkok,by omega,by omega,ht1,ht2,d1⟩,by rw[d2],fun s=>?_,?_⟩
   ·rw[if_neg (by omega)]
    simp only[rem,times_cons,List.tail_cons,d3,F.len,et,Nat.mul_add]
    congr 1
    omega
   ·rw[deepR_cons,deepR_in _ _ _ _ _ (by omega),d4]
    split
    ·rename_i h0
     rw[F.cnt_zero h0]
     simp only[F.dep]
     omega
    ·omega
  ·by_cases h4:y.k=4
   ·have ek:kn y=1:=by unfold kn;rw[if_neg h3,if_pos h4]
    have eb:behind st y=(1,hold y.n.toNat (times st))::st:=by unfold behind;rw[if_neg h3,if_pos h4]
    have et:F.tick y k.len=k.len*y.n.toNat:=by unfold F.tick;rw[if_neg h3,if_pos h4]
    have hl:1≤k.len:=F.len_pos hkok (by omega)
    rw[eb]
    refine⟨k,fs',⟨hkok,by omega,by omega,hold_pos (by omega) ht1,hold_le _ _,d1⟩,by rw[d2],fun s=>?_,?_⟩
    ·rw[if_neg (by omega)]
     simp only[rem,times_cons,List.tail_cons,d3,F.len,et,Nat.add_zero]
     rw[← Nat.add_assoc,hold_mul _ _ _ _ _ hl,Nat.mul_add]
     have:times st*(k.len*y.n.toNat)=y.n.toNat*times st*k.len:=by
      rw[← Nat.mul_assoc,Nat.mul_comm (times st) k.len,Nat.mul_assoc,Nat.mul_comm k.len,Nat.mul_comm (times st)]
     rw[this]
     congr 1
     omega
    ·rw[deepR_cons,deepR_in _ _ _ _ _ (by omega),d4]
     split
     ·rename_i h0
      rw[F.cnt_zero h0]
      simp only[F.dep]
      omega
     ·omega
   ·have ek:kn y=0:=by unfold kn;rw[if_neg h3,if_neg h4]
    have eb:behind st y=pops st:=by unfold behind;rw[if_neg h3,if_neg h4]
    have et:F.tick y k.len=y.n.toNat:=by unfold F.tick;rw[if_neg h3,if_neg h4]
    obtain rfl:k=.nil:=F.cnt_zero (by omega)
    obtain⟨cur',fs'',p1,p2,p3,p4⟩:∃(cur':F) (fs'':List F),InvP (pops st) cur' fs''∧r.flat++flats fs=cur'.flat++flats fs''∧rem (pops st) cur' fs''=remO st fs'∧deepR (pops st) cur' fs''=deepO st fs':=by
     obtain⟨c,f,q1,q2,q3,q4,_⟩:=pops_spec st fs' d1
     exact⟨c,f,q1,by rw[d2,q2],q3,q4⟩
    rw[eb]
    refine⟨cur',fs'',p1,by simpa [F.flat] using p2,fun s=>?_,?_⟩
    ·rw[if_pos ek,p3,d3,hold_min]
     have et':F.tick y 0=y.n.toNat:=et
     simp only[rem,F.len,et',Nat.mul_add]
     rw[Nat.mul_comm (times st) y.n.toNat]
     congr 1
     omega
    ·rw[p4,d4,deepR_cons]
     simp only[F.dep]
     split
     ·rename_i h0
      rw[F.cnt_zero h0]
      simp only[F.dep]
      omega
     ·omega
theorem deep_ge{st:List (Nat×Nat)}{cur:F}{fs:List F}(h:InvP st cur fs){x:Nd}{tl:List Nd}(hr:cur.flat++flats fs=x::tl):st.length+1≤deepR st cur fs:=by
 cases cur with
 | nil =>
  rcases h.pos with ⟨_,rfl⟩ | h0
  ·simp[F.flat,flats] at hr
  simp[F.cnt] at h0
 | cons y k r=>rw[deepR_cons];omega
theorem InvP.done{st:List (Nat×Nat)}{cur:F}{fs:List F}(h:InvP st cur fs)(hr:cur.flat++flats fs=[]):rem st cur fs=0∧deepR st cur fs=0:=by
 rcases h.pos with ⟨rfl,rfl⟩ | h0
 ·cases cur with
  | nil=>exact⟨rfl,rfl⟩
  | cons x k r=>simp[F.flat] at hr
 cases cur with
 | nil=>simp[F.cnt] at h0
 | cons x k r=>simp[F.flat] at hr
theorem InvP.start{f:F}(h:f.ok)(hc:f.cnt=1):InvP [] f []∧f.flat++flats []=f.flat∧rem [] f []=f.len∧deepR [] f []=f.dep :=
 ⟨⟨h,rfl,by omega⟩,by simp[flats],by simp[rem,show Tab.times []=1 from rfl,remO],by simp[deepR,deepO,hc]⟩
end Tab
end Go.Proofs.YtdkngfdnfekgfaaGreat
namespace Go.Proofs.YtdkngfdnfekgfaaGreat
open Go.RowKit Tab
def wholeB(l:List Nd):Bool:=decide (0 < l.length) && decide (size l 0=l.length)
theorem whole_any(A:Option Addr)(n cap:Nat)(l:List Nd)(w:World)(h:RdN w w.heap.size A n l)(hc:n≤cap)(hn:n≤1099511627776):
  Calls Tryz.prog 120 #[.slice A n cap] w (Ans (.bool (wholeB l)) w):=by
 generalize hb:wholeB l=b;have HL:=hid h.len;have HB:=hid hb;clear hb;by_cases h0:0 < n
 ·generalize hS:size l 0=S;have HS:=hid hS;clear hS;go_enter Tryz.func120,Tryz.ntmps120;go_wp2_with fail;refine(size_any A n cap l 0 w h hc hn).mono ?_;rw[HS.out];rintro e w1⟨rfl,hb1⟩;go_wp2_with fail;go_ret;refine Ans.mk (congrArg Value.bool (a₂:=((S:Int) == (n:Int))) ?_) hb1;rw[← HB.out,wholeB,HL.out,HS.out,Bool.eq_iff_iff];simp;omega
 have h0':n≤0:=by omega
 go_enter Tryz.func120,Tryz.ntmps120;go_wp2_with fail;go_ret;refine Ans.mk ?_ (Below.refl _ _);rw[← HB.out,wholeB,HL.out,show n=0 by omega];rfl
theorem whole_tree{l:List Nd}(h:wholeB l=true):∃(x:Nd) (k:F),(F.cons x k .nil).ok∧l=x::k.flat:=by
 unfold wholeB at h;simp only[Bool.and_eq_true,decide_eq_true_eq] at h;obtain⟨x,k,t,h1,_,_,h4,h5⟩:=size_tree (l:=l) (a:=0) (by omega);have hlen:=congrArg List.length h4;simp only[Int.toNat_zero,List.drop_zero,List.length_cons,List.length_append,F.flat_length] at hlen;have ht:t=[]:=List.eq_nil_of_length_eq_zero (by omega);subst ht;exact⟨x,k,h1,by simpa using h4⟩
theorem tree_whole{x:Nd}{k:F}(h:(F.cons x k .nil).ok):wholeB (x::k.flat)=true:=by
 have h1:size (x::k.flat) 0=1+k.sz:=size_at (l:=x::k.flat) (a:=0) (t:=[]) h (by simp[F.flat]);unfold wholeB;simp only[Bool.and_eq_true,decide_eq_true_eq];exact⟨by simp,by rw[h1];simp only[List.length_cons,F.flat_length];omega⟩
def lenOf:Value→Nat
 | .slice _ n _=>n
 | _=>0
def is(l:List Int):List Value:=l.map (.int .i64)
theorem is_length(l:List Int):(is l).length=l.length:=by simp[is]
theorem is_append(l m:List Int):is (l++m)=is l++is m:=by simp[is]
theorem is_one(l:List Int):∀ u∈is l,u.oneCell'=true:=by
 intro u hu;obtain⟨z,_,rfl⟩:=List.mem_map.1 hu;rfl
structure RdI(w:World)(B:Nat)(A:Option Addr)(n:Nat)(l:List Int):Prop where
 len:l.length=n
 rd:RdV w B A (is l)
section
variable {w w':World} {B B' n:Nat} {A:Option Addr} {l:List Int}
theorem RdI.below(h:RdI w B A n l)(hb:Below B w w'):RdI w' B A n l:=⟨h.len,h.rd.below hb⟩
theorem RdI.more(h:RdI w B A n l)(hB:B≤B'):RdI w B' A n l:=⟨h.len,h.rd.more hB⟩
theorem RdI.on(h:RdI w w.heap.size A n l)(hb:Below w.heap.size w w'):RdI w' w'.heap.size A n l:=(h.below hb).more hb.size
theorem RdI.at_(h:RdI w B A n l){i:Nat}(hi:i < n):∃(ad:Addr) (x:Int),A=some ad∧ad.block < B∧l[i]? = some x∧w.cell? (ad.add i)=some (.int .i64 x):=by
 have hl:i < l.length:=by rw[h.len];exact hi
 obtain⟨ad,e,hb,hc⟩:=h.rd (by rw[is_length];omega);exact⟨ad,l[i],e,hb,List.getElem?_eq_getElem hl,hc _ _ (by simp[is,hl])⟩
end
def MadeI(l:List Int)(w:World)(e:Ending)(w':World):Prop:=∃ A n c,e=.returned (.slice A n c)∧RdI w' w'.heap.size A n l∧n≤c∧Below w.heap.size w w'
def plc(l:List Nd)(p j:Nat):List Int:=(List.range j).map fun j=>(pos l p j:Int)
theorem plc_succ(l:List Nd)(p j:Nat):plc l p (j+1)=plc l p j++[(pos l p j:Int)]:=by simp[plc,List.range_succ]
end Go.Proofs.YtdkngfdnfekgfaaGreat
