import Derived.Test.YtdkngfdnfekgfaaGreatLot1
import Derived.OwnWalk
import Derived.LoopTactic
set_option maxHeartbeats 1600000
set_option maxRecDepth 100000
set_option linter.unusedSimpArgs false
set_option linter.unusedVariables false
namespace Go.Proofs.YtdkngfdnfekgfaaGreat
open Go.RowKit Tab
def Ans(v:Value)(w:World)(e:Ending)(w':World):Prop:=e=.returned v∧Below w.heap.size w w'
theorem Ans.mk{v u:Value}{w w':World}(h:v=u)(hb:Below w.heap.size w w'):Ans v w (.returned u) w':=⟨by rw[h],hb⟩
theorem bl1(w:World)(o:Obj):Below w.heap.size w (w.alloc o):=(Below.refl _ _).alloc (Nat.le_refl _) _
abbrev nd(k p n:Int):Value:=.agg #[.int .i64 k,.int .i64 p,.int .i64 n]
def kz(x:Nd):Int:=if x.k=3 then x.n else if x.k=4 then 1 else 0
theorem kz_kn{x:Nd}(h:fine x=true):kz x=(kn x:Int):=by
 have h1:=fine_one h;unfold kz kn;split
 ·omega
 split <;> rfl
theorem kids1_any(k p n:Int)(w:World):Calls Tryz.prog 131 #[nd k p n] w (Ans (.int .i64 (kz ⟨k,p,n⟩)) w):=by
 go_enter Tryz.func131,Tryz.ntmps131;go_wp2
 all_goals
  go_ret;refine Ans.mk ?_ (bl1 _ _);simp only[beq_iff_eq,beq_eq_false_iff_ne,ne_eq] at *;simp[kz, *]
theorem fine_iff(k p n:Int):fine ⟨k,p,n⟩=true↔1≤n∧((k=1∧0≤p∧p < 6)∨(k=2∧p=0)∨(k=4∧p=0)∨(k=3∧p=0∧n≤128)):=by
 unfold fine;simp only[Bool.and_eq_true,decide_eq_true_eq];split
 ·simp;omega
 split
 ·simp;omega
 split
 ·simp;omega
 simp;omega
theorem right1_any(k p n:Int)(w:World):Calls Tryz.prog 142 #[nd k p n] w (Ans (.bool (fine ⟨k,p,n⟩)) w):=by
 have hf:=hid (fine_iff k p n);go_enter Tryz.func142,Tryz.ntmps142;go_wp2
 all_goals
  go_ret;refine Ans.mk (congrArg Value.bool ?_) (bl1 _ _);rw[Bool.eq_iff_iff,fine_iff];simp only[decide_eq_true_eq,beq_iff_eq,beq_eq_false_iff_ne,ne_eq,Bool.false_eq_true,iff_false] at *;omega
theorem fine1_any(k p n:Int)(w:World):Calls Tryz.prog 119 #[nd k p n] w (Ans (.bool (fine ⟨k,p,n⟩)) w):=by
 go_enter Tryz.func119,Tryz.ntmps119;go_wp2
 all_goals
  go_ret;refine Ans.mk (congrArg Value.bool ?_) (bl1 _ _);rw[Bool.eq_iff_iff,fine_iff];simp only[decide_eq_true_eq,beq_iff_eq,beq_eq_false_iff_ne,ne_eq,Bool.false_eq_true,iff_false] at *;omega
def hl(a b:Int):Int:=if 4096 < a*b then 4097 else a*b
theorem held_any(a b:Int)(w:World)(ha:1≤a)(hb:1≤b)(hb2:b≤4097)(ha2:a≤9223372036854775807):Calls Tryz.prog 132 #[.int .i64 a,.int .i64 b] w fun e w'=>e=.returned (.int .i64 (hl a b))∧w=w':=by
 by_cases h:4096 / b < a
 ·have h2:4096 < a*b:=(Int.ediv_lt_iff_lt_mul (by omega)).1 h;have hb0:¬ b=0:=by omega
  have e:hl a b=4097:=if_pos h2;have H:=hid e;clear e h2;go_enter Tryz.func132,Tryz.ntmps132;go_wp2;go_ret;exact⟨by rw[H.out];rfl,rfl⟩
 have h2:¬ 4096 < a*b:=fun h'=>h ((Int.ediv_lt_iff_lt_mul (by omega)).2 h');have hb0:¬ b=0:=by omega
 have h3:0 < a*b:=Int.mul_pos (by omega) (by omega);have e:hl a b=a*b:=if_neg h2;have H:=hid e;clear e;go_enter Tryz.func132,Tryz.ntmps132;go_wp2;go_ret;exact⟨by rw[H.out];rfl,rfl⟩
theorem elN:Elt 64 70 3 24 (.agg #[.int .i64 0,.int .i64 0,.int .i64 0]):=⟨Tryz.underlying64,by kernel_rfl,rfl,by omega⟩
theorem elO:Elt 158 174 2 16 (.agg #[.int .i64 0,.int .i64 0]):=⟨Tryz.underlying158,by kernel_rfl,rfl,by omega⟩
theorem elI:Elt 28 3 1 8 (.int .i64 0):=⟨Tryz.underlying28,by kernel_rfl,rfl,by omega⟩
def In64(z:Int):Prop:=-9223372036854775808≤z∧z≤9223372036854775807
def NdIn(x:Nd):Prop:=In64 x.k∧In64 x.p∧In64 x.n
def ns:List Nd→List Value
 | []=>[]
 | x::l=>.int .i64 x.k::.int .i64 x.p::.int .i64 x.n::ns l
theorem ns_length(l:List Nd):(ns l).length=l.length*3:=by
 induction l with
 | nil=>rfl
 | cons x l ih=>simp only[ns,List.length_cons,ih];omega
theorem ns_append(l m:List Nd):ns (l++m)=ns l++ns m:=by
 induction l with
 | nil=>rfl
 | cons x l ih=>simp[ns,ih]
theorem ns_one(l:List Nd):∀ u∈ns l,u.oneCell'=true:=by
 induction l with
 | nil=>simp[ns]
 | cons x l ih =>
  intro u hu;simp only[ns,List.mem_cons] at hu;rcases hu with rfl | rfl | rfl | hu
  ·rfl
  ·rfl
  ·rfl
  exact ih u hu
theorem ns_get(l:List Nd)(i:Nat)(h:i < l.length):(ns l)[i*3]? = some (.int .i64 l[i].k)∧(ns l)[i*3+1]? = some (.int .i64 l[i].p)∧(ns l)[i*3+2]? = some (.int .i64 l[i].n):=by
 induction l generalizing i with
 | nil=>simp at h
 | cons x l ih =>
  cases i with
  | zero=>simp[ns]
  | succ i =>
   have:=ih i (by simpa using h);have e:(i+1)*3=i*3+1+1+1:=by omega
   rw[e];simp only[ns,List.getElem?_cons_succ,List.getElem_cons_succ];exact this
theorem ns_drop(l:List Nd)(k:Nat):ns (l.drop k)=(ns l).drop (k*3):=by
 induction k generalizing l with
 | zero=>simp
 | succ k ih =>
  cases l with
  | nil=>simp[ns]
  | cons x l=>rw[List.drop_succ_cons,ih,show (k+1)*3=k*3+3 by omega];simp[ns]
structure RdN(w:World)(B:Nat)(A:Option Addr)(n:Nat)(l:List Nd):Prop where
 len:l.length=n
 rd:RdV w B A (ns l)
 bd:∀ x∈l,NdIn x
section
variable {w w':World} {B B' n:Nat} {A:Option Addr} {l:List Nd}
theorem RdN.below(h:RdN w B A n l)(hb:Below B w w'):RdN w' B A n l:=⟨h.len,h.rd.below hb,h.bd⟩
theorem RdN.more(h:RdN w B A n l)(hB:B≤B'):RdN w B' A n l:=⟨h.len,h.rd.more hB,h.bd⟩
theorem RdN.back{ad:Addr}(h:RdN w B (some ad) n l)(k:Nat):RdN w B (some (ad.add (k*3))) (n - k) (l.drop k) :=
 ⟨by rw[List.length_drop,h.len],by rw[ns_drop];exact h.rd.back (k*3),fun x hx=>h.bd x (List.mem_of_mem_drop hx)⟩
theorem RdN.on(h:RdN w w.heap.size A n l)(hb:Below w.heap.size w w'):RdN w' w'.heap.size A n l:=(h.below hb).more hb.size
theorem RdN.at_(h:RdN w B A n l){i:Nat}(hi:i < n):∃(ad:Addr) (x:Nd),A=some ad∧ad.block < B∧l[i]? = some x∧NdIn x ∧
  w.cell? (ad.add (i*3))=some (.int .i64 x.k)∧w.cell? ⟨(ad.add (i*3)).block,(ad.add (i*3)).off+1,none⟩=some (.int .i64 x.p)∧w.cell? ⟨(ad.add (i*3)).block,(ad.add (i*3)).off+2,none⟩=some (.int .i64 x.n):=by
 have hl:i < l.length:=by rw[h.len];exact hi
 obtain⟨ad,e,hb,hc⟩:=h.rd (by rw[ns_length];omega);obtain⟨h1,h2,h3⟩:=ns_get l i hl;have e1:∀ j,0 < j→(⟨(ad.add (i*3)).block,(ad.add (i*3)).off+j,none⟩:Addr)=ad.add (i*3+j):=fun j hj=>by
  rw[← add_add];generalize ad.add (i*3)=p;unfold Addr.add;rw[if_neg (by omega)]
 refine⟨ad,l[i],e,hb,List.getElem?_eq_getElem hl,h.bd _ (List.getElem_mem hl),hc _ _ h1,?_,?_⟩
 ·rw[e1 1 (by omega)];exact hc _ _ h2
 rw[e1 2 (by omega)];exact hc _ _ h3
end
theorem new_nd{w w1:World}{k p n:Int}{t:TypeId}(hb:Below (w.alloc (.cells #[.int .i64 k,.int .i64 p,.int .i64 n] t)).heap.size (w.alloc (.cells #[.int .i64 k,.int .i64 p,.int .i64 n] t)) w1):
  w1.cell? ⟨w.heap.size,0,none⟩=some (.int .i64 k)∧w1.cell? ⟨w.heap.size,1,none⟩=some (.int .i64 p)∧w1.cell? ⟨w.heap.size,2,none⟩=some (.int .i64 n):=by
 have h:∀ o,w1.cell? ⟨w.heap.size,o,none⟩=(w.alloc (.cells #[.int .i64 k,.int .i64 p,.int .i64 n] t)).cell? ⟨w.heap.size,o,none⟩:=fun o=>hb.cell (by simp);refine⟨?_,?_,?_⟩ <;> rw[h] <;> simp[World.cell?_alloc_mark]
theorem ret_num{a b:Int}(h:a=b):(Value.int .i64 a)=.int .i64 b:=by rw[h]
theorem size_in(A:Option Addr)(n cap:Nat)(l:List Nd)(a:Nat)(w:World)(h:RdN w w.heap.size A n l)(hc:n≤cap)(hn:n≤1099511627776)(ha:a < n):
  Calls Tryz.prog 129 #[.slice A n cap,.int .i64 a] w (Ans (.int .i64 (size l a:Nat)) w):=by
 obtain⟨ad,x0,rfl,_⟩:=h.at_ ha;have hca:¬ cap=a:=by omega
 rw[size_def l a (by rw[h.len];exact ha)];generalize hS:scan 1 (l.drop a)=S;have HS:=hid hS;clear hS;go_enter Tryz.func129,Tryz.ntmps129;go_wp2_with fail;have hr:RdN w w.heap.size (some (ad.add (a*3))) (n - a) (l.drop a):=h.back a;generalize ad.add (a*3)=ad1 at hr ⊢;have hN:n - a≤1099511627776:=by omega
 generalize n - a=N at hr hN ⊢;generalize l.drop a=L at hr HS;clear h;generalize decide ((a:Int) < 0)=q9;generalize decide (n≤a)=q14;go_loopw [5,20] (fun m s wr=>∃(i k:Nat),i≤N∧s=.int .i64 i∧m=.int .i64 k∧1≤k∧k≤128*i+1∧S=(scan k (L.drop i)).map (·+i)∧Below w.heap.size w wr) (fun _ s _=>N - (intOf s).toNat)
 case atStart=>exact⟨0,1,by omega,rfl,rfl,by omega,by omega,by rw[← HS.out];simp,Below.refl _ _⟩
 obtain⟨i,k,hi,rfl,rfl,hk1,hk2,hs,hb⟩:=hrel;have HK:=hid hs;clear hs;by_cases hlt:i < N
 ·obtain⟨ad',x,e,_,hx,hin,c0,c1,c2⟩:=(hr.on hb).at_ hlt;injection e with e;subst e;obtain⟨xk,xp,xn⟩:=x;have HX:=hid hx;have HI:=hid hin
  clear hx hin
  have hdr:=drop_cons HX.out;have HD:=hid hdr;clear hdr;by_cases hf:fine ⟨xk,xp,xn⟩=true
  ·have HF:=hid hf;have hK:kz ⟨xk,xp,xn⟩=(kn ⟨xk,xp,xn⟩:Int):=kz_kn hf;have hK2:=kn_le hf;clear hf;generalize hKd:kn ⟨xk,xp,xn⟩=K at hK hK2;have HKD:=hid hKd;have HKZ:=hid hK;clear hKd hK;go_wp2_with fail;refine(right1_any _ _ _ _).mono ?_;rw[HF.out];rintro e w1⟨rfl,hb1⟩;obtain⟨d0,d1,d2⟩:=new_nd hb1;have k1:=(bl1 _ _).trans (hb1.mono (by simp));by_cases hz:k+K=1
   ·have hz1:(k:Int)+((K:Int) - 1)=0:=by omega
    have HZ:=hid hz;clear hz;go_wp2_with fail;refine(kids1_any _ _ _ _).mono ?_;rw[HKZ.out];rintro e w2⟨rfl,hb2⟩;have k2:=k1.trans (hb2.mono k1.size);go_wp2_with fail;go_ret;refine Ans.mk ?_ (hb.trans (k2.mono hb.size));rw[HK.out,HD.out,scan_last HF.out (by rw[HKD.out];exact HZ.out)];simp;omega
   have hz1:¬ (k:Int)+((K:Int) - 1)=0:=by omega
   go_wp2_with fail;refine(kids1_any _ _ _ _).mono ?_;rw[HKZ.out];rintro e w2⟨rfl,hb2⟩;have k2:=k1.trans (hb2.mono k1.size);go_wp2_with fail;go_roundw
   case rel =>
    refine⟨i+1,k+K - 1,by omega,by go_num,ret_num (by omega),by omega,by omega,?_,hb.trans (k2.mono hb.size)⟩;rw[HK.out,HD.out,scan_next HF.out (by rw[HKD.out];exact hz),HKD.out];cases scan (k+K - 1) (L.drop (i+1)) <;> simp;omega
   simp[intOf];omega
  have HF:=hid hf;have hf0:fine ⟨xk,xp,xn⟩=false:=by simpa using hf
  have HF0:=hid hf0;clear hf hf0;go_wp2_with fail;refine(right1_any _ _ _ _).mono ?_;rw[HF0.out];rintro e w1⟨rfl,hb1⟩;have k1:=(bl1 _ _).trans (hb1.mono (by simp));go_wp2_with fail;go_ret;refine Ans.mk ?_ (hb.trans (k1.mono hb.size));rw[HK.out,HD.out,scan_bad HF.out];simp
 have hge:N≤i:=by omega
 have HL:=hid hr.len;go_wp2_with fail;go_ret;refine Ans.mk ?_ hb;rw[HK.out,List.drop_eq_nil_of_le (by have:=HL.out;omega)];simp[scan]
theorem size_out(A:Option Addr)(n cap:Nat)(a:Int)(w:World)(ha:a < 0∨(n:Int)≤a)(hn:n≤1099511627776):
  Calls Tryz.prog 129 #[.slice A n cap,.int .i64 a] w fun e w'=>e=.returned (.int .i64 0)∧w=w':=by
 by_cases h0:a < 0
 ·go_enter Tryz.func129,Tryz.ntmps129;go_wp2_with fail;go_ret;exact⟨rfl,rfl⟩
 have h1:(n:Int)≤a:=by omega
 go_enter Tryz.func129,Tryz.ntmps129;go_wp2_with fail;go_ret;exact⟨rfl,rfl⟩
theorem size_any(A:Option Addr)(n cap:Nat)(l:List Nd)(a:Int)(w:World)(h:RdN w w.heap.size A n l)(hc:n≤cap)(hn:n≤1099511627776):
  Calls Tryz.prog 129 #[.slice A n cap,.int .i64 a] w (Ans (.int .i64 (size l a:Nat)) w):=by
 by_cases ha:0≤a∧a < n
 ·obtain⟨a',rfl⟩:=Int.eq_ofNat_of_zero_le ha.1;exact size_in A n cap l a' w h hc hn (by omega)
 refine(size_out A n cap a w (by omega) hn).mono ?_;rintro e w'⟨rfl,rfl⟩;rw[size_none l a (by have:=h.len;omega)];exact⟨rfl,Below.refl _ _⟩
end Go.Proofs.YtdkngfdnfekgfaaGreat
