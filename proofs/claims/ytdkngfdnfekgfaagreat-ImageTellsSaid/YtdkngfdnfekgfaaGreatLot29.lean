import Derived.Test.YtdkngfdnfekgfaaGreatLot4
import Derived.Lib.AppendStr
import Derived.Deep.QuietTactic
import Derived.BigQuiet
import Derived.WalkSmall
set_option maxHeartbeats 1000000
set_option maxRecDepth 100000
set_option linter.unusedSimpArgs false
set_option linter.unusedVariables false
namespace Go.Proofs.YtdkngfdnfekgfaaGreat.Num
def be(u:Nat):List UInt8:=if u=0 then [] else be (u / 256)++[UInt8.ofNat u]
termination_by u
decreasing_by omega
def val(l:List UInt8):Nat:=l.foldl (fun a x=>a*256+x.toNat) 0
def wid(u:Nat):Nat:=(be u).length
def sgn(n:Int):Nat:=if n < 0 then 128 else 0
def enc(n:Int):List UInt8:=UInt8.ofNat (sgn n+wid n.natAbs)::be n.natAbs
theorem be_zero:be 0=[]:=by unfold be;rfl
theorem be_pos(u:Nat)(h:u≠0):be u=be (u / 256)++[UInt8.ofNat u]:=by rw[be,if_neg h]
theorem wid_zero:wid 0=0:=by unfold wid;rw[be_zero];rfl
theorem wid_pos(u:Nat)(h:u≠0):wid u=wid (u / 256)+1:=by unfold wid;rw[be_pos u h];simp
theorem lt_wid(u k:Nat):k < wid u↔0 < u / 256 ^ k:=by
 induction k generalizing u with
 | zero =>
  by_cases h:u=0
  ·subst h;simp[wid_zero]
  rw[wid_pos u h];simp;omega
 | succ k ih =>
  by_cases h:u=0
  ·subst h;simp[wid_zero]
  rw[wid_pos u h,Nat.pow_succ,Nat.mul_comm,← Nat.div_div_eq_div_mul,← ih];omega
theorem wid_le(u k:Nat)(h:u < 256 ^ k):wid u≤k:=by
 rcases Nat.lt_or_ge k (wid u) with h1 | h1
 ·have:=(lt_wid u k).1 h1;rw[Nat.div_eq_of_lt h] at this;omega
 exact h1
theorem be_get(u i:Nat)(h:i < wid u):(be u)[i]? = some (UInt8.ofNat (u / 256 ^ (wid u - 1 - i))):=by
 induction u using Nat.strongRecOn with
 | ind u ih =>
  by_cases h0:u=0
  ·subst h0;rw[wid_zero] at h;omega
  have hw:=wid_pos u h0;rw[be_pos u h0];rcases Nat.lt_or_ge i (wid (u / 256)) with h1 | h1
  ·rw[List.getElem?_append_left h1,ih (u / 256) (by omega) h1,Nat.div_div_eq_div_mul,← Nat.pow_succ'];congr 4;omega
  have:i=(be (u / 256)).length:=by unfold wid at *;omega
  have e:wid u - 1 - i=0:=by unfold wid at *;omega
  rw[e,this];simp
theorem val_snoc(l:List UInt8)(x:UInt8):val (l++[x])=val l*256+x.toNat:=by unfold val;rw[List.foldl_append];rfl
theorem val_be(u:Nat):val (be u)=u:=by
 induction u using Nat.strongRecOn with
 | ind u ih =>
  by_cases h0:u=0
  ·subst h0;rw[be_zero];rfl
  rw[be_pos u h0,val_snoc,ih (u / 256) (by omega)];simp;omega
theorem rev_ind{α:Type}{P:List α→Prop}(h0:P [])(h1:∀ l x,P l→P (l++[x]))(l:List α):P l:=by
 have:∀ r:List α,P r.reverse:=fun r=>by
  induction r with
  | nil=>exact h0
  | cons x r ih=>rw[List.reverse_cons];exact h1 _ _ ih
 rw[← List.reverse_reverse l];exact this _
theorem val_lt(l:List UInt8):val l < 256 ^ l.length:=by
 refine rev_ind (P:=fun l=>val l < 256 ^ l.length) (by simp[val]) (fun l x ih=>?_) l;rw[val_snoc,List.length_append,List.length_singleton,Nat.pow_succ];have:x.toNat < 256:=x.toBitVec.isLt;omega
theorem val_inj(l:List UInt8):∀ m:List UInt8,l.length=m.length→val l=val m→l=m:=by
 refine rev_ind (P:=fun l=>∀ m:List UInt8,l.length=m.length→val l=val m→l=m) (fun m h _=>(List.eq_nil_of_length_eq_zero h.symm).symm) (fun l x ih m=>?_) l;refine rev_ind (P:=fun m=>(l++[x]).length=m.length→val (l++[x])=val m→l++[x]=m) (fun h _=>by simp at h) (fun m' y _ h hv=>?_) m;rw[val_snoc,val_snoc] at hv;have hx:x.toNat < 256:=x.toBitVec.isLt;have hy:y.toNat < 256:=y.toBitVec.isLt;have e1:x.toNat=y.toNat:=by omega
 rw[ih m' (by simpa using h) (by omega),UInt8.toNat_inj.1 e1]
theorem be_val(l:List UInt8)(h:wid (val l)=l.length):be (val l)=l:=val_inj _ _ h (val_be _)
theorem val_take(l:List UInt8)(k:Nat)(x:UInt8)(h:l[k]? = some x):val (l.take (k+1))=val (l.take k)*256+x.toNat:=by
 have:l.take (k+1)=l.take k++[x]:=by rw[List.take_add_one,h];rfl
 rw[this,val_snoc]
theorem enc_length(n:Int):(enc n).length=wid n.natAbs+1:=by simp[enc,wid]
theorem wid_int(n:Int)(h1:-9223372036854775808≤n)(h2:n≤9223372036854775807):wid n.natAbs≤8:=by
 refine wid_le _ _ ?_;have:(256:Nat) ^ 8=18446744073709551616:=by decide
 omega
def num(x:UInt8)(r:List UInt8):Int:=if 128≤x.toNat then -(val (r.take (x.toNat % 128)):Int) else val (r.take (x.toNat % 128))
def ok(x:UInt8)(r:List UInt8):Prop :=
 x.toNat % 128≤8∧x.toNat % 128≤r.length∧wid (val (r.take (x.toNat % 128)))=x.toNat % 128∧-9223372036854775808≤num x r∧num x r≤9223372036854775807∧(128≤x.toNat→num x r < 0)
instance (x:UInt8) (r:List UInt8):Decidable (ok x r):=by unfold ok;infer_instance
def dec:List UInt8→Int×Nat
 | []=>(0,0)
 | x::r=>if ok x r then (num x r,x.toNat % 128+1) else (0,0)
theorem dec_yes{x:UInt8}{r:List UInt8}(h:ok x r):dec (x::r)=(num x r,x.toNat % 128+1):=if_pos h
theorem dec_no{x:UInt8}{r:List UInt8}(h:¬ ok x r):dec (x::r)=(0,0):=if_neg h
theorem take_len{r:List UInt8}{k:Nat}(h:k≤r.length):(r.take k).length=k:=by rw[List.length_take];omega
theorem u8_ext{a b:UInt8}(h:a.toNat=b.toNat):a=b:=UInt8.toNat_inj.1 h
theorem num_abs(x:UInt8)(r:List UInt8):(num x r).natAbs=val (r.take (x.toNat % 128)):=by unfold num;split <;> omega
theorem ok_enc{x:UInt8}{r:List UInt8}(h:ok x r):enc (num x r)=x::r.take (x.toNat % 128):=by
 obtain⟨h1,h2,h3,h4,h5,h6⟩:=h;have hx:x.toNat < 256:=x.toBitVec.isLt;unfold enc;rw[num_abs,be_val _ (by rw[h3,take_len h2]),h3];have:UInt8.ofNat (sgn (num x r)+x.toNat % 128)=x:=by
  apply u8_ext;unfold sgn;by_cases hs:128≤x.toNat
  ·rw[if_pos (h6 hs)];simp;omega
  have:¬ num x r < 0:=by unfold num;rw[if_neg hs];omega
  rw[if_neg this];simp;omega
 rw[this]
theorem enc_dec(n:Int)(h1:-9223372036854775808≤n)(h2:n≤9223372036854775807)(m:List UInt8):dec (enc n++m)=(n,wid n.natAbs+1):=by
 have hw:=wid_int n h1 h2;have hx:(UInt8.ofNat (sgn n+wid n.natAbs)).toNat=sgn n+wid n.natAbs:=by
  have:sgn n≤128:=by unfold sgn;split <;> omega
  simp;omega
 have hk:(sgn n+wid n.natAbs) % 128=wid n.natAbs:=by unfold sgn;split <;> omega
 have ht:(be n.natAbs++m).take (wid n.natAbs)=be n.natAbs:=List.take_left' rfl;have hnum:num (UInt8.ofNat (sgn n+wid n.natAbs)) (be n.natAbs++m)=n:=by
  unfold num;rw[hx,hk,ht,val_be];unfold sgn;split <;> split <;> omega
 have hok:ok (UInt8.ofNat (sgn n+wid n.natAbs)) (be n.natAbs++m):=by
  unfold ok;rw[hnum,hx,hk,ht,val_be];refine⟨hw,?_,rfl,h1,h2,fun h=>?_⟩
  ·rw[List.length_append];unfold wid;omega
  unfold sgn at h;split at h <;> omega
 show dec (UInt8.ofNat (sgn n+wid n.natAbs)::(be n.natAbs++m))=_;rw[dec_yes hok,hnum,hx,hk]
theorem dec_bounds(l:List UInt8):(-9223372036854775808≤(dec l).1∧(dec l).1≤9223372036854775807)∧(dec l).2≤l.length∧(dec l).2≤9:=by
 cases l with
 | nil=>simp[dec]
 | cons x r =>
  by_cases h:ok x r
  ·rw[dec_yes h];obtain⟨h1,h2,h3,h4,h5,h6⟩:=h;refine⟨⟨h4,h5⟩,?_,?_⟩ <;> simp <;> omega
  rw[dec_no h];simp
def cutok(most:Int)(l:List UInt8):Prop:=(dec l).2≠0∧0≤(dec l).1∧(dec l).1≤most∧(dec l).1≤(l.length:Int) - (dec l).2
instance (most:Int) (l:List UInt8):Decidable (cutok most l):=by unfold cutok;infer_instance
def cut(most:Int)(l:List UInt8):List UInt8×Nat :=
 if cutok most l then ((l.drop (dec l).2).take (dec l).1.toNat,(dec l).2+(dec l).1.toNat) else ([],0)
theorem cut_yes{most:Int}{l:List UInt8}(h:cutok most l):cut most l=((l.drop (dec l).2).take (dec l).1.toNat,(dec l).2+(dec l).1.toNat):=if_pos h
theorem cut_no{most:Int}{l:List UInt8}(h:¬ cutok most l):cut most l=([],0):=if_neg h
end Go.Proofs.YtdkngfdnfekgfaaGreat.Num
namespace Go.Proofs.YtdkngfdnfekgfaaGreat
open Go.RowKit
theorem ret_i64{a b:Int}(h:a=b):Ending.returned (.int .i64 a)=.returned (.int .i64 b):=by rw[h]
theorem pow_byte(k:Nat):(2:Nat) ^ (8*k)=256 ^ k:=by rw[Nat.pow_mul]
theorem shr_yes(u k:Nat)(h:k < Num.wid u):decide ((0:Int) < (u:Int) / 2 ^ (8*k))=true:=by
 have:=(Num.lt_wid u k).1 h;rw[← pow_byte] at this;exact decide_eq_true (by exact_mod_cast this)
theorem shr_no(u k:Nat)(h:¬ k < Num.wid u):decide ((0:Int) < (u:Int) / 2 ^ (8*k))=false:=by
 refine decide_eq_false fun h0=>h ((Num.lt_wid u k).2 ?_);rw[← pow_byte]
 exact_mod_cast h0
theorem width_any(u:Nat)(hu:u < 18446744073709551616)(w:World):
  Calls Tryz.prog 105 #[.int .u64 (u:Int)] w fun e w'=>e=.returned (.int .i64 (Num.wid u:Int))∧w=w':=by
 have hw:Num.wid u≤8:=Num.wid_le u 8 hu;go_enter Tryz.func105,Tryz.ntmps105;go_wp2;go_loop [3] (fun i=>∃ k:Nat,k≤Num.wid u∧i=.int .i64 k) (fun i=>8 - (intOf i).toNat)
 case atStart=>exact⟨0,by omega,rfl⟩
 obtain⟨k,hk,rfl⟩:=hrel;by_cases hlt:k < Num.wid u
 ·have hd:=shr_yes u k hlt;go_wp2;go_round
  case rel=>exact⟨k+1,by omega,by go_num⟩
  simp[intOf];omega
 have hd:=shr_no u k hlt;go_wp2;go_ret;exact⟨ret_i64 (by omega),rfl⟩
theorem or_byte(v:Nat)(x:UInt8)(h:v < 72057594037927936):bits .or .u64 ((v:Int)*(256:Int) % (18446744073709551616:Int)) ((x.toNat:Int) % (18446744073709551616:Int))=((v*256+x.toNat:Nat):Int):=by
 have hx:x.toNat < 256:=x.toBitVec.isLt;have e1:(v:Int)*(256:Int) % (18446744073709551616:Int)=((v*256:Nat):Int):=by omega
 have e2:(x.toNat:Int) % (18446744073709551616:Int)=((x.toNat:Nat):Int):=by omega
 rw[e1,e2,u64_or_nat _ _ (by omega) (by omega)];have:v*256 ||| x.toNat=v*256+x.toNat:=by
  have:=Nat.shiftLeft_add_eq_or_of_lt (b:=x.toNat) (i:=8) hx v;rw[Nat.shiftLeft_eq] at this;exact this.symm
 rw[this]
theorem u64_eq{a b:Int}(h:a=b):Value.int .u64 a=.int .u64 b:=by rw[h]
theorem ret_u64{a b:Int}(h:a=b):Ending.returned (.int .u64 a)=.returned (.int .u64 b):=by rw[h]
theorem val_small(l:List UInt8)(k:Nat)(h:k < 8):Num.val (l.take k) < 72057594037927936:=by
 have h1:=Num.val_lt (l.take k);have h2:(256:Nat) ^ (l.take k).length≤256 ^ 7:=Nat.pow_le_pow_right (by omega) (by rw[List.length_take];omega);have h3:(256:Nat) ^ 7=72057594037927936:=by decide
 omega
theorem read_any(A:Option Addr)(n cap:Nat)(l:List UInt8)(B:Nat)(w:World)(h:Rd w B A n l)(hn:n≤8):
  Calls Tryz.prog 104 #[.slice A n cap] w fun e w'=>e=.returned (.int .u64 (Num.val l:Int))∧w=w':=by
 have H0:=hid h.1;go_enter Tryz.func104,Tryz.ntmps104;go_wp2;go_loop [3,8] (fun t i=>∃ k:Nat,k≤n∧i=.int .i64 k∧t=.int .u64 (Num.val (l.take k):Int)) (fun _ i=>n - (intOf i).toNat)
 case atStart=>exact⟨0,by omega,rfl,rfl⟩
 obtain⟨k,hk,rfl,rfl⟩:=hrel;by_cases hlt:k < n
 ·obtain⟨ad,x,rfl,_,hx,hc⟩:=h.at_ hlt;have H:=hid (Num.val_take l k x hx);have hv:=val_small l k (by omega);have H2:=hid (or_byte (Num.val (l.take k)) x hv);clear hx hv;go_wp2;go_round
  case rel=>exact⟨k+1,by omega,by go_num,by rw[H.out];exact u64_eq H2.out⟩
  simp[intOf];omega
 obtain rfl:k=n:=by omega
 go_wp2;go_ret;have e:l.take k=l:=List.take_of_length_le (by have:=H0.out;omega);exact⟨ret_u64 (by rw[e]),rfl⟩
def Grown(w:World)(B n:Nat)(l:List UInt8)(e:Ending)(w':World):Prop :=
 ∃ A c,e=.returned (.slice A n c)∧Own w' B A n c l∧Below B w w'
theorem copied_any(A:Option Addr)(n cap:Nat)(l:List UInt8)(m:Nat)(w:World)(h:Rd w w.heap.size A n l)(hn:n≤140737488355328)(hm:m≤140737488355328):
  Calls Tryz.prog 103 #[.slice A n cap,.int .i64 (m:Int)] w (Made w n l):=by
 have H0:=hid h.1;go_enter Tryz.func103,Tryz.ntmps103;go_wp2_with (first
  | (at_make;refine wpList_mk rfl (.tmp 7) (.tmp 11) rfl w.heap.size n (n+m) _ rfl rfl (by omega) (by omega) (by omega) (Nat.le_refl _) ?_;intro w1 hw1 hb1)
  | (with_reducible refine wpList_cp (o:=⟨some 15,_,_,_,_,_⟩) rfl (.tmp 13) (.tmp 14) rfl w.heap.size w.heap.size n (n+m) n cap _ rfl hw1 A l w.heap.size rfl (h.below hb1) (Nat.le_refl _) ?_;intro w2 hw2 hb2))
 go_ret;refine⟨_,_,rfl,?_,hb1.trans hb2⟩;rwa [List.take_of_length_le (by have:=H0.out;omega)] at hw2
theorem own_lit1(w:World)(B:Nat)(v:Int)(b:UInt8)(hv:v=(b.toNat:Int))(hB:B≤w.heap.size):
  Own (w.alloc (.cells #[.int .u8 v] 5)) B (some ⟨w.heap.size,0,none⟩) 1 1 [b]:=own_lit w B [b] _ (by subst hv;rfl) hB (by simp)
theorem rd_lit1(w:World)(v:Int)(b:UInt8)(hv:v=(b.toNat:Int)):Rd (w.alloc (.cells #[.int .u8 v] 5)) (w.heap.size+1) (some ⟨w.heap.size,0,none⟩) 1 [b]:=by
 have:=(own_lit1 w w.heap.size v b hv (Nat.le_refl _)).rd;simpa using this
theorem or_128(k:Nat)(h:k≤8):(128:Int)+k=((UInt8.ofNat (128+k)).toNat:Int):=by
 have:k=0∨k=1∨k=2∨k=3∨k=4∨k=5∨k=6∨k=7∨k=8:=by omega
 rcases this with rfl | rfl | rfl | rfl | rfl | rfl | rfl | rfl | rfl <;> rfl
theorem or_0(k:Nat)(h:k≤8):bits .or .u8 0 (k:Int)=((UInt8.ofNat (0+k)).toNat:Int):=by
 have:k=0∨k=1∨k=2∨k=3∨k=4∨k=5∨k=6∨k=7∨k=8:=by omega
 rcases this with rfl | rfl | rfl | rfl | rfl | rfl | rfl | rfl | rfl <;> rfl
theorem be_byte(u i:Nat)(h:i+1≤Num.wid u):(u:Int) / 2 ^ (8*i) % 256=((UInt8.ofNat (u / 256 ^ i)).toNat:Int):=by
 rw[← pow_byte];simp
theorem be_step(l:List UInt8)(x:UInt8)(u i:Nat)(h:i+1≤Num.wid u):(l++x::(Num.be u).take (Num.wid u - (i+1)))++[UInt8.ofNat (u / 256 ^ i)]=l++x::(Num.be u).take (Num.wid u - i):=by
 have e:=Num.be_get u (Num.wid u - (i+1)) (by omega);have e1:Num.wid u - 1 - (Num.wid u - (i+1))=i:=by omega
 have e2:Num.wid u - i=Num.wid u - (i+1)+1:=by omega
 rw[e1] at e;rw[e2,List.take_add_one,e];simp
theorem number_any(A:Option Addr)(n c B:Nat)(l:List UInt8)(z:Int)(w:World)(h:Own w B A n c l)(hB:B≤w.heap.size)(hn:n+9≤140737488355328)(h1:-9223372036854775808≤z)(h2:z≤9223372036854775807):
  Calls Tryz.prog 102 #[.slice A n c,.int .i64 z] w (Grown w B (n+1+Num.wid z.natAbs) (l++Num.enc z)):=by
 by_cases hz:z < 0
 ·obtain⟨u,rfl,hu0,hu⟩:∃ u:Nat,z=-(u:Int)∧0 < u∧u≤9223372036854775808:=⟨z.natAbs,by omega,by omega,by omega⟩;have eu:(-(u:Int)).natAbs=u:=by omega
  have ew:IntKind.u64.wrap (-IntKind.u64.wrap (-(u:Int)))=(u:Int):=by simp only[IntKind.wrap_u64];omega
  have es:Num.enc (-(u:Int))=UInt8.ofNat (128+Num.wid u)::Num.be u:=by unfold Num.enc Num.sgn;rw[eu,if_pos (by omega)]
  have E1:=hid (or_128 (Num.wid u) (by have:=Num.wid_int (-(u:Int)) h1 h2;rw[eu] at this;exact this));rw[eu,es];have EU:=hid ew;have hw8:Num.wid u≤8:=Num.wid_le u 8 (by have:(256:Nat) ^ 8=18446744073709551616:=(by decide);omega);clear es eu ew;go_enter Tryz.func102,Tryz.ntmps102;go_wp2_with fail;rw[EU.out];refine(width_any u (by omega) w).mono ?_;rintro e w'⟨rfl,rfl⟩;go_wp2_with (at_builtin;go_loud (refine wpList_app rfl (.tmp 16) (.tmp 21) rfl rfl B A n c l rfl (h.below rfl ((Below.refl _ _).alloc (Nat.le_refl _) _)) (some ⟨w.heap.size,0,none⟩) 1 1 [UInt8.ofNat (128+Num.wid u)] (w.heap.size+1) rfl (rd_lit1 w _ _ (by have:=E1.out;omega)) (n+1) rfl (l++[UInt8.ofNat (128+Num.wid u)]) rfl (by omega) (by simp;omega) ?_;intro A1 c1 w1 hw1 hb1));have hb2:Below B w w1:=(((Below.refl _ _).alloc (Nat.le_refl _) _).mono hB).trans hb1;clear hb1 E1 EU h;go_loopw [0,7] (fun b k wr=>∃(i N:Nat) (A:Option Addr) (c:Nat),i≤Num.wid u∧N+i=n+1+Num.wid u∧k=.int .i64 i∧b=.slice A N c∧Own wr B A N c (l++UInt8.ofNat (128+Num.wid u)::(Num.be u).take (Num.wid u - i))∧Below B w wr) (fun _ k _=>(intOf k).toNat)
  case atStart=>exact⟨Num.wid u,n+1,A1,c1,Nat.le_refl _,rfl,rfl,rfl,by simpa using hw1,hb2⟩
  obtain⟨i,N,A2,c2,hi,hN,rfl,rfl,hw,hb⟩:=hrel;cases i with
  | succ i =>
   have E2:=hid (be_byte u i hi);have E3:=hid (be_step l (UInt8.ofNat (128+Num.wid u)) u i hi);have hsz:=hb.size;go_wp2_with (at_builtin;go_loud (refine wpList_app rfl (.tmp 27) (.tmp 33) rfl rfl B A2 N c2 _ rfl (hw.below rfl ((Below.refl _ _).alloc (Nat.le_refl _) _)) (some ⟨wr.heap.size,0,none⟩) 1 1 [UInt8.ofNat (u / 256 ^ i)] (wr.heap.size+1) rfl (rd_lit1 wr _ _ E2.out) (N+1) rfl _ rfl (by omega) (by simp;omega) ?_;intro A3 c3 w3 hw3 hb3));rw[E3.out] at hw3;go_roundw
   case rel=>exact⟨i,N+1,A3,c3,by omega,by omega,by go_num,rfl,hw3,hb.trans ((((Below.refl _ _).alloc (Nat.le_refl _) _).mono (by omega)).trans hb3)⟩
   simp[intOf]
  | zero =>
   go_wp2;go_ret;obtain rfl:N=n+1+Num.wid u:=by omega
   refine⟨A2,c2,rfl,?_,hb⟩;rwa [Nat.sub_zero,List.take_of_length_le (show (Num.be u).length≤Num.wid u from Nat.le_refl _)] at hw
 obtain⟨u,rfl⟩:∃ u:Nat,z=(u:Int):=⟨z.natAbs,by omega⟩;have eu:((u:Int)).natAbs=u:=by omega
 have hu:u≤9223372036854775808:=by omega
 have ew:(u:Int)=(u:Int):=rfl;have es:Num.enc (u:Int)=UInt8.ofNat (0+Num.wid u)::Num.be u:=by unfold Num.enc Num.sgn;rw[eu,if_neg (by omega)]
 have E1:=hid (or_0 (Num.wid u) (by have:=Num.wid_int (u:Int) h1 h2;rw[eu] at this;exact this));rw[eu,es];have EU:=hid ew;have hw8:Num.wid u≤8:=Num.wid_le u 8 (by have:(256:Nat) ^ 8=18446744073709551616:=(by decide);omega);clear es eu ew;go_enter Tryz.func102,Tryz.ntmps102;go_wp2_with fail
 skip;refine(width_any u (by omega) w).mono ?_;rintro e w'⟨rfl,rfl⟩;go_wp2_with (at_builtin;go_loud (refine wpList_app rfl (.tmp 16) (.tmp 21) rfl rfl B A n c l rfl (h.below rfl ((Below.refl _ _).alloc (Nat.le_refl _) _)) (some ⟨w.heap.size,0,none⟩) 1 1 [UInt8.ofNat (0+Num.wid u)] (w.heap.size+1) rfl (rd_lit1 w _ _ (by have:=E1.out;omega)) (n+1) rfl (l++[UInt8.ofNat (0+Num.wid u)]) rfl (by omega) (by simp;omega) ?_;intro A1 c1 w1 hw1 hb1));have hb2:Below B w w1:=(((Below.refl _ _).alloc (Nat.le_refl _) _).mono hB).trans hb1;clear hb1 E1 EU h;go_loopw [0,7] (fun b k wr=>∃(i N:Nat) (A:Option Addr) (c:Nat),i≤Num.wid u∧N+i=n+1+Num.wid u∧k=.int .i64 i∧b=.slice A N c∧Own wr B A N c (l++UInt8.ofNat (0+Num.wid u)::(Num.be u).take (Num.wid u - i))∧Below B w wr) (fun _ k _=>(intOf k).toNat)
 case atStart=>exact⟨Num.wid u,n+1,A1,c1,Nat.le_refl _,rfl,rfl,rfl,by simpa using hw1,hb2⟩
 obtain⟨i,N,A2,c2,hi,hN,rfl,rfl,hw,hb⟩:=hrel;cases i with
 | succ i =>
  have E2:=hid (be_byte u i hi);have E3:=hid (be_step l (UInt8.ofNat (0+Num.wid u)) u i hi);have hsz:=hb.size;go_wp2_with (at_builtin;go_loud (refine wpList_app rfl (.tmp 27) (.tmp 33) rfl rfl B A2 N c2 _ rfl (hw.below rfl ((Below.refl _ _).alloc (Nat.le_refl _) _)) (some ⟨wr.heap.size,0,none⟩) 1 1 [UInt8.ofNat (u / 256 ^ i)] (wr.heap.size+1) rfl (rd_lit1 wr _ _ E2.out) (N+1) rfl _ rfl (by omega) (by simp;omega) ?_;intro A3 c3 w3 hw3 hb3));rw[E3.out] at hw3;go_roundw
  case rel=>exact⟨i,N+1,A3,c3,by omega,by omega,by go_num,rfl,hw3,hb.trans ((((Below.refl _ _).alloc (Nat.le_refl _) _).mono (by omega)).trans hb3)⟩
  simp[intOf]
 | zero =>
  go_wp2;go_ret;obtain rfl:N=n+1+Num.wid u:=by omega
  refine⟨A2,c2,rfl,?_,hb⟩;rwa [Nat.sub_zero,List.take_of_length_le (show (Num.be u).length≤Num.wid u from Nat.le_refl _)] at hw
theorem run_apps(w:World)(B:Nat)(A:Option Addr)(n c:Nat)(l0:List UInt8)(h:Own w B A n c l0)(s:ByteArray)
  (hb:n+s.size≤140737488355328) (hB:B≤w.heap.size) :
  ∃ A' c' w',(Builtin.append_ #[35,9] 35 #[.slice A n c,.string s]).run Tryz.prog w=.ok (.slice A' (n+s.size) c') w'∧Own w' B A' (n+s.size) c' (l0++s.data.toList)∧Below B w w':=by
 obtain⟨i,hi,hz,hs,hby⟩:=info_parts u8_info
 obtain⟨v',w',hrun,hown,hgr,hnil⟩:=Lib.run_append_own_string (P:=Tryz.prog) w B 35 9 35 5 i Tryz.underlying35 Tryz.underlying9 hi hz hs hby (.slice A n c) n (bs l0) h s
  (by unfold maxLen;omega) (by omega) hB
 have hbel:Below B w w':=(Below.refl _ _).grown hgr hB (fun k hk=>by
  rcases h.2 with ⟨hv,_⟩ | ⟨g,cap,cur,hv,hbg,_⟩
  ·rw[hv] at hk;simp[Value.ownBlock] at hk
  ·rw[hv] at hk;simp[Value.ownBlock] at hk;omega)
 have e:Lib.strCells s=bs s.data.toList:=rfl
 rw[e,← bs_append] at hown
 rcases hown.2 with ⟨hv,h0⟩ | ⟨g,cap,cur,hv,_⟩
 ·subst hv
  have e:n+s.size=0:=h0
  refine⟨none,0,w',by rw[hrun,e],?_,hbel⟩
  unfold Own;rw[e] at hown ⊢;exact hown
 ·subst hv
  exact⟨_,_,w',hrun,hown,hbel⟩
theorem wpList_apps{ops:Array Oper}{rest:List Oper}{o:Oper}{a:Act}{Q:Exit→Act→World→Prop}{w:World}(hgd:o.guard=none)(s x:Operand)
  (ho:o.op=.call { callee:=.builtin .append,args:=#[s,x],argTypes:=#[35,9] }) (hty:o.type=35)
  (B:Nat) (A:Option Addr) (n c:Nat) (l0:List UInt8) (hs:a.eval s=.slice A n c) (h:Own w B A n c l0) (t:ByteArray) (hx:a.eval x=.string t)
  (N:Nat) (hN:n+t.size=N) (L:List UInt8) (hL:l0++t.data.toList=L) (hb:N≤140737488355328) (hB:B≤w.heap.size)
  (hK:∀ A' c' w',Own w' B A' N c' L→Below B w w'→wpList Tryz.prog ops Q rest (a.put o.dst (.slice A' N c')) w'):wpList Tryz.prog ops Q (o::rest) a w:=by
 subst hN;subst hL
 refine wpList_plain hgd fun K hk=>?_
 obtain⟨A',c',w',hrun,h1,h2⟩:=run_apps w B A n c l0 h t hb hB
 unfold Oper.wp execOp
 simp only[ho,hty,resolve,invoke,builtin,Sem.run_bind,Sem.run_pure,Result.andThen_ok,List.map_toArray,List.map_cons,List.map_nil,hs,hx,hrun]
 exact hk _ _ (hK A' c' w' h1 h2)
end Go.Proofs.YtdkngfdnfekgfaaGreat
