import Derived.Test.YtdkngfdnfekgfaaGreatLon4
import Derived.Deep.Cut
set_option maxHeartbeats 4000000
set_option maxRecDepth 100000
set_option linter.unusedSimpArgs false
set_option linter.unusedVariables false
namespace Go.Proofs.YtdkngfdnfekgfaaGreat
open Go.RowKit Tab
def chB(i b:Nat):Bool:=(decide (97≤b) && decide (b≤122)) || ((decide (48≤b) && decide (b≤57) || decide (b=95)) && decide (i≠0))
def byteN(s:ByteArray)(j:Nat):Nat:=if h:j < s.size then s[j].toNat else 0
def nameF(s:ByteArray):Bool:=(List.range s.size).all (fun j=>chB j (byteN s j)) && (decide (1≤s.size) && decide (s.size≤12))
theorem nameF_bad{s:ByteArray}{i:Nat}(hi:i < s.size)(h:chB i (byteN s i)=false):nameF s=false:=by
 unfold nameF;have:(List.range s.size).all (fun j=>chB j (byteN s j))=false:=by
  rw[List.all_eq_false];exact⟨i,List.mem_range.2 hi,by rw[h];simp⟩
 rw[this];rfl
theorem nameF_end{s:ByteArray}(h:∀ j,j < s.size→chB j (byteN s j)=true):nameF s=(decide (1≤s.size) && decide (s.size≤12)):=by
 unfold nameF;have:(List.range s.size).all (fun j=>chB j (byteN s j))=true:=by
  rw[List.all_eq_true];exact fun j hj=>h j (List.mem_range.1 hj)
 rw[this];rfl
theorem xname_any(s : ByteArray)(w : World)(hs : s.size ≤ 140737488351232): Calls Tryz.prog 70 #[.string s] w (fun e w' => e = .returned (.bool (nameF s)) ∧ w = w') := by
  have HBAD := hid fun i (hi : i < s.size) (h : chB i (byteN s i) = false) => nameF_bad hi h
  have HEND := hid fun (h : ∀ j, j < s.size → chB j (byteN s j) = true) => nameF_end h
  generalize nameF s = v at HBAD HEND
  go_enter Tryz.func70, Tryz.ntmps70
  go_wp2_with fail
  go_loopw [3, 4] (fun q _ wr => ∃ i : Nat, i ≤ s.size ∧ q = .int .i64 i ∧ (∀ j, j < i → chB j (byteN s j) = true) ∧ w = wr) (fun q _ _ => s.size - (intOf q).toNat)
  case atStart => exact ⟨0, by omega, rfl, fun j h => by omega, rfl⟩
  case round =>
    obtain ⟨i, hi, rfl, hok, rfl⟩ := hrel
    have HOK := hid hok
    clear hok
    by_cases hlt : i < s.size
    · have hlti : (i : Int) < (s.size : Int) := by omega
      have hb : byteN s i = s[i].toNat := dif_pos hlt
      have HB := hid hb
      have HNX : Hid (chB i (byteN s i) = true → ∀ j, j < i + 1 → chB j (byteN s j) = true) := hid fun h j hj => by
        rcases Nat.lt_or_ge j i with h1 | h1
        · exact HOK.out j h1
        · obtain rfl : j = i := by omega
          exact h
      rw [hb] at HNX
      have HBD := hid (HBAD.out i hlt)
      rw [hb] at HBD
      clear hb HB HBAD HEND HOK
      have HC : Hid (∀ b : Nat, b = s[i].toNat → chB i b = (decide (97 ≤ b) && decide (b ≤ 122) || (decide (48 ≤ b) && decide (b ≤ 57) || decide (b = 95)) && decide (i ≠ 0))) := hid fun b _ => rfl
      obtain ⟨b, hb⟩ : ∃ b, b = s[i].toNat := ⟨_, rfl⟩
      have hc := HC.out b hb
      rw [← hb] at HNX HBD
      have hix : (Instr.index 9 (.string s) (.int .i64 (i : Int))).run Tryz.prog w = .ok (.int .u8 (b : Int)) w := by
        rw [hb]
        rw [run_index_string (h := Tryz.underlying9)]
        simp [hlt]
      have HCC := hid hc
      clear HC hc hb
      rcases (by omega : (97 ≤ b ∧ b ≤ 122) ∨ (48 ≤ b ∧ b ≤ 57 ∧ i < 1) ∨ (48 ≤ b ∧ b ≤ 57 ∧ 1 ≤ i) ∨ (95 ≤ b ∧ b ≤ 95 ∧ i < 1) ∨ (95 ≤ b ∧ b ≤ 95 ∧ 1 ≤ i) ∨ (b < 48) ∨ (57 < b ∧ b < 95) ∨ (95 < b ∧ b < 97) ∨ (122 < b)) with h | h | h | h | h | h | h | h | h
      all_goals
        first
        | (have k5 : chB i b = true := by rw [HCC.out]; simp; omega)
        | (have k5 : chB i b = false := by rw [HCC.out]; simp; omega)
        have K5 := hid k5
        clear k5
        first
        | have i1 : (48 : Int) ≤ (b : Int) := by omega
        | have i1 : ¬ (48 : Int) ≤ (b : Int) := by omega
        first
        | have i2 : (b : Int) ≤ 57 := by omega
        | have i2 : ¬ (b : Int) ≤ 57 := by omega
        first
        | have i3 : ((b : Int) == 95) = true := by simp; omega
        | have i3 : ((b : Int) == 95) = false := by simp; omega
        first
        | have i4 : (b : Int) < 97 := by omega
        | have i4 : ¬ (b : Int) < 97 := by omega
        first
        | have i5 : (122 : Int) < (b : Int) := by omega
        | have i5 : ¬ (122 : Int) < (b : Int) := by omega
        try first
          | have i6 : ((i : Int) == 0) = true := by simp; omega
          | have i6 : ((i : Int) == 0) = false := by simp; omega
        go_wp2_with fail
        first
        | (go_ret; exact ⟨by rw [HBD.out K5.out]; rfl, by first | rfl | trivial⟩)
        | (go_roundw
           case rel => exact ⟨i + 1, by omega, by go_num, HNX.out K5.out, by first | rfl | trivial⟩
           case measure => simp [intOf]; omega)
    · have hlti : ¬ (i : Int) < (s.size : Int) := by omega
      have hv := HEND.out fun j hj => HOK.out j (by omega)
      have HV := hid hv
      clear hv HBAD HEND
      have hf : ∀ (p : Prop) [Decidable p], (p ∨ ¬ p) := fun p _ => Decidable.em p
      rcases hf (1 ≤ s.size) with h1 | h1 <;> rcases hf (s.size ≤ 12) with h2 | h2 <;> (try (exfalso; omega))
      all_goals
        first
        | have i1 : (1 : Int) ≤ (s.size : Int) := by omega
        | have i1 : ¬ (1 : Int) ≤ (s.size : Int) := by omega
        first
        | have i2 : (s.size : Int) ≤ 12 := by omega
        | have i2 : ¬ (s.size : Int) ≤ 12 := by omega
        go_wp2_with fail
        go_ret
        exact ⟨by rw [HV.out]; simp [h1, h2], by first | rfl | trivial⟩
def chanF(x:ChV)(n:Int):Bool:=(decide (0≤x.from_) && (decide (x.from_ < n) && (decide (0≤x.to_) && (decide (x.to_ < n) && (decide (x.from_≠x.to_) && (decide (0≤x.late) && decide (x.late≤4096))))))) &&
 (x.queue && (decide (1≤x.cap) && decide (x.cap≤8)) || !x.queue && decide (x.cap=0))
theorem xchan_any(x:ChV)(n:Int)(w:World):Calls Tryz.prog 72 #[cv x,.int .i64 n] w (Ans (.bool (chanF x n)) w):=by
 obtain⟨f,t,q,c,m,l⟩:=x;have HV:Hid (∀ v,v=chanF ⟨f,t,q,c,m,l⟩ n→v=((decide (0≤f) && (decide (f < n) && (decide (0≤t) && (decide (t < n) && (decide (f≠t) && (decide (0≤l) && decide (l≤4096))))))) && (q && (decide (1≤c) && decide (c≤8)) || !q && decide (c=0)))):=hid fun v h=>h;obtain⟨v,hv⟩:∃ v,v=chanF ⟨f,t,q,c,m,l⟩ n:=⟨_,rfl⟩;have HVV:=hid (HV.out v hv);rw[← hv];clear hv HV;go_enter Tryz.func72,Tryz.ntmps72;have hf:∀(p:Prop) [Decidable p],(p∨¬ p):=fun p _=>Decidable.em p;rcases(by omega:f < 0∨(0≤f∧n≤f)∨(0≤f∧f < n∧t < 0)∨(0≤f∧f < n∧0≤t∧n≤t)∨(0≤f∧f < n∧0≤t∧t < n∧f≤t∧t≤f)∨(0≤f∧f < n∧0≤t∧t < n∧(f < t∨t < f)∧l < 0)∨(0≤f∧f < n∧0≤t∧t < n∧(f < t∨t < f)∧4096 < l)∨(0≤f∧f < n∧0≤t∧t < n∧(f < t∨t < f)∧0≤l∧l≤4096)) with h | h | h | h | h | h | h | h
 case inr.inr.inr.inr.inr.inr.inr =>
  have hv2:v=(q && (decide (1≤c) && decide (c≤8)) || !q && decide (c=0)):=by
   rw[HVV.out,decide_eq_true (show 0≤f by omega),decide_eq_true (show f < n by omega),decide_eq_true (show 0≤t by omega),decide_eq_true (show t < n by omega),decide_eq_true (show f≠t by omega),decide_eq_true (show 0≤l by omega),decide_eq_true (show l≤4096 by omega)];rfl
  have HV2:=hid hv2;clear hv2;have i1:¬ f < 0:=by omega
  have i2:¬ n≤f:=by omega
  have i3:¬ t < 0:=by omega
  have i4:¬ n≤t:=by omega
  have i5:(f == t)=false:=beq_eq_false_iff_ne.2 (by omega);have i6:¬ l < 0:=by omega
  have i7:¬ 4096 < l:=by omega
  clear h;cases q with
  | false =>
   rcases hf (c=0) with hc | hc
   ·have i8:(c == 0)=true:=by rw[hc];rfl
    have hv3:v=true:=by rw[HV2.out,hc];rfl
    have HV3:=hid hv3;clear hc hv3;go_wp2_with fail;go_ret;exact Ans.mk (by rw[HV3.out];rfl) (bl1 _ _)
   have i8:(c == 0)=false:=beq_eq_false_iff_ne.2 hc;have hv3:v=false:=by rw[HV2.out,decide_eq_false hc];rfl
   have HV3:=hid hv3;clear hc hv3;go_wp2_with fail;go_ret;exact Ans.mk (by rw[HV3.out];rfl) (bl1 _ _)
  | true =>
   rcases hf (1≤c) with hc | hc <;> rcases hf (c≤8) with hd | hd <;> (try (exfalso;omega))
   all_goals
    have hv0:v=(decide (1≤c) && decide (c≤8)):=by rw[HV2.out];simp
    first
    | have hv3:v=true:=by rw[hv0,decide_eq_true hc,decide_eq_true hd];rfl
    | have hv3:v=false:=by rw[hv0,decide_eq_false hc];rfl
    | have hv3:v=false:=by rw[hv0,decide_eq_false hd,Bool.and_false]
    have HV3:=hid hv3;clear hv3 hv0;go_wp2_with fail;go_ret;exact Ans.mk (by rw[HV3.out];rfl) (bl1 _ _)
 all_goals
  have hv2:v=false:=by
   rw[HVV.out]
   first
   | rw[decide_eq_false (show ¬ 0≤f by omega)];rfl
   | rw[decide_eq_false (show ¬ f < n by omega)];simp
   | rw[decide_eq_false (show ¬ 0≤t by omega)];simp
   | rw[decide_eq_false (show ¬ t < n by omega)];simp
   | rw[decide_eq_false (show ¬ f≠t by omega)];simp
   | rw[decide_eq_false (show ¬ 0≤l by omega)];simp
   | rw[decide_eq_false (show ¬ l≤4096 by omega)];simp
  have HV2:=hid hv2;clear hv2
  try first
   | have i1:f < 0:=by omega
   | have i1:¬ (f < 0):=by omega
  try first
   | have i2:n≤f:=by omega
   | have i2:¬ (n≤f):=by omega
  try first
   | have i3:t < 0:=by omega
   | have i3:¬ (t < 0):=by omega
  try first
   | have i4:n≤t:=by omega
   | have i4:¬ (n≤t):=by omega
  try first
   | have i5:(f == t)=true:=beq_iff_eq.2 (by omega)
   | have i5:(f == t)=false:=beq_eq_false_iff_ne.2 (by omega)
  try first
   | have i6:l < 0:=by omega
   | have i6:¬ (l < 0):=by omega
  try first
   | have i7:4096 < l:=by omega
   | have i7:¬ (4096 < l):=by omega
  clear h;go_wp2_with fail;go_ret;exact Ans.mk (by rw[HV2.out];rfl) (bl1 _ _)
theorem more_any(s n S N:Int)(w:World)(hs:0≤s)(hn:0≤n)(h:s+n≤4611686018427387904)(hS:S=s)(hN:N=n):
  Calls Tryz.prog 123 #[.int .i64 S,.int .i64 N] w fun e w'=>e=.returned (.int .i64 (s+n))∧w'=w:=by
 subst hS;subst hN;by_cases h0:N < 1
 ·have e:N=0:=by omega
  subst e;go_enter Tryz.func123,Tryz.ntmps123;go_wp2;go_ret;exact⟨by simp,rfl⟩
 have h1:¬ 9223372036854775807 - N < S:=by omega
 go_enter Tryz.func123,Tryz.ntmps123;go_wp2;go_ret;exact⟨rfl,rfl⟩
theorem sum_any(s n S N:Int)(w:World)(hs:0≤s)(hn:0≤n)(h:s+n≤4611686018427387904)(hS:S=s)(hN:N=n):
  Calls Tryz.prog 68 #[.int .i64 S,.int .i64 N] w fun e w'=>e=.returned (.int .i64 (s+n))∧w'=w:=by
 subst hS;subst hN;have h1:¬ 9223372036854775807 - N < S:=by omega
 have m1:max S 0=S:=by omega
 have m2:max N 0=N:=by omega
 go_enter Tryz.func68,Tryz.ntmps68;go_wp2;go_ret;exact⟨rfl,rfl⟩
end Go.Proofs.YtdkngfdnfekgfaaGreat
namespace Go.Proofs.YtdkngfdnfekgfaaGreat
namespace Tab
structure Rn where
 p:Int
 n:Nat
def reps:Nat→List Rn→List Rn
 | 0,_=>[]
 | n+1,s=>s++reps n s
def whose(x:Nd):Int:=if x.k=2 then -1 else x.p
def one(x:Nd)(s:List Rn):List Rn:=if x.k=3 then s else if x.k=4 then reps x.n.toNat s else [⟨whose x,x.n.toNat⟩]
def F.lvs:F→List Rn
 | nil=>[]
 | cons x k r=>one x (lvs k)++lvs r
def ticks:List Rn→Nat
 | []=>0
 | r::s=>r.n+ticks s
theorem ticks_append(a b:List Rn):ticks (a++b)=ticks a+ticks b:=by
 induction a with
 | nil=>simp[ticks]
 | cons x a ih=>simp only[List.cons_append,ticks,ih];omega
theorem ticks_reps(n:Nat)(s:List Rn):ticks (reps n s)=n*ticks s:=by
 induction n with
 | zero=>simp[reps,ticks]
 | succ n ih=>rw[reps,ticks_append,ih,Nat.succ_mul];omega
theorem one_ticks(x:Nd)(s:List Rn):ticks (one x s)=F.tick x (ticks s):=by
 unfold one F.tick;split
 ·rfl
 split
 ·rw[ticks_reps,Nat.mul_comm]
 simp[ticks]
theorem lvs_ticks(f:F):ticks f.lvs=f.len:=by
 induction f with
 | nil=>rfl
 | cons x k r hk hr=>simp only[F.lvs,F.len,ticks_append,one_ticks,hk,hr]
theorem reps_mem{n:Nat}{s:List Rn}{r:Rn}(h:r∈reps n s):r∈s:=by
 induction n with
 | zero=>simp[reps] at h
 | succ n ih =>
  rcases List.mem_append.1 h with h | h
  ·exact h
  exact ih h
theorem lvs_pos{f:F}(h:f.ok):∀ r∈f.lvs,1≤r.n:=by
 induction f with
 | nil=>intro r hr;simp[F.lvs] at hr
 | cons x k r hk hr =>
  intro q hq;rcases List.mem_append.1 hq with hq | hq
  ·unfold one at hq;split at hq
   ·exact hk h.2.2.1 q hq
   split at hq
   ·exact hk h.2.2.1 q (reps_mem hq)
   simp at hq;subst hq;have:=fine_one h.1;show 1≤x.n.toNat;omega
  exact hr h.2.2.2 q hq
theorem length_le_ticks{s:List Rn}(h:∀ r∈s,1≤r.n):s.length≤ticks s:=by
 induction s with
 | nil=>simp[ticks]
 | cons r s ih =>
  have h1:=h r (by simp);have h2:=ih fun q hq=>h q (by simp[hq]);simp only[List.length_cons,ticks];omega
theorem lvs_leaf{x:Nd}(h3:¬ x.k=3)(h4:¬ x.k=4)(s:List Rn):one x s=[⟨whose x,x.n.toNat⟩]:=by unfold one;rw[if_neg h3,if_neg h4]
theorem lvs_seq{x:Nd}(h3:x.k=3)(s:List Rn):one x s=s:=if_pos h3
theorem lvs_rep{x:Nd}(h4:x.k=4)(s:List Rn):one x s=reps x.n.toNat s:=by unfold one;rw[if_neg (by omega),if_pos h4]
theorem reps_one{n:Nat}(h:1≤n)(s:List Rn):reps n s=s++reps (n - 1) s:=by
 obtain⟨m,rfl⟩:∃ m,n=m+1:=⟨n - 1,by omega⟩;rfl
inductive Beh (l:List Nd):List (Nat×Nat)→Nat→List Rn→Prop
 | top:Beh l [] l.length []
 | seq {o:List (Nat×Nat)} {p:Nat} {f:F} {t:List Nd} {td:List Rn} (hok:f.ok) (hl:l.drop p=f.flat++t) (hd:o.length+1+f.dep≤16) (h:Beh l o (p+f.sz) td):Beh l ((f.cnt+1,0)::o) p (f.lvs++td)
 | rep {o:List (Nat×Nat)} {a b:Nat} {y:Nd} {k:F} {t:List Nd} {td:List Rn} (hok:(F.cons y k .nil).ok) (ha:1≤a) (ha2:a≤9223372036854775807) (hb:1≤b) (hl:l.drop b=y::(k.flat++t)) (hd:o.length+1+(k.dep+1)≤16)
   (h:Beh l o (b+1+k.sz) td):Beh l ((a,b)::o) (b+1+k.sz) (reps (a - 1) (one y k.lvs)++td)
def Ats(l:List Nd)(st:List (Nat×Nat))(p:Nat)(td:List Rn):Prop :=
 (st=[]∧p=l.length∧td=[])∨∃(x:Nd) (k:F) (t:List Nd) (u:List Rn),(F.cons x k .nil).ok∧l.drop p=x::(k.flat++t)∧st.length+(k.dep+1)≤16∧Beh l st (p+1+k.sz) u∧td=one x k.lvs++u
def AtL(l:List Nd)(st:List (Nat×Nat))(p:Nat)(td:List Rn):Prop :=
 (st=[]∧p=l.length∧td=[])∨∃(x:Nd) (u:List Rn),fine x=true∧¬ x.k=3∧¬ x.k=4∧l[p]? = some x∧st.length≤15∧Beh l st (p+1) u∧td=⟨whose x,x.n.toNat⟩::u
theorem drop_get{l:List Nd}{p:Nat}{x:Nd}{t:List Nd}(h:l.drop p=x::t):l[p]? = some x∧l.drop (p+1)=t∧p < l.length:=by
 have h1:(l.drop p)[0]? = some x:=by rw[h];rfl
 have h2:l[p]? = some x:=by simpa using h1
 refine⟨h2,?_,(List.getElem?_eq_some_iff.1 h2).1⟩;rw[← List.drop_drop,h];rfl
theorem Ats.out{l:List Nd}{st:List (Nat×Nat)}{p:Nat}{td:List Rn}(h:Ats l st p td)(hp:l.length≤p):AtL l st p td:=by
 rcases h with h | ⟨x,k,t,u,_,h2,_⟩
 ·exact .inl h
 have:=(drop_get h2).2.2;omega
theorem Ats.le{l:List Nd}{st:List (Nat×Nat)}{p:Nat}{td:List Rn}(h:Ats l st p td):p≤l.length:=by
 rcases h with ⟨_,h,_⟩ | ⟨x,k,t,u,_,h2,_⟩
 ·omega
 have:=(drop_get h2).2.2;omega
theorem Ats.leaf{l:List Nd}{st:List (Nat×Nat)}{p:Nat}{td:List Rn}(h:Ats l st p td){x:Nd}(hx:l[p]? = some x)(h3:¬ x.k=3)(h4:¬ x.k=4):AtL l st p td:=by
 rcases h with h | ⟨y,k,t,u,h1,h2,h5,h6,h7⟩
 ·exact .inl h
 obtain⟨e,_,_⟩:=drop_get h2;rw[hx] at e;injection e with e;subst e;have hk:k=.nil:=F.cnt_zero (by rw[h1.2.1];unfold kn;rw[if_neg h3,if_neg h4]);subst hk;exact .inr ⟨x,u,h1.1,h3,h4,hx,by omega,h6,by rw[h7,lvs_leaf h3 h4];rfl⟩
theorem Ats.short{l:List Nd}{st:List (Nat×Nat)}{p:Nat}{td:List Rn}(h:Ats l st p td)(hp:p < l.length):st.length≤15:=by
 rcases h with h | ⟨y,k,t,u,h1,h2,h5,h6,h7⟩
 ·omega
 omega
theorem Ats.fine{l:List Nd}{st:List (Nat×Nat)}{p:Nat}{td:List Rn}(h:Ats l st p td){x:Nd}(hx:l[p]? = some x):Tab.fine x=true:=by
 rcases h with h | ⟨y,k,t,u,h1,h2,h5,h6,h7⟩
 ·have:=(List.getElem?_eq_some_iff.1 hx).1;omega
 obtain⟨e,_,_⟩:=drop_get h2;rw[hx] at e;injection e with e;subst e;exact h1.1
theorem Ats.seq{l:List Nd}{st:List (Nat×Nat)}{p:Nat}{td:List Rn}(h:Ats l st p td){x:Nd}(hx:l[p]? = some x)(h3:x.k=3):Ats l ((x.n.toNat,0)::st) (p+1) td:=by
 rcases h with h | ⟨y,k,t,u,h1,h2,h5,h6,h7⟩
 ·have:=(List.getElem?_eq_some_iff.1 hx).1;omega
 obtain⟨e,e2,_⟩:=drop_get h2;rw[hx] at e;injection e with e;subst e;obtain⟨hf,hc,hok,_⟩:=h1;have hc':k.cnt=x.n.toNat:=by rw[hc];unfold kn;rw[if_pos h3]
 have hn:=fine_one hf;cases k with
 | nil=>simp only[F.cnt] at hc';omega
 | cons y q r =>
  have e3:x.n.toNat=r.cnt+1:=by rw[← hc'];rfl
  have e4:l.drop (p+1)=y::(q.flat++(r.flat++t)):=by rw[e2];simp[F.flat]
  have e5:l.drop (p+1+1+q.sz)=r.flat++t:=by
   obtain⟨_,e6,_⟩:=drop_get e4;rw[← List.drop_drop,e6,List.drop_left' (F.flat_length q)]
  simp only[F.dep] at h5;refine .inr ⟨y,q,r.flat++t,r.lvs++u,⟨hok.1,hok.2.1,hok.2.2.1,trivial⟩,e4,by simp only[List.length_cons];omega,?_,?_⟩
  ·rw[e3];exact .seq hok.2.2.2 e5 (by omega) (by have:p+1+1+q.sz+r.sz=p+1+(F.cons y q r).sz:=(by simp only[F.sz];omega);rw[this];exact h6)
  rw[h7,lvs_seq h3,F.lvs,List.append_assoc]
theorem Ats.rep{l:List Nd}{st:List (Nat×Nat)}{p:Nat}{td:List Rn}(h:Ats l st p td){x:Nd}(hx:l[p]? = some x)(h4:x.k=4)(hn2:x.n≤9223372036854775807):Ats l ((x.n.toNat,p+1)::st) (p+1) td:=by
 rcases h with h | ⟨y,k,t,u,h1,h2,h5,h6,h7⟩
 ·have:=(List.getElem?_eq_some_iff.1 hx).1;omega
 obtain⟨e,e2,_⟩:=drop_get h2;rw[hx] at e;injection e with e;subst e;obtain⟨hf,hc,hok,_⟩:=h1;have hc':k.cnt=1:=by rw[hc];unfold kn;rw[if_neg (by omega),if_pos h4]
 have hn:=fine_one hf;cases k with
 | nil=>simp[F.cnt] at hc'
 | cons y q r =>
  obtain rfl:r=.nil:=F.cnt_zero (by simp only[F.cnt] at hc';omega);have e4:l.drop (p+1)=y::(q.flat++t):=by rw[e2];simp[F.flat]
  have e6:p+1+(F.cons y q .nil).sz=p+1+1+q.sz:=by simp only[F.sz];omega
  simp only[F.dep] at h5;rw[e6] at h6;refine .inr ⟨y,q,t,reps (x.n.toNat - 1) (one y q.lvs)++u,hok,e4,by simp only[List.length_cons];omega,.rep hok (by omega) (by omega) (by omega) e4 (by omega) h6,?_⟩;rw[h7,lvs_rep h4,reps_one (by omega)];simp[F.lvs]
def popm:List (Nat×Nat)→Nat→List (Nat×Nat)×Nat
 | [],p=>([],p)
 | (a,b)::o,p=>if 1 < a then ((a - 1,b)::o,if 0 < b then b else p) else popm o p
theorem popm_more{a b:Nat}(o:List (Nat×Nat))(p:Nat)(h:1 < a):popm ((a,b)::o) p=((a - 1,b)::o,if 0 < b then b else p):=by simp only[popm];rw[if_pos h]
theorem popm_less{a b:Nat}(o:List (Nat×Nat))(p:Nat)(h:¬ 1 < a):popm ((a,b)::o) p=popm o p:=by simp only[popm];rw[if_neg h]
theorem Beh.pop{l:List Nd}{st:List (Nat×Nat)}{p:Nat}{td:List Rn}(h:Beh l st p td):Ats l (popm st p).1 (popm st p).2 td:=by
 induction h with
 | top=>exact .inl ⟨rfl,rfl,rfl⟩
 | @seq o p f t td hok hl hd h ih =>
  cases f with
  | nil =>
   rw[popm_less _ _ (by simp[F.cnt])];simpa [F.lvs,F.sz] using ih
  | cons y q r =>
   rw[popm_more _ _ (by simp[F.cnt])];show Ats l (((F.cons y q r).cnt+1 - 1,0)::o) p _;have e4:l.drop p=y::(q.flat++(r.flat++t)):=by rw[hl];simp[F.flat]
   have e5:l.drop (p+1+q.sz)=r.flat++t:=by
    obtain⟨_,e6,_⟩:=drop_get e4;rw[← List.drop_drop,e6,List.drop_left' (F.flat_length q)]
   simp only[F.dep] at hd;refine .inr ⟨y,q,r.flat++t,r.lvs++td,⟨hok.1,hok.2.1,hok.2.2.1,trivial⟩,e4,by simp only[List.length_cons];omega,?_,by rw[F.lvs,List.append_assoc]⟩;exact .seq hok.2.2.2 e5 (by omega) (by have:p+1+q.sz+r.sz=p+(F.cons y q r).sz:=(by simp only[F.sz];omega);rw[this];exact h)
 | @rep o a b y k t td hok ha ha2 hb hl hd h ih =>
  by_cases h1:1 < a
  ·rw[popm_more _ _ h1];dsimp only;rw[if_pos (by omega)];refine .inr ⟨y,k,t,reps (a - 1 - 1) (one y k.lvs)++td,hok,hl,by simp only[List.length_cons];omega,.rep hok (by omega) (by omega) hb hl hd h,?_⟩;rw[reps_one (n:=a - 1) (by omega),List.append_assoc]
  rw[popm_less _ _ h1];have:a - 1=0:=by omega
  rw[this];exact ih
theorem Beh.bound{l:List Nd}{st:List (Nat×Nat)}{p:Nat}{td:List Rn}(h:Beh l st p td):∀ e∈st,1≤e.1∧e.1≤max 9223372036854775807 (l.length+1)∧e.2≤l.length:=by
 induction h with
 | top=>simp
 | @seq o p f t td hok hl hd h ih =>
  intro e he;rcases List.mem_cons.1 he with rfl | he
  ·have h1:=congrArg List.length hl;rw[List.length_drop,List.length_append,F.flat_length] at h1;have h2:=F.cnt_le_sz f;dsimp only;omega
  exact ih e he
 | @rep o a b y k t td hok ha ha2 hb hl hd h ih =>
  intro e he;rcases List.mem_cons.1 he with rfl | he
  ·have:=(drop_get hl).2.2;dsimp only;omega
  exact ih e he
theorem Ats.start{x:Nd}{k:F}(hok:(F.cons x k .nil).ok)(hd:k.dep+1≤16):Ats (x::k.flat) [] 0 (one x k.lvs):=by
 refine .inr ⟨x,k,[],[],hok,by simp,by simpa using hd,?_,by simp⟩;have:(0:Nat)+1+k.sz=(x::k.flat).length:=by simp only[List.length_cons,F.flat_length];omega
 rw[this];exact .top
end Tab
end Go.Proofs.YtdkngfdnfekgfaaGreat
