import Derived.Test.YtdkngfdnfekgfaaGreatLot17
import Derived.Deep.Cut
set_option maxHeartbeats 4000000
set_option maxRecDepth 100000
set_option linter.unusedSimpArgs false
set_option linter.unusedVariables false
namespace Go.Proofs.YtdkngfdnfekgfaaGreat
open Go.RowKit Tab
theorem heap_set_same(w:World)(g j:Nat)(v:Value){cur:Array Value}{E:TypeId}{fr:Nat×Nat}(h:w.heap[g]? = some (.cells cur E fr)):(w.setCell ⟨g,j,none⟩ v).heap[g]? = some (.cells (cur.setIfInBounds j v) E fr):=by
 unfold World.setCell;simp[Array.getElem?_modify,h]
theorem OwnV.set{E s B n c g:Nat}{w:World}{l:List Value}(h:OwnV E s w B (some ⟨g,0,none⟩) n c l)(j:Nat)(v:Value)(hj:j < l.length):OwnV E s (w.setCell ⟨g,j,none⟩ v) B (some ⟨g,0,none⟩) n c (l.set j v):=by
 refine⟨by rw[List.length_set];exact h.1,?_⟩;rcases h.2 with ⟨hv,_⟩ | ⟨g',cap,cur,hv,hbg,hg,hnc,hcm,hcs,htake⟩
 ·cases hv
 simp only[Value.slice.injEq,Option.some.injEq,Addr.mk.injEq,and_true,true_and] at hv;obtain⟨rfl,rfl⟩:=hv;refine .inr ⟨g,c,cur.setIfInBounds j v,rfl,hbg,heap_set_same w g j v hg,hnc,hcm,by rw[Array.size_setIfInBounds];exact hcs,?_⟩;rw[Array.toList_setIfInBounds,List.take_set,htake]
theorem OwnV.other{E s B n c:Nat}{w:World}{A:Option Addr}{l:List Value}(h:OwnV E s w B A n c l)(p:Addr)(v:Value)(hp:∀ g,A=some ⟨g,0,none⟩→g≠p.block):OwnV E s (w.setCell p v) B A n c l:=by
 refine⟨h.1,?_⟩;rcases h.2 with hv | ⟨g,cap,cur,hv,hbg,hg,r⟩
 ·exact .inl hv
 refine .inr ⟨g,cap,cur,hv,hbg,?_,r⟩;rw[Below.heap_setCell w p v g (hp g (by injection hv))];exact hg
section
variable {α:Type} {f:α→List Value} {s:Nat}
theorem flat_len(hf:∀ x,(f x).length=s)(l:List α):(l.flatMap f).length=l.length*s:=by
 induction l with
 | nil=>simp
 | cons x l ih=>rw[List.flatMap_cons,List.length_append,hf,ih,List.length_cons,Nat.succ_mul];omega
theorem flat_set(hf:∀ x,(f x).length=s)(l:List α)(i k:Nat)(x y:α)(v:Value)(hx:l[i]? = some x)(hk:k < s)(hy:f y=(f x).set k v):(l.set i y).flatMap f=(l.flatMap f).set (i*s+k) v:=by
 induction l generalizing i with
 | nil=>simp at hx
 | cons z l ih =>
  cases i with
  | zero =>
   simp at hx;subst hx;rw[List.set_cons_zero,List.flatMap_cons,List.flatMap_cons,hy,Nat.zero_mul,Nat.zero_add,List.set_append_left _ _ (by rw[hf];exact hk)]
  | succ i =>
   rw[List.set_cons_succ,List.flatMap_cons,List.flatMap_cons,ih i (by simpa using hx),List.set_append_right _ _ (by rw[hf,Nat.succ_mul];omega),hf];congr 2;rw[Nat.succ_mul];omega
end
structure OwnB{α:Type}(E s:Nat)(f:α→List Value)(w:World)(B:Nat)(A:Option Addr)(n c:Nat)(l:List α):Prop where
 len:l.length=n
 own:OwnV E s w B A n c (l.flatMap f)
section
variable {α:Type} {f:α→List Value} {E s B B' n c:Nat} {w w':World} {A:Option Addr} {l:List α}
theorem OwnB.rdb(h:OwnB E s f w B A n c l):RdB f w w.heap.size A n l:=⟨h.len,h.own.rd⟩
theorem OwnB.cap(h:OwnB E s f w B A n c l):n≤c:=h.own.cap
theorem OwnB.nil(w:World)(E s B:Nat):OwnB E s f w B none 0 0 []:=⟨rfl,OwnV.nil _ _ _ _⟩
theorem OwnB.below(h:OwnB E s f w B A n c l)(hb:Below w.heap.size w w'):OwnB E s f w' B A n c l:=⟨h.len,h.own.below rfl hb⟩
theorem OwnB.other(h:OwnB E s f w B A n c l)(p:Addr)(v:Value)(hp:∀ g,A=some ⟨g,0,none⟩→g≠p.block):OwnB E s f (w.setCell p v) B A n c l:=⟨h.len,h.own.other p v hp⟩
theorem OwnB.weak(h:OwnB E s f w B A n c l)(hB:B'≤B):OwnB E s f w B' A n c l:=⟨h.len,h.own.weak hB⟩
theorem OwnB.block(h:OwnB E s f w B A n c l)(hn:0 < n):∃ g,A=some ⟨g,0,none⟩∧B≤g∧g < w.heap.size:=h.own.block hn
theorem mk_add(g i:Nat):(⟨g,0,none⟩:Addr).add i=⟨g,i,none⟩:=by
 unfold Addr.add;split <;> simp_all
end
theorem cc_late(x:ChV)(z:Int):cc { x with late:=z }=(cc x).set 5 (.int .i64 z):=rfl
theorem pcl_bud(x:PtV)(z:Int):pcl { x with bud:=z }=(pcl x).set 1 (.int .i64 z):=rfl
theorem pcl_per(x:PtV)(z:Int):pcl { x with per:=z }=(pcl x).set 2 (.int .i64 z):=rfl
structure CfW(w:World)(B:Nat)(A1 A2:Option Addr)(n1 n2:Nat)(P:List PtV)(C:List ChV):Prop where
 p:RdB pcl w B A1 n1 P
 c:RdB cc w B A2 n2 C
section
variable {w w':World} {B B' n1 n2:Nat} {A1 A2:Option Addr} {P:List PtV} {C:List ChV}
end
def chB(i b:Nat):Bool:=(decide (97≤b) && decide (b≤122)) || ((decide (48≤b) && decide (b≤57) || decide (b=95)) && decide (i≠0))
def byteN(s:ByteArray)(j:Nat):Nat:=if h:j < s.size then s[j].toNat else 0
def nameF(s:ByteArray):Bool:=(List.range s.size).all (fun j=>chB j (byteN s j)) && (decide (1≤s.size) && decide (s.size≤12))
theorem nameF_bad{s:ByteArray}{i:Nat}(hi:i < s.size)(h:chB i (byteN s i)=false):nameF s=false:=by
 unfold nameF;have:(List.range s.size).all (fun j=>chB j (byteN s j))=false:=by
  rw[List.all_eq_false];exact⟨i,List.mem_range.2 hi,by rw[h];simp⟩
 rw[this];rfl
theorem nameF_end{s:ByteArray}(h:∀ j,j < s.size→chB j (byteN s j)=true):nameF s=(decide (1≤s.size) && decide (s.size≤12)):=by
 unfold nameF;have:(List.range s.size).all (fun j=>chB j (byteN s j))=true:=by
  rw[List.all_eq_true];exact fun j hj=>h j (List.mem_range.1 hj)
 rw[this];rfl
theorem xname_any(s : ByteArray)(w : World)(hs : s.size ≤ 140737488351232): Calls Tryz.prog 70 #[.string s] w (fun e w' => e = .returned (.bool (nameF s)) ∧ w = w') := by
  have HBAD := hid fun i (hi : i < s.size) (h : chB i (byteN s i) = false) => nameF_bad hi h
  have HEND := hid fun (h : ∀ j, j < s.size → chB j (byteN s j) = true) => nameF_end h
  generalize nameF s = v at HBAD HEND
  go_enter Tryz.func70, Tryz.ntmps70
  go_wp2_with fail
  go_loopw [3, 4] (fun q _ wr => ∃ i : Nat, i ≤ s.size ∧ q = .int .i64 i ∧ (∀ j, j < i → chB j (byteN s j) = true) ∧ w = wr) (fun q _ _ => s.size - (intOf q).toNat)
  case atStart => exact ⟨0, by omega, rfl, fun j h => by omega, rfl⟩
  case round =>
    obtain ⟨i, hi, rfl, hok, rfl⟩ := hrel
    have HOK := hid hok
    clear hok
    by_cases hlt : i < s.size
    · have hlti : (i : Int) < (s.size : Int) := by omega
      have hb : byteN s i = s[i].toNat := dif_pos hlt
      have HB := hid hb
      have HNX : Hid (chB i (byteN s i) = true → ∀ j, j < i + 1 → chB j (byteN s j) = true) := hid fun h j hj => by
        rcases Nat.lt_or_ge j i with h1 | h1
        · exact HOK.out j h1
        · obtain rfl : j = i := by omega
          exact h
      rw [hb] at HNX
      have HBD := hid (HBAD.out i hlt)
      rw [hb] at HBD
      clear hb HB HBAD HEND HOK
      have HC : Hid (∀ b : Nat, b = s[i].toNat → chB i b = (decide (97 ≤ b) && decide (b ≤ 122) || (decide (48 ≤ b) && decide (b ≤ 57) || decide (b = 95)) && decide (i ≠ 0))) := hid fun b _ => rfl
      obtain ⟨b, hb⟩ : ∃ b, b = s[i].toNat := ⟨_, rfl⟩
      have hc := HC.out b hb
      rw [← hb] at HNX HBD
      have hix : (Instr.index 9 (.string s) (.int .i64 (i : Int))).run Tryz.prog w = .ok (.int .u8 (b : Int)) w := by
        rw [hb]
        rw [run_index_string (h := Tryz.underlying9)]
        simp [hlt]
      have HCC := hid hc
      clear HC hc hb
      rcases (by omega : (97 ≤ b ∧ b ≤ 122) ∨ (48 ≤ b ∧ b ≤ 57 ∧ i < 1) ∨ (48 ≤ b ∧ b ≤ 57 ∧ 1 ≤ i) ∨ (95 ≤ b ∧ b ≤ 95 ∧ i < 1) ∨ (95 ≤ b ∧ b ≤ 95 ∧ 1 ≤ i) ∨ (b < 48) ∨ (57 < b ∧ b < 95) ∨ (95 < b ∧ b < 97) ∨ (122 < b)) with h | h | h | h | h | h | h | h | h
      all_goals
        first
        | (have k5 : chB i b = true := by rw [HCC.out]; simp; omega)
        | (have k5 : chB i b = false := by rw [HCC.out]; simp; omega)
        have K5 := hid k5
        clear k5
        first
        | have i1 : (48 : Int) ≤ (b : Int) := by omega
        | have i1 : ¬ (48 : Int) ≤ (b : Int) := by omega
        first
        | have i2 : (b : Int) ≤ 57 := by omega
        | have i2 : ¬ (b : Int) ≤ 57 := by omega
        first
        | have i3 : ((b : Int) == 95) = true := by simp; omega
        | have i3 : ((b : Int) == 95) = false := by simp; omega
        first
        | have i4 : (b : Int) < 97 := by omega
        | have i4 : ¬ (b : Int) < 97 := by omega
        first
        | have i5 : (122 : Int) < (b : Int) := by omega
        | have i5 : ¬ (122 : Int) < (b : Int) := by omega
        try first
          | have i6 : ((i : Int) == 0) = true := by simp; omega
          | have i6 : ((i : Int) == 0) = false := by simp; omega
        go_wp2_with fail
        first
        | (go_ret; exact ⟨by rw [HBD.out K5.out]; rfl, by first | rfl | trivial⟩)
        | (go_roundw
           case rel => exact ⟨i + 1, by omega, by go_num, HNX.out K5.out, by first | rfl | trivial⟩
           case measure => simp [intOf]; omega)
    · have hlti : ¬ (i : Int) < (s.size : Int) := by omega
      have hv := HEND.out fun j hj => HOK.out j (by omega)
      have HV := hid hv
      clear hv HBAD HEND
      have hf : ∀ (p : Prop) [Decidable p], (p ∨ ¬ p) := fun p _ => Decidable.em p
      rcases hf (1 ≤ s.size) with h1 | h1 <;> rcases hf (s.size ≤ 12) with h2 | h2 <;> (try (exfalso; omega))
      all_goals
        first
        | have i1 : (1 : Int) ≤ (s.size : Int) := by omega
        | have i1 : ¬ (1 : Int) ≤ (s.size : Int) := by omega
        first
        | have i2 : (s.size : Int) ≤ 12 := by omega
        | have i2 : ¬ (s.size : Int) ≤ 12 := by omega
        go_wp2_with fail
        go_ret
        exact ⟨by rw [HV.out]; simp [h1, h2], by first | rfl | trivial⟩
def chanF(x:ChV)(n:Int):Bool:=(decide (0≤x.from_) && (decide (x.from_ < n) && (decide (0≤x.to_) && (decide (x.to_ < n) && (decide (x.from_≠x.to_) && (decide (0≤x.late) && decide (x.late≤4096))))))) &&
 (x.queue && (decide (1≤x.cap) && decide (x.cap≤8)) || !x.queue && decide (x.cap=0))
theorem xchan_any(x:ChV)(n:Int)(w:World):Calls Tryz.prog 72 #[cv x,.int .i64 n] w (Ans (.bool (chanF x n)) w):=by
 obtain⟨f,t,q,c,m,l⟩:=x;have HV:Hid (∀ v,v=chanF ⟨f,t,q,c,m,l⟩ n→v=((decide (0≤f) && (decide (f < n) && (decide (0≤t) && (decide (t < n) && (decide (f≠t) && (decide (0≤l) && decide (l≤4096))))))) && (q && (decide (1≤c) && decide (c≤8)) || !q && decide (c=0)))):=hid fun v h=>h;obtain⟨v,hv⟩:∃ v,v=chanF ⟨f,t,q,c,m,l⟩ n:=⟨_,rfl⟩;have HVV:=hid (HV.out v hv);rw[← hv];clear hv HV;go_enter Tryz.func72,Tryz.ntmps72;have hf:∀(p:Prop) [Decidable p],(p∨¬ p):=fun p _=>Decidable.em p;rcases(by omega:f < 0∨(0≤f∧n≤f)∨(0≤f∧f < n∧t < 0)∨(0≤f∧f < n∧0≤t∧n≤t)∨(0≤f∧f < n∧0≤t∧t < n∧f≤t∧t≤f)∨(0≤f∧f < n∧0≤t∧t < n∧(f < t∨t < f)∧l < 0)∨(0≤f∧f < n∧0≤t∧t < n∧(f < t∨t < f)∧4096 < l)∨(0≤f∧f < n∧0≤t∧t < n∧(f < t∨t < f)∧0≤l∧l≤4096)) with h | h | h | h | h | h | h | h
 case inr.inr.inr.inr.inr.inr.inr =>
  have hv2:v=(q && (decide (1≤c) && decide (c≤8)) || !q && decide (c=0)):=by
   rw[HVV.out,decide_eq_true (show 0≤f by omega),decide_eq_true (show f < n by omega),decide_eq_true (show 0≤t by omega),decide_eq_true (show t < n by omega),decide_eq_true (show f≠t by omega),decide_eq_true (show 0≤l by omega),decide_eq_true (show l≤4096 by omega)];rfl
  have HV2:=hid hv2;clear hv2;have i1:¬ f < 0:=by omega
  have i2:¬ n≤f:=by omega
  have i3:¬ t < 0:=by omega
  have i4:¬ n≤t:=by omega
  have i5:(f == t)=false:=beq_eq_false_iff_ne.2 (by omega);have i6:¬ l < 0:=by omega
  have i7:¬ 4096 < l:=by omega
  clear h;cases q with
  | false =>
   rcases hf (c=0) with hc | hc
   ·have i8:(c == 0)=true:=by rw[hc];rfl
    have hv3:v=true:=by rw[HV2.out,hc];rfl
    have HV3:=hid hv3;clear hc hv3;go_wp2_with fail;go_ret;exact Ans.mk (by rw[HV3.out];rfl) (bl1 _ _)
   have i8:(c == 0)=false:=beq_eq_false_iff_ne.2 hc;have hv3:v=false:=by rw[HV2.out,decide_eq_false hc];rfl
   have HV3:=hid hv3;clear hc hv3;go_wp2_with fail;go_ret;exact Ans.mk (by rw[HV3.out];rfl) (bl1 _ _)
  | true =>
   rcases hf (1≤c) with hc | hc <;> rcases hf (c≤8) with hd | hd <;> (try (exfalso;omega))
   all_goals
    have hv0:v=(decide (1≤c) && decide (c≤8)):=by rw[HV2.out];simp
    first
    | have hv3:v=true:=by rw[hv0,decide_eq_true hc,decide_eq_true hd];rfl
    | have hv3:v=false:=by rw[hv0,decide_eq_false hc];rfl
    | have hv3:v=false:=by rw[hv0,decide_eq_false hd,Bool.and_false]
    have HV3:=hid hv3;clear hv3 hv0;go_wp2_with fail;go_ret;exact Ans.mk (by rw[HV3.out];rfl) (bl1 _ _)
 all_goals
  have hv2:v=false:=by
   rw[HVV.out]
   first
   | rw[decide_eq_false (show ¬ 0≤f by omega)];rfl
   | rw[decide_eq_false (show ¬ f < n by omega)];simp
   | rw[decide_eq_false (show ¬ 0≤t by omega)];simp
   | rw[decide_eq_false (show ¬ t < n by omega)];simp
   | rw[decide_eq_false (show ¬ f≠t by omega)];simp
   | rw[decide_eq_false (show ¬ 0≤l by omega)];simp
   | rw[decide_eq_false (show ¬ l≤4096 by omega)];simp
  have HV2:=hid hv2;clear hv2
  try first
   | have i1:f < 0:=by omega
   | have i1:¬ (f < 0):=by omega
  try first
   | have i2:n≤f:=by omega
   | have i2:¬ (n≤f):=by omega
  try first
   | have i3:t < 0:=by omega
   | have i3:¬ (t < 0):=by omega
  try first
   | have i4:n≤t:=by omega
   | have i4:¬ (n≤t):=by omega
  try first
   | have i5:(f == t)=true:=beq_iff_eq.2 (by omega)
   | have i5:(f == t)=false:=beq_eq_false_iff_ne.2 (by omega)
  try first
   | have i6:l < 0:=by omega
   | have i6:¬ (l < 0):=by omega
  try first
   | have i7:4096 < l:=by omega
   | have i7:¬ (4096 < l):=by omega
  clear h;go_wp2_with fail;go_ret;exact Ans.mk (by rw[HV2.out];rfl) (bl1 _ _)
end Go.Proofs.YtdkngfdnfekgfaaGreat
