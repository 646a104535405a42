import Derived.Test.YtfmndmhjjbeokaaGreatDoorLow39
import Derived.Test.YtfmndmhjjbeokaaGreatDoorLow29
import Derived.Test.YtfmndmhjjbeokaaGreatDoorLow38
namespace Go.Proofs.YtfmndmhjjbeokaaGreatDoor
set_option maxRecDepth 100000
open Go.RowKit Tab Txt
set_option linter.unusedSimpArgs false
set_option linter.unusedVariables false
def procsU:Bool→List (Int×Int)→List UInt8
 | _,[]=>[]
 | b,q::l=>(if b=true then 32 else 44)::(procT q++procsU false l)
theorem procsU_join:∀ (q:Int×Int) (l:List (Int×Int)),procsU true (q::l)=32::joinB 44 ((q::l).map procT)∧procsU false (q::l)=44::joinB 44 ((q::l).map procT)
 | q,[]=>by simp [procsU,joinB]
 | q,y::l=>by
  have h:=(procsU_join y l).2
  constructor
  ·show 32::(procT q++procsU false (y::l))=32::(procT q++44::joinB 44 ((y::l).map procT))
   rw [h]
  ·show 44::(procT q++procsU false (y::l))=44::(procT q++44::joinB 44 ((y::l).map procT))
   rw [h]
def healU (x:PtV) (k:Nat):List UInt8:=(List.range k).flatMap fun j=>numB (hv5 x j).toNat
theorem healU_succ (x:PtV) (k:Nat):healU x (k+1)=healU x k++numB (hv5 x k).toNat:=by
 unfold healU
 rw [List.range_succ,List.flatMap_append]
 simp
theorem healU_all (x:PtV):healU x 5=healT x:=by
 show (numB x.h0.toNat++(numB x.h1.toNat++(numB x.h2.toNat++(numB x.h3.toNat++(numB x.h4.toNat++[])))))=_
 rw [List.append_nil]
 rfl
def partL (y:Pq):List UInt8:=joinB 32 (partW y)++[10]
theorem partL_eq (y:Pq) (h:y.2≠[]):partL y=(((((((((wPart++[32])++toL y.1.name)++[32])++numB y.1.bud.toNat)++[32])++numB y.1.per.toNat)++[32])++flagT y.1.sched y.1.stop)++[32])++healU y.1 5++procsU true y.2++[10]:=by
 cases hy:y.2 with
 | nil=>exact absurd hy h
 | cons q l =>
  rw [(procsU_join q l).1,healU_all]
  unfold partL partW
  rw [hy]
  simp [joinB]
def chanL (names:List (List UInt8)) (x:ChV):List UInt8:=joinB 32 (chanW names x)++[10]
theorem chanL_eq (names:List (List UInt8)) (x:ChV):chanL names x=((((((((((wChan++[32])++nmP names x.from_)++[32])++nmP names x.to_)++[32])++(if x.queue then 113::numB x.cap.toNat else [115]))++[32])++numB x.max.toNat)++[32])++numB x.late.toNat)++[10]:=by
 unfold chanL chanW
 simp [joinB]
structure PrIn (y:Pq):Prop where
 name:nameF y.1.name=true
 bud:0≤y.1.bud∧y.1.bud≤4096
 per:0≤y.1.per∧y.1.per≤4096
 few:1≤y.1.pn∧y.1.pn≤3
 pr:∀ q∈y.2,prcF q=true
 hl:∀ j,0≤hv5 y.1 j∧hv5 y.1 j≤2
theorem PrIn.of {P:List Pq} {k:Nat} {y:Pq} (hy:P[k]? = some y) (h:ptE P k=0):PrIn y:=by
 have hk:ptW P k y=0:=by unfold ptE at h;rw [hy] at h;exact h
 unfold ptW at hk
 split at hk
 ·cases hk
 ·rename_i hn
  split at hk
  ·rename_i hp
   simp only [Bool.or_eq_true,Bool.not_eq_true',not_or] at hn
   unfold partF at hp
   simp only [Bool.and_eq_true,decide_eq_true_eq,List.all_eq_true,List.mem_range] at hp
   obtain ⟨h1,h2,h3,h4⟩:=hp
   unfold pbF at h4
   simp only [Bool.or_eq_true,Bool.and_eq_true,decide_eq_true_eq] at h4
   have hh:∀ j,j < 5→0≤hv5 y.1 j∧hv5 y.1 j≤2:=fun j hj=>by
    have:=h3 j hj
    unfold hlF at this
    simpa only [Bool.and_eq_true,decide_eq_true_eq] using this
   refine ⟨by simpa using hn.1,by omega,by omega,h1,h2,fun j=>?_⟩
   rcases Nat.lt_or_ge j 5 with h | h
   ·exact hh j h
   ·have e:hv5 y.1 j=hv5 y.1 4:=by
     unfold hv5
     rw [if_neg (by omega),if_neg (by omega),if_neg (by omega),if_neg (by omega)]
     rfl
    rw [e]
    exact hh 4 (by omega)
  ·cases hk
theorem name_16 {s:ByteArray} (h:nameF s=true):(toL s).length≤12:=by
 unfold nameF at h
 simp only [Bool.and_eq_true,decide_eq_true_eq] at h
 have:(toL s).length=s.size:=by unfold toL;rw [Array.length_toList];rfl
 omega
theorem num_few {n:Nat} (h:n < 100000):(numB n).length≤5:=num_len_le 4 n h
theorem flagT_len (a b:Bool):(flagT a b).length≤2:=by cases a <;> cases b <;> decide
end Go.Proofs.YtfmndmhjjbeokaaGreatDoor
namespace Go.Proofs.YtfmndmhjjbeokaaGreatDoor
set_option maxRecDepth 100000
open Go.RowKit Tab Txt
set_option linter.unusedSimpArgs false
set_option linter.unusedVariables false
theorem flat_fn {α:Type} (f:α→List UInt8) (k:Nat) (L:List α) (h:∀ x∈L,(f x).length≤k) (l0:List UInt8) :
  ∃ F:Nat→List UInt8,F 0=l0∧(∀ i x,L[i]? = some x→F (i+1)=F i++f x)∧F L.length=l0++L.flatMap f∧∀ i,i≤L.length→(F i).length≤l0.length+i*k:=by
 refine ⟨fun i=>l0++(L.take i).flatMap f,by simp,fun i x hx=>?_,by simp,fun i hi=>?_⟩
 ·show l0++(L.take (i+1)).flatMap f=(l0++(L.take i).flatMap f)++f x
  rw [List.take_add_one,hx,Option.toList_some,List.flatMap_append,List.append_assoc]
  simp
 ·have key:∀ (M:List α),(∀ x∈M,(f x).length≤k)→(M.flatMap f).length≤M.length*k:=by
   intro M
   induction M with
   | nil=>intro _;simp
   | cons x M ih =>
    intro hM
    have h1:=hM x (by simp)
    have h2:=ih fun y hy=>hM y (by simp [hy])
    rw [List.flatMap_cons,List.length_append,List.length_cons,Nat.succ_mul]
    omega
  have:=key (L.take i) fun x hx=>h x (List.mem_of_mem_take hx)
  rw [List.length_take,Nat.min_eq_left hi] at this
  show (l0++(L.take i).flatMap f).length≤_
  rw [List.length_append]
  omega
theorem healU_len {y:Pq} (h:PrIn y):∀ k,(healU y.1 k).length≤k*5
 | 0=>by simp [healU]
 | k+1=>by
  have h1:=healU_len h k
  have h2:=h.hl k
  have h3:=num_few (n:=(hv5 y.1 k).toNat) (by omega)
  rw [healU_succ,List.length_append]
  omega
theorem procsU_len:∀ (l:List (Int×Int)) (b:Bool),(∀ q∈l,prcF q=true)→(procsU b l).length≤l.length*12
 | [],b,_=>by simp [procsU]
 | q::l,b,h=>by
  have h1:=procsU_len l false fun y hy=>h y (by simp [hy])
  have h2:=h q (by simp)
  unfold prcF at h2
  simp only [Bool.and_eq_true,decide_eq_true_eq] at h2
  have h3:=num_few (n:=q.1.toNat) (by omega)
  have h4:=num_few (n:=q.2.toNat) (by omega)
  show ((if b=true then 32 else 44)::(procT q++procsU false l)).length≤(l.length+1)*12
  unfold procT
  simp only [List.length_cons,List.length_append]
  omega
theorem partL_len {y:Pq} (h:PrIn y) (hl:y.2.length=y.1.pn):(partL y).length≤100:=by
 have hne:y.2≠[]:=fun e=>by rw [e] at hl;have:=h.few.1;simp at hl;omega
 have h1:=healU_len h 5
 have h2:=procsU_len y.2 true h.pr
 have h3:=name_16 h.name
 have h4:=num_few (n:=y.1.bud.toNat) (by have:=h.bud;omega)
 have h5:=num_few (n:=y.1.per.toNat) (by have:=h.per;omega)
 have h6:=flagT_len y.1.sched y.1.stop
 have h7:=h.few.2
 rw [partL_eq y hne]
 simp only [List.length_append,List.length_cons,List.length_nil,show wPart.length=4 from rfl]
 omega
structure PcIn (n:Nat) (x:ChV):Prop where
 fr:0≤x.from_∧x.from_ < n
 tt:0≤x.to_∧x.to_ < n
 cap:0≤x.cap∧x.cap≤8
 max:0≤x.max∧x.max≤4294967295
 late:0≤x.late∧x.late≤4096
 q:x.queue=false→x.cap=0
theorem PcIn.of {C:List ChV} {n k:Nat} {x:ChV} (hx:C[k]? = some x) (h:chE C n k=0) (hm:0≤x.max∧x.max≤4294967295):PcIn n x:=by
 unfold chE at h
 rw [hx] at h
 have h:(if chanF x (n:Int)=true then (0:Int) else 17)=0:=h
 split at h
 ·rename_i h1
  unfold chanF at h1
  simp only [Bool.and_eq_true,Bool.or_eq_true,decide_eq_true_eq] at h1
  obtain ⟨⟨a1,a2,a3,a4,a5,a6,a7⟩,b⟩:=h1
  refine ⟨⟨a1,a2⟩,⟨a3,a4⟩,?_,hm,⟨a6,a7⟩,fun e=>?_⟩
  ·rcases b with ⟨_,b⟩ | ⟨_,b⟩ <;> omega
  ·rcases b with ⟨b,_⟩ | ⟨_,b⟩
   ·rw [e] at b;cases b
   ·exact b
 ·cases h
theorem chanL_len {names:List (List UInt8)} (hn:∀ s∈names,s.length≤64) {n:Nat} {x:ChV} (h:PcIn n x):(chanL names x).length≤170:=by
 have h1:=nmP_len hn x.from_
 have h2:=nmP_len hn x.to_
 have h3:=num_few (n:=x.cap.toNat) (by have:=h.cap;omega)
 have h4:(numB x.max.toNat).length≤10:=num_len_le 9 _ (by have:=h.max;omega)
 have h5:=num_few (n:=x.late.toNat) (by have:=h.late;omega)
 have h6:(if x.queue then 113::numB x.cap.toNat else [115]).length≤6:=by
  split
  ·rw [List.length_cons];omega
  ·show 1≤6;omega
 rw [chanL_eq]
 simp only [List.length_append,List.length_cons,List.length_nil,show wChan.length=4 from rfl]
 omega
def tabL (names:List (List UInt8)) (f:F):List UInt8:=joinB 32 (tabW names f)++[10]
theorem tabL_eq (names:List (List UInt8)) (f:F):tabL names f=((wTable++[32])++txX (nmP names) f false)++[10]:=by
 unfold tabL tabW
 simp [joinB]
theorem txX_one (nm:Int→List UInt8) (x:Nd) (k:F):txX nm (.cons x k .nil) false=txN nm x (txX nm k false):=by
 show []++(txN nm x (txX nm k false)++[])=_
 simp
theorem textT_lines (P:List Pq) (C:List ChV) (T:List F):textT (linesT P C T)=(P.flatMap partL++C.flatMap (chanL (namesP P)))++T.flatMap (tabL (namesP P)):=by
 unfold textT linesT
 rw [List.flatMap_append,List.flatMap_append,List.flatMap_map,List.flatMap_map,List.flatMap_map,List.append_assoc]
 rfl
theorem wrap_few {n:Nat} (h:n≤4294967295):IntKind.i64.wrap (n:Int)=(n:Int):=by
 simp only [IntKind.wrap,IntKind.bits,IntKind.signed]
 simp
 omega
structure TsW (k:Nat) (W0:World) (v3:Value) (live:Nat→Bool) (a:Act) (w:World):Prop where
 on:Below W0.heap.size W0 w
 t3:live k=false→a.eval (.tmp 3)=v3
theorem TsW.upd {k:Nat} {W0:World} {v3:Value} {live:Nat→Bool} {a:Act} {w w':World} (h:TsW k W0 v3 live a w) (hb:Below w.heap.size w w') (i:Nat) (d:Tmp) (v:Value) (hi:i≠k) (hd:d≠3):TsW k W0 v3 (Rgs.upd live i) (a.put (some d) v) w':=by
 have e:Rgs.upd live i k=live k:=by unfold Rgs.upd;simp [Ne.symm hi]
 exact ⟨h.on.trans (hb.mono h.on.size),fun e2=>by rw [Reg.eval_other _ _ _ _ hd];exact h.t3 (e▸e2)⟩
end Go.Proofs.YtfmndmhjjbeokaaGreatDoor
namespace Go.Proofs.YtfmndmhjjbeokaaGreatDoor
namespace Txt
open Tab
set_option linter.unusedSimpArgs false
set_option linter.unusedVariables false
def s4:Nat→Nat
 | 0=>0
 | d+1=>1+4*s4 d
end Txt
end Go.Proofs.YtfmndmhjjbeokaaGreatDoor
