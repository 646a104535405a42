import Derived.Test.YtfmndmhjjbeokaaGreatDoorLow8
import Derived.Test.YtfmndmhjjbeokaaGreatDoorLow24
import Derived.Test.YtfmndmhjjbeokaaGreatDoorLow10
import Derived.Test.YtfmndmhjjbeokaaGreatDoorLow3
import Derived.Deep.Cut
import Derived.Test.YtfmndmhjjbeokaaGreatDoorLow18
namespace Go.Proofs.YtfmndmhjjbeokaaGreatDoor
set_option maxRecDepth 100000
open Go.RowKit Tab Txt
set_option linter.unusedSimpArgs false
set_option linter.unusedVariables false
theorem Txt.bs_ext (l:List UInt8) (a b:Nat):(bsOf l).extract a b=bsOf ((l.take b).drop a):=by
 apply ByteArray.ext
 rw [ByteArray.data_extract]
 show l.toArray.extract a b=((l.take b).drop a).toArray
 rw [List.extract_toArray,List.extract_eq_take_drop,List.drop_take]
theorem Txt.bs_from (l:List UInt8) (a n:Nat) (h:l.length=n):(bsOf l).extract a n=bsOf (l.drop a):=by
 rw [bs_ext,List.take_of_length_le (by omega)]
theorem Txt.bs_upto (l:List UInt8) (b:Nat):(bsOf l).extract 0 b=bsOf (l.take b):=by
 rw [bs_ext]
 rfl
theorem Txt.ahead_split {p:UInt8→Bool} {s:List UInt8} {i:Nat} (h:∀ j,j < i→∀ d,s[j]? = some d→p d=false) (hc:∀ c,s[i]? = some c→p c=true):aheadT p s=s.take i∧behindT p s=s.drop i:=by
 have:=ahead_at p (x:=s.take i) (t:=s.drop i) (fun c hc=>by
  obtain ⟨j,hj⟩:=List.getElem?_of_mem hc
  have hj2:j < i:=by have:=(List.getElem?_eq_some_iff.1 hj).1;rw [List.length_take] at this;omega
  rw [List.getElem?_take_of_lt hj2] at hj
  exact h j hj2 c hj) (fun c hcc=>hc c (by rw [List.head?_drop] at hcc;exact hcc))
 rwa [List.take_append_drop] at this
def sc (x:List UInt8):List Value:=[.string (bsOf x)]
theorem sc_len (x:List UInt8):(sc x).length=1:=rfl
abbrev RdrC (B g:Nat) (s:List UInt8) (AN:Option Addr) (nn cn:Nat) (AO:Option Addr) (no co:Nat) (f p:Bool) (w:World):Prop :=
 OwnV 150 5 w B (some ⟨g,0,none⟩) 1 1 [.string (bsOf s),.slice AN nn cn,.slice AO no co,.bool f,.bool p]
end Go.Proofs.YtfmndmhjjbeokaaGreatDoor
namespace Go.Proofs.YtfmndmhjjbeokaaGreatDoor
open Go.RowKit Tab
set_option linter.unusedSimpArgs false
set_option linter.unusedVariables false
def chB (i b:Nat):Bool:=(decide (97≤b) && decide (b≤122)) || ((decide (48≤b) && decide (b≤57) || decide (b=95)) && decide (i≠0))
def byteN (s:ByteArray) (j:Nat):Nat:=if h:j < s.size then s[j].toNat else 0
def nameF (s:ByteArray):Bool:=(List.range s.size).all (fun j=>chB j (byteN s j)) && (decide (1≤s.size) && decide (s.size≤12))
theorem nameF_bad {s:ByteArray} {i:Nat} (hi:i < s.size) (h:chB i (byteN s i)=false):nameF s=false:=by
 unfold nameF
 have:(List.range s.size).all (fun j=>chB j (byteN s j))=false:=by
  rw [List.all_eq_false]
  exact ⟨i,List.mem_range.2 hi,by rw [h];simp⟩
 rw [this]
 rfl
theorem nameF_end {s:ByteArray} (h:∀ j,j < s.size→chB j (byteN s j)=true):nameF s=(decide (1≤s.size) && decide (s.size≤12)):=by
 unfold nameF
 have:(List.range s.size).all (fun j=>chB j (byteN s j))=true:=by
  rw [List.all_eq_true]
  exact fun j hj=>h j (List.mem_range.1 hj)
 rw [this]
 rfl
set_option maxRecDepth 100000 in
set_option maxHeartbeats 2000000 in
theorem xname_any (s : ByteArray) (w : World) (hs : s.size ≤ 140737488351232) : Calls Tryz.prog 89 #[.string s] w (fun e w' => e = .returned (.bool (nameF s)) ∧ w = w') := by
  have HBAD := Lib.hid fun i (hi : i < s.size) (h : chB i (byteN s i) = false) => nameF_bad hi h
  have HEND := Lib.hid fun (h : ∀ j, j < s.size → chB j (byteN s j) = true) => nameF_end h
  generalize nameF s = v at HBAD HEND
  go_enter Tryz.func89, Tryz.ntmps89
  go_wp2_with fail
  go_loopw [3, 4] (fun q _ wr => ∃ i : Nat, i ≤ s.size ∧ q = .int .i64 i ∧ (∀ j, j < i → chB j (byteN s j) = true) ∧ w = wr) (fun q _ _ => s.size - (intOf q).toNat)
  case atStart => exact ⟨0, by omega, rfl, fun j h => by omega, rfl⟩
  case round =>
    obtain ⟨i, hi, rfl, hok, rfl⟩ := hrel
    have HOK := Lib.hid hok
    clear hok
    by_cases hlt : i < s.size
    · have hlti : (i : Int) < (s.size : Int) := by omega
      have hb : byteN s i = s[i].toNat := dif_pos hlt
      have HB := Lib.hid hb
      have HNX : Hid (chB i (byteN s i) = true → ∀ j, j < i + 1 → chB j (byteN s j) = true) := Lib.hid fun h j hj => by
        rcases Nat.lt_or_ge j i with h1 | h1
        · exact HOK.out j h1
        · obtain rfl : j = i := by omega
          exact h
      rw [hb] at HNX
      have HBD := Lib.hid (HBAD.out i hlt)
      rw [hb] at HBD
      clear hb HB HBAD HEND HOK
      have HC : Hid (∀ b : Nat, b = s[i].toNat → chB i b = (decide (97 ≤ b) && decide (b ≤ 122) || (decide (48 ≤ b) && decide (b ≤ 57) || decide (b = 95)) && decide (i ≠ 0))) := Lib.hid fun b _ => rfl
      obtain ⟨b, hb⟩ : ∃ b, b = s[i].toNat := ⟨_, rfl⟩
      have hc := HC.out b hb
      rw [← hb] at HNX HBD
      have hix : (Instr.index 9 (.string s) (.int .i64 (i : Int))).run Tryz.prog w = .ok (.int .u8 (b : Int)) w := by
        rw [hb]
        rw [run_index_string (h := Tryz.underlying9)]
        simp [hlt]
      have HCC := Lib.hid hc
      clear HC hc hb
      rcases (by omega : (97 ≤ b ∧ b ≤ 122) ∨ (48 ≤ b ∧ b ≤ 57 ∧ i < 1) ∨ (48 ≤ b ∧ b ≤ 57 ∧ 1 ≤ i) ∨ (95 ≤ b ∧ b ≤ 95 ∧ i < 1) ∨ (95 ≤ b ∧ b ≤ 95 ∧ 1 ≤ i) ∨ (b < 48) ∨ (57 < b ∧ b < 95) ∨ (95 < b ∧ b < 97) ∨ (122 < b)) with h | h | h | h | h | h | h | h | h
      all_goals
        first
        | (have k5 : chB i b = true := by rw [HCC.out]; simp; omega)
        | (have k5 : chB i b = false := by rw [HCC.out]; simp; omega)
        have K5 := Lib.hid k5
        clear k5
        first
        | have i1 : (48 : Int) ≤ (b : Int) := by omega
        | have i1 : ¬ (48 : Int) ≤ (b : Int) := by omega
        first
        | have i2 : (b : Int) ≤ 57 := by omega
        | have i2 : ¬ (b : Int) ≤ 57 := by omega
        first
        | have i3 : ((b : Int) == 95) = true := by simp; omega
        | have i3 : ((b : Int) == 95) = false := by simp; omega
        first
        | have i4 : (b : Int) < 97 := by omega
        | have i4 : ¬ (b : Int) < 97 := by omega
        first
        | have i5 : (122 : Int) < (b : Int) := by omega
        | have i5 : ¬ (122 : Int) < (b : Int) := by omega
        try first
          | have i6 : ((i : Int) == 0) = true := by simp; omega
          | have i6 : ((i : Int) == 0) = false := by simp; omega
        go_wp2_with fail
        first
        | (go_ret; exact ⟨by rw [HBD.out K5.out]; rfl, by first | rfl | trivial⟩)
        | (go_roundw
           case rel => exact ⟨i + 1, by omega, by go_num, HNX.out K5.out, by first | rfl | trivial⟩
           case measure => simp [intOf]; omega)
    · have hlti : ¬ (i : Int) < (s.size : Int) := by omega
      have hv := HEND.out fun j hj => HOK.out j (by omega)
      have HV := Lib.hid hv
      clear hv HBAD HEND
      have hf : ∀ (p : Prop) [Decidable p], (p ∨ ¬ p) := fun p _ => Decidable.em p
      rcases hf (1 ≤ s.size) with h1 | h1 <;> rcases hf (s.size ≤ 12) with h2 | h2 <;> (try (exfalso; omega))
      all_goals
        first
        | have i1 : (1 : Int) ≤ (s.size : Int) := by omega
        | have i1 : ¬ (1 : Int) ≤ (s.size : Int) := by omega
        first
        | have i2 : (s.size : Int) ≤ 12 := by omega
        | have i2 : ¬ (s.size : Int) ≤ 12 := by omega
        go_wp2_with fail
        go_ret
        exact ⟨by rw [HV.out]; simp [h1, h2], by first | rfl | trivial⟩
def chanF (x:ChV) (n:Int):Bool:=(decide (0≤x.from_) && (decide (x.from_ < n) && (decide (0≤x.to_) && (decide (x.to_ < n) && (decide (x.from_≠x.to_) && (decide (0≤x.late) && decide (x.late≤4096))))))) &&
 (x.queue && (decide (1≤x.cap) && decide (x.cap≤8)) || !x.queue && decide (x.cap=0))
set_option maxRecDepth 100000 in
set_option maxHeartbeats 4000000 in
theorem xchan_any (x:ChV) (n:Int) (w:World):Calls Tryz.prog 91 #[cv x,.int .i64 n] w (Ans (.bool (chanF x n)) w):=by
 obtain ⟨f,t,q,c,m,l⟩:=x
 have HV:Hid (∀ v,v=chanF ⟨f,t,q,c,m,l⟩ n→v=((decide (0≤f) && (decide (f < n) && (decide (0≤t) && (decide (t < n) && (decide (f≠t) && (decide (0≤l) && decide (l≤4096))))))) && (q && (decide (1≤c) && decide (c≤8)) || !q && decide (c=0)))):=Lib.hid fun v h=>h
 obtain ⟨v,hv⟩:∃ v,v=chanF ⟨f,t,q,c,m,l⟩ n:=⟨_,rfl⟩
 have HVV:=Lib.hid (HV.out v hv)
 rw [← hv]
 clear hv HV
 go_enter Tryz.func91,Tryz.ntmps91
 have hf:∀ (p:Prop) [Decidable p],(p∨¬ p):=fun p _=>Decidable.em p
 rcases (by omega:f < 0∨(0≤f∧n≤f)∨(0≤f∧f < n∧t < 0)∨(0≤f∧f < n∧0≤t∧n≤t)∨(0≤f∧f < n∧0≤t∧t < n∧f≤t∧t≤f)∨(0≤f∧f < n∧0≤t∧t < n∧(f < t∨t < f)∧l < 0)∨(0≤f∧f < n∧0≤t∧t < n∧(f < t∨t < f)∧4096 < l)∨(0≤f∧f < n∧0≤t∧t < n∧(f < t∨t < f)∧0≤l∧l≤4096)) with h | h | h | h | h | h | h | h
 case inr.inr.inr.inr.inr.inr.inr =>
  have hv2:v=(q && (decide (1≤c) && decide (c≤8)) || !q && decide (c=0)):=by
   rw [HVV.out,decide_eq_true (show 0≤f by omega),decide_eq_true (show f < n by omega),decide_eq_true (show 0≤t by omega),decide_eq_true (show t < n by omega),decide_eq_true (show f≠t by omega),decide_eq_true (show 0≤l by omega),decide_eq_true (show l≤4096 by omega)]
   rfl
  have HV2:=Lib.hid hv2
  clear hv2
  have i1:¬ f < 0:=by omega
  have i2:¬ n≤f:=by omega
  have i3:¬ t < 0:=by omega
  have i4:¬ n≤t:=by omega
  have i5:(f == t)=false:=beq_eq_false_iff_ne.2 (by omega)
  have i6:¬ l < 0:=by omega
  have i7:¬ 4096 < l:=by omega
  clear h
  cases q with
  | false =>
   rcases hf (c=0) with hc | hc
   ·have i8:(c == 0)=true:=by rw [hc];rfl
    have hv3:v=true:=by rw [HV2.out,hc];rfl
    have HV3:=Lib.hid hv3
    clear hc hv3
    go_wp2_with fail
    go_ret
    exact Ans.mk (by rw [HV3.out];rfl) (bl1 _ _)
   ·have i8:(c == 0)=false:=beq_eq_false_iff_ne.2 hc
    have hv3:v=false:=by rw [HV2.out,decide_eq_false hc];rfl
    have HV3:=Lib.hid hv3
    clear hc hv3
    go_wp2_with fail
    go_ret
    exact Ans.mk (by rw [HV3.out];rfl) (bl1 _ _)
  | true =>
   rcases hf (1≤c) with hc | hc <;> rcases hf (c≤8) with hd | hd <;> (try (exfalso;omega))
   all_goals
    have hv0:v=(decide (1≤c) && decide (c≤8)):=by rw [HV2.out];simp
    first
    | have hv3:v=true:=by rw [hv0,decide_eq_true hc,decide_eq_true hd];rfl
    | have hv3:v=false:=by rw [hv0,decide_eq_false hc];rfl
    | have hv3:v=false:=by rw [hv0,decide_eq_false hd,Bool.and_false]
    have HV3:=Lib.hid hv3
    clear hv3 hv0
    go_wp2_with fail
    go_ret
    exact Ans.mk (by rw [HV3.out];rfl) (bl1 _ _)
 all_goals
  have hv2:v=false:=by
   rw [HVV.out]
   first
   | rw [decide_eq_false (show ¬ 0≤f by omega)];rfl
   | rw [decide_eq_false (show ¬ f < n by omega)];simp
   | rw [decide_eq_false (show ¬ 0≤t by omega)];simp
   | rw [decide_eq_false (show ¬ t < n by omega)];simp
   | rw [decide_eq_false (show ¬ f≠t by omega)];simp
   | rw [decide_eq_false (show ¬ 0≤l by omega)];simp
   | rw [decide_eq_false (show ¬ l≤4096 by omega)];simp
  have HV2:=Lib.hid hv2
  clear hv2
  try first
   | have i1:f < 0:=by omega
   | have i1:¬ (f < 0):=by omega
  try first
   | have i2:n≤f:=by omega
   | have i2:¬ (n≤f):=by omega
  try first
   | have i3:t < 0:=by omega
   | have i3:¬ (t < 0):=by omega
  try first
   | have i4:n≤t:=by omega
   | have i4:¬ (n≤t):=by omega
  try first
   | have i5:(f == t)=true:=beq_iff_eq.2 (by omega)
   | have i5:(f == t)=false:=beq_eq_false_iff_ne.2 (by omega)
  try first
   | have i6:l < 0:=by omega
   | have i6:¬ (l < 0):=by omega
  try first
   | have i7:4096 < l:=by omega
   | have i7:¬ (4096 < l):=by omega
  clear h
  go_wp2_with fail
  go_ret
  exact Ans.mk (by rw [HV2.out];rfl) (bl1 _ _)
end Go.Proofs.YtfmndmhjjbeokaaGreatDoor
namespace Go.Proofs.YtfmndmhjjbeokaaGreatDoor
open Go.RowKit Tab
set_option linter.unusedSimpArgs false
set_option linter.unusedVariables false
def prcF (q:Int×Int):Bool:=(decide (0≤q.1) && decide (q.1 < 512)) && (decide (0≤q.2) && decide (q.2≤255))
def hlF (h:Int):Bool:=decide (0≤h) && decide (h≤2)
def pbF (b p:Int):Bool:=(decide (b=0) && decide (p=0)) || ((decide (1≤b) && decide (b≤4096)) && (decide (b≤p) && decide (p≤4096)))
def hv5 (x:PtV) (j:Nat):Int:=if j=0 then x.h0 else if j=1 then x.h1 else if j=2 then x.h2 else if j=3 then x.h3 else x.h4
def partF (x:PtV) (L:List (Int×Int)):Bool:=(decide (1≤x.pn) && decide (x.pn≤3)) && (L.all prcF && ((List.range 5).all (fun j=>hlF (hv5 x j)) && pbF x.bud x.per))
theorem partF_few {x:PtV} {L:List (Int×Int)} (h:¬ (1≤x.pn∧x.pn≤3)):partF x L=false:=by
 unfold partF
 rcases (by omega:x.pn < 1∨3 < x.pn) with h1 | h1
 ·rw [decide_eq_false (show ¬ 1≤x.pn by omega)];rfl
 ·rw [decide_eq_false (show ¬ x.pn≤3 by omega)];simp
theorem partF_proc {x:PtV} {L:List (Int×Int)} {i:Nat} {q:Int×Int} (hq:L[i]? = some q) (h:prcF q=false):partF x L=false:=by
 unfold partF
 have:L.all prcF=false:=by
  rw [List.all_eq_false]
  exact ⟨q,List.mem_of_getElem? hq,by rw [h];simp⟩
 rw [this]
 simp
theorem partF_heal {x:PtV} {L:List (Int×Int)} {j:Nat} (hj:j < 5) (h:hlF (hv5 x j)=false):partF x L=false:=by
 unfold partF
 have:(List.range 5).all (fun j=>hlF (hv5 x j))=false:=by
  rw [List.all_eq_false]
  exact ⟨j,List.mem_range.2 hj,by rw [h];simp⟩
 rw [this]
 simp
theorem partF_end {x:PtV} {L:List (Int×Int)} (h1:1≤x.pn) (h3:x.pn≤3) (hp:∀ (j:Nat) (q:Int×Int),L[j]? = some q→prcF q=true) (hh:∀ j,j < 5→hlF (hv5 x j)=true):partF x L=pbF x.bud x.per:=by
 unfold partF
 have e1:L.all prcF=true:=by
  rw [List.all_eq_true]
  intro q hq
  obtain ⟨i,hi⟩:=List.getElem?_of_mem hq
  exact hp i q hi
 have e2:(List.range 5).all (fun j=>hlF (hv5 x j))=true:=by
  rw [List.all_eq_true]
  exact fun j hj=>hh j (List.mem_range.1 hj)
 rw [e1,e2,decide_eq_true h1,decide_eq_true h3]
 rfl
set_option maxRecDepth 100000 in
set_option maxHeartbeats 4000000 in
theorem xpart_any (x : PtV) (L : List (Int × Int)) (w : World) (h : RdB prc w w.heap.size x.pa x.pn L) : Calls Tryz.prog 90 #[pv x] w (Ans (.bool (partF x L)) w) := by
  have FEW := Lib.hid fun h => partF_few (x := x) (L := L) h
  have PRB := Lib.hid fun i q (hq : L[i]? = some q) h => partF_proc (x := x) hq h
  have HLB := Lib.hid fun j (hj : j < 5) h => partF_heal (x := x) (L := L) hj h
  have END := Lib.hid (fun h1 h3 hp hh => partF_end h1 h3 hp hh : 1 ≤ x.pn → x.pn ≤ 3 → (∀ (j : Nat) (q : Int × Int), L[j]? = some q → prcF q = true) → (∀ j, j < 5 → hlF (hv5 x j) = true) → partF x L = pbF x.bud x.per)
  generalize partF x L = v at FEW PRB HLB END ⊢
  obtain ⟨nm, bu, pe, sc, st, pa, pn, pc, h0, h1, h2, h3, h4⟩ := x
  dsimp only at h FEW PRB HLB END
  go_enter Tryz.func90, Tryz.ntmps90
  by_cases hp1 : pn < 1
  · have hp1' : (pn : Int) < 1 := by omega
    have HV := Lib.hid (FEW.out (by omega))
    clear FEW PRB HLB END h
    go_wp2_with fail
    go_ret
    exact Ans.mk (by rw [HV.out]; rfl) (bl1 _ _)
  · by_cases hp3 : 3 < pn
    · have hp3' : (3 : Int) < (pn : Int) := by omega
      have hp1' : ¬ (pn : Int) < 1 := by omega
      have HV := Lib.hid (FEW.out (by omega))
      clear FEW PRB HLB END h
      go_wp2_with fail
      go_ret
      exact Ans.mk (by rw [HV.out]; rfl) (bl1 _ _)
    · have hp3' : ¬ (3 : Int) < (pn : Int) := by omega
      have hp1' : ¬ (pn : Int) < 1 := by omega
      clear FEW
      go_wp2_with fail
      have hb0 := bl1 w (.cells #[.string nm, .int .i64 bu, .int .i64 pe, .bool sc, .bool st, .slice pa pn pc, .int .i64 h0, .int .i64 h1, .int .i64 h2, .int .i64 h3, .int .i64 h4] 60)
      have n1 : (w.alloc (.cells #[.string nm, .int .i64 bu, .int .i64 pe, .bool sc, .bool st, .slice pa pn pc, .int .i64 h0, .int .i64 h1, .int .i64 h2, .int .i64 h3, .int .i64 h4] 60)).cell? ⟨w.heap.size, 1, none⟩ = some (.int .i64 bu) := World.cell?_alloc_mark _ _ _ _ _
      have n2 : (w.alloc (.cells #[.string nm, .int .i64 bu, .int .i64 pe, .bool sc, .bool st, .slice pa pn pc, .int .i64 h0, .int .i64 h1, .int .i64 h2, .int .i64 h3, .int .i64 h4] 60)).cell? ⟨w.heap.size, 2, none⟩ = some (.int .i64 pe) := World.cell?_alloc_mark _ _ _ _ _
      have n6 : (w.alloc (.cells #[.string nm, .int .i64 bu, .int .i64 pe, .bool sc, .bool st, .slice pa pn pc, .int .i64 h0, .int .i64 h1, .int .i64 h2, .int .i64 h3, .int .i64 h4] 60)).cell? ⟨w.heap.size, 6, none⟩ = some (.int .i64 h0) := World.cell?_alloc_mark _ _ _ _ _
      have n7 : (w.alloc (.cells #[.string nm, .int .i64 bu, .int .i64 pe, .bool sc, .bool st, .slice pa pn pc, .int .i64 h0, .int .i64 h1, .int .i64 h2, .int .i64 h3, .int .i64 h4] 60)).cell? ⟨w.heap.size, 7, none⟩ = some (.int .i64 h1) := World.cell?_alloc_mark _ _ _ _ _
      have n8 : (w.alloc (.cells #[.string nm, .int .i64 bu, .int .i64 pe, .bool sc, .bool st, .slice pa pn pc, .int .i64 h0, .int .i64 h1, .int .i64 h2, .int .i64 h3, .int .i64 h4] 60)).cell? ⟨w.heap.size, 8, none⟩ = some (.int .i64 h2) := World.cell?_alloc_mark _ _ _ _ _
      have n9 : (w.alloc (.cells #[.string nm, .int .i64 bu, .int .i64 pe, .bool sc, .bool st, .slice pa pn pc, .int .i64 h0, .int .i64 h1, .int .i64 h2, .int .i64 h3, .int .i64 h4] 60)).cell? ⟨w.heap.size, 9, none⟩ = some (.int .i64 h3) := World.cell?_alloc_mark _ _ _ _ _
      have n10 : (w.alloc (.cells #[.string nm, .int .i64 bu, .int .i64 pe, .bool sc, .bool st, .slice pa pn pc, .int .i64 h0, .int .i64 h1, .int .i64 h2, .int .i64 h3, .int .i64 h4] 60)).cell? ⟨w.heap.size, 10, none⟩ = some (.int .i64 h4) := World.cell?_alloc_mark _ _ _ _ _
      have hgs : w.heap.size < (w.alloc (.cells #[.string nm, .int .i64 bu, .int .i64 pe, .bool sc, .bool st, .slice pa pn pc, .int .i64 h0, .int .i64 h1, .int .i64 h2, .int .i64 h3, .int .i64 h4] 60)).heap.size := by simp
      have hw1 := h.on hb0
      generalize w.alloc (.cells #[.string nm, .int .i64 bu, .int .i64 pe, .bool sc, .bool st, .slice pa pn pc, .int .i64 h0, .int .i64 h1, .int .i64 h2, .int .i64 h3, .int .i64 h4] 60) = W at n1 n2 n6 n7 n8 n9 n10 hb0 hgs hw1 ⊢
      obtain ⟨g, hg⟩ : ∃ g, g = w.heap.size := ⟨_, rfl⟩
      rw [← hg] at n1 n2 n6 n7 n8 n9 n10 hgs ⊢
      have HG := Lib.hid hg
      clear hg h
      have HN := Lib.hid fun W' (hb : Below W.heap.size W W') (o : Nat) v (hv : W.cell? ⟨g, o, none⟩ = some v) => (hb.cell (p := ⟨g, o, none⟩) hgs).trans hv
      have N1 := Lib.hid n1
      have N2 := Lib.hid n2
      have N6 := Lib.hid n6
      have N7 := Lib.hid n7
      have N8 := Lib.hid n8
      have N9 := Lib.hid n9
      have N10 := Lib.hid n10
      clear n1 n2 n6 n7 n8 n9 n10
      go_loopw [4, 20] (fun _ s wr => ∃ i : Nat, i ≤ pn ∧ s = .int .i64 i ∧ (∀ (j : Nat) (q : Int × Int), j < i → L[j]? = some q → prcF q = true) ∧ Below W.heap.size W wr) (fun _ s _ => pn - (intOf s).toNat)
      case atStart => exact ⟨0, by omega, rfl, fun j q hj => by omega, Below.refl _ _⟩
      case round =>
        obtain ⟨i, hi, rfl, hok, hb⟩ := hrel
        have HOK := Lib.hid hok
        clear hok
        by_cases hlt : i < pn
        · obtain ⟨ad, q, rfl, had, hx, c0, ck⟩ := (hw1.on hb).at_ prc_len (by omega) hlt
          have d0 := c0 _ rfl
          have d1 := ck 1 _ (by omega) rfl
          obtain ⟨e, p⟩ := q
          dsimp only at d0 d1
          have HNX : Hid (prcF (e, p) = true → ∀ (j : Nat) (q : Int × Int), j < i + 1 → L[j]? = some q → prcF q = true) := Lib.hid fun h j q hj hq => by
            rcases Nat.lt_or_ge j i with h5 | h5
            · exact HOK.out j q h5 hq
            · obtain rfl : j = i := by omega
              rw [hx] at hq
              injection hq with hq
              rw [← hq]
              exact h
          have HBD := Lib.hid (PRB.out i _ hx)
          have HB := Lib.hid (hb.trans ((bl1 wr (.cells #[.int .i64 e, .int .i64 p] 62)).mono hb.size))
          have HPF : Hid (prcF (e, p) = ((decide (0 ≤ e) && decide (e < 512)) && (decide (0 ≤ p) && decide (p ≤ 255)))) := Lib.hid rfl
          clear c0 ck hx HOK PRB HLB END
          rcases (by omega : e < 0 ∨ 512 ≤ e ∨ (0 ≤ e ∧ e < 512 ∧ p < 0) ∨ (0 ≤ e ∧ e < 512 ∧ 255 < p) ∨ (0 ≤ e ∧ e < 512 ∧ 0 ≤ p ∧ p ≤ 255)) with h5 | h5 | h5 | h5 | h5
          all_goals
            first
            | (have k5 : prcF (e, p) = true := by
                rw [HPF.out, decide_eq_true (show 0 ≤ e by omega), decide_eq_true (show e < 512 by omega), decide_eq_true (show 0 ≤ p by omega), decide_eq_true (show p ≤ 255 by omega)]
                rfl)
            | (have k5 : prcF (e, p) = false := by
                rw [HPF.out]
                first
                | rw [decide_eq_false (show ¬ 0 ≤ e by omega)]; rfl
                | rw [decide_eq_false (show ¬ e < 512 by omega)]; simp
                | rw [decide_eq_false (show ¬ 0 ≤ p by omega)]; simp
                | rw [decide_eq_false (show ¬ p ≤ 255 by omega)]; simp)
            have K5 := Lib.hid k5
            clear k5
            try first
              | have i1 : e < 0 := by omega
              | have i1 : ¬ e < 0 := by omega
            try first
              | have i2 : 512 ≤ e := by omega
              | have i2 : ¬ 512 ≤ e := by omega
            try first
              | have i3 : p < 0 := by omega
              | have i3 : ¬ p < 0 := by omega
            try first
              | have i4 : 255 < p := by omega
              | have i4 : ¬ 255 < p := by omega
            clear h5
            go_wp2_with fail
            first
            | (go_ret; exact Ans.mk (by rw [HBD.out K5.out]; rfl) (hb0.trans (HB.out.mono hb0.size)))
            | (go_roundw
               case rel => exact ⟨i + 1, by omega, by go_num, HNX.out K5.out, HB.out⟩
               case measure => simp [intOf]; omega)
        · have hge : pn ≤ i := by omega
          have HPO : Hid (∀ (j : Nat) (q : Int × Int), L[j]? = some q → prcF q = true) := Lib.hid fun j q hq => HOK.out j q (by have := (List.getElem?_eq_some_iff.1 hq).1; have := hw1.len; omega) hq
          have HEND := Lib.hid (END.out (by omega) (by omega) HPO.out)
          have n1 := HN.out wr hb 1 _ N1.out
          have n2 := HN.out wr hb 2 _ N2.out
          have n6 := HN.out wr hb 6 _ N6.out
          have n7 := HN.out wr hb 7 _ N7.out
          have n8 := HN.out wr hb 8 _ N8.out
          have n9 := HN.out wr hb 9 _ N9.out
          have n10 := HN.out wr hb 10 _ N10.out
          clear END HPO HOK PRB
          go_wp2_with fail
          clear n6 n7 n8 n9 n10
          have HX : Hid (∀ j : Nat, hv5 ⟨nm, bu, pe, sc, st, pa, pn, pc, h0, h1, h2, h3, h4⟩ j = if j = 0 then h0 else if j = 1 then h1 else if j = 2 then h2 else if j = 3 then h3 else h4) := Lib.hid fun j => rfl
          generalize hv5 ⟨nm, bu, pe, sc, st, pa, pn, pc, h0, h1, h2, h3, h4⟩ = hf at HX HEND HLB
          go_loopw [6, 45] (fun _ s wx => ∃ j : Nat, j ≤ 5 ∧ s = .int .i64 j ∧ (∀ k, k < j → hlF (hf k) = true) ∧ Below W.heap.size W wx) (fun _ s _ => 5 - (intOf s).toNat)
          case atStart => exact ⟨0, by omega, rfl, fun k hk => by omega, hb⟩
          case round =>
            obtain ⟨j, hj, rfl, hok, hb⟩ := hrel
            have HOK := Lib.hid hok
            clear hok
            by_cases hj5 : j < 5
            · have hz : ∀ W, (Instr.index 58 (.agg #[Value.int .i64 h0, .int .i64 h1, .int .i64 h2, .int .i64 h3, .int .i64 h4]) (.int .i64 (j : Int))).run Tryz.prog W = .ok (.int .i64 (hf j)) W := by
                rcases (by omega : j = 0 ∨ j = 1 ∨ j = 2 ∨ j = 3 ∨ j = 4) with rfl | rfl | rfl | rfl | rfl
                · rw [show hf 0 = h0 from HX.out 0]
                  exact fun W => by simp [Instr.index, go_sem]
                · rw [show hf 1 = h1 from HX.out 1]
                  exact fun W => by simp [Instr.index, go_sem]
                · rw [show hf 2 = h2 from HX.out 2]
                  exact fun W => by simp [Instr.index, go_sem]
                · rw [show hf 3 = h3 from HX.out 3]
                  exact fun W => by simp [Instr.index, go_sem]
                · rw [show hf 4 = h4 from HX.out 4]
                  exact fun W => by simp [Instr.index, go_sem]
              have hj5' : (j : Int) < 5 := by omega
              have HNX : Hid (hlF (hf j) = true → ∀ k, k < j + 1 → hlF (hf k) = true) := Lib.hid fun h k hk => by
                rcases Nat.lt_or_ge k j with h5 | h5
                · exact HOK.out k h5
                · obtain rfl : k = j := by omega
                  exact h
              have HBD := Lib.hid (HLB.out j hj5)
              clear HX HLB HEND HOK
              generalize hf j = z at hz HNX HBD
              have HPF : Hid (hlF z = (decide (0 ≤ z) && decide (z ≤ 2))) := Lib.hid rfl
              rcases (by omega : z < 0 ∨ 2 < z ∨ (0 ≤ z ∧ z ≤ 2)) with h5 | h5 | h5
              all_goals
                first
                | (have k5 : hlF z = true := by
                    rw [HPF.out, decide_eq_true (show 0 ≤ z by omega), decide_eq_true (show z ≤ 2 by omega)]
                    rfl)
                | (have k5 : hlF z = false := by
                    rw [HPF.out]
                    first
                    | rw [decide_eq_false (show ¬ 0 ≤ z by omega)]; rfl
                    | rw [decide_eq_false (show ¬ z ≤ 2 by omega)]; simp)
                have K5 := Lib.hid k5
                clear k5
                try first
                  | have i1 : z < 0 := by omega
                  | have i1 : ¬ z < 0 := by omega
                try first
                  | have i2 : 2 < z := by omega
                  | have i2 : ¬ 2 < z := by omega
                clear h5
                go_wp2_with fail
                first
                | (go_ret; exact Ans.mk (by rw [HBD.out K5.out]; rfl) (hb0.trans (hb.mono hb0.size)))
                | (go_roundw
                   case rel => exact ⟨j + 1, by omega, by go_num, HNX.out K5.out, hb⟩
                   case measure => simp [intOf]; omega)
            · have hj5' : ¬ (j : Int) < 5 := by omega
              have n1 := HN.out wr hb 1 _ N1.out
              have n2 := HN.out wr hb 2 _ N2.out
              have HV := Lib.hid (HEND.out fun k hk => HOK.out k (by omega))
              have HPF : Hid (pbF bu pe = ((decide (bu = 0) && decide (pe = 0)) || ((decide (1 ≤ bu) && decide (bu ≤ 4096)) && (decide (bu ≤ pe) && decide (pe ≤ 4096))))) := Lib.hid rfl
              clear HEND HOK HX HLB
              rcases (by omega : (bu = 0 ∧ pe = 0) ∨ (bu = 0 ∧ pe ≠ 0) ∨ bu < 0 ∨ (4096 < bu) ∨ (1 ≤ bu ∧ bu ≤ 4096 ∧ pe < bu) ∨ (1 ≤ bu ∧ bu ≤ 4096 ∧ bu ≤ pe ∧ 4096 < pe) ∨ (1 ≤ bu ∧ bu ≤ 4096 ∧ bu ≤ pe ∧ pe ≤ 4096)) with h5 | h5 | h5 | h5 | h5 | h5 | h5
              all_goals
                first
                | (have k5 : v = true := by
                    rw [HV.out, HPF.out]
                    first
                    | rw [decide_eq_true (show bu = 0 by omega), decide_eq_true (show pe = 0 by omega)]; rfl
                    | rw [decide_eq_true (show 1 ≤ bu by omega), decide_eq_true (show bu ≤ 4096 by omega), decide_eq_true (show bu ≤ pe by omega), decide_eq_true (show pe ≤ 4096 by omega)]; simp)
                | (have k5 : v = false := by
                    rw [HV.out, HPF.out]
                    first
                    | rw [decide_eq_false (show ¬ 1 ≤ bu by omega), decide_eq_false (show ¬ pe = 0 by omega)]; simp
                    | rw [decide_eq_false (show ¬ bu = 0 by omega)]
                      first
                      | rw [decide_eq_false (show ¬ 1 ≤ bu by omega)]; rfl
                      | rw [decide_eq_false (show ¬ bu ≤ 4096 by omega)]; simp
                      | rw [decide_eq_false (show ¬ bu ≤ pe by omega)]; simp
                      | rw [decide_eq_false (show ¬ pe ≤ 4096 by omega)]; simp)
                have K5 := Lib.hid k5
                clear k5
                first
                  | have i1 : (bu == 0) = true := beq_iff_eq.2 (by omega)
                  | have i1 : (bu == 0) = false := beq_eq_false_iff_ne.2 (by omega)
                try first
                  | have i2 : (pe == 0) = true := beq_iff_eq.2 (by omega)
                  | have i2 : (pe == 0) = false := beq_eq_false_iff_ne.2 (by omega)
                first
                  | have i3 : 1 ≤ bu := by omega
                  | have i3 : ¬ 1 ≤ bu := by omega
                first
                  | have i4 : bu ≤ 4096 := by omega
                  | have i4 : ¬ bu ≤ 4096 := by omega
                try first
                  | have i5 : bu ≤ pe := by omega
                  | have i5 : ¬ bu ≤ pe := by omega
                try first
                  | have i6 : pe ≤ 4096 := by omega
                  | have i6 : ¬ pe ≤ 4096 := by omega
                clear h5
                go_wp2_with fail
                go_ret
                exact Ans.mk (by rw [K5.out]; rfl) (hb0.trans (hb.mono hb0.size))
end Go.Proofs.YtfmndmhjjbeokaaGreatDoor
