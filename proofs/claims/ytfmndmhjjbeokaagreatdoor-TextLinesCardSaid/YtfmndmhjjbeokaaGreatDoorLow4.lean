import Derived.Test.YtfmndmhjjbeokaaGreatDoorLow3
import Derived.ProofKit
import Derived.OpenShut
import Derived.ChangeOld
import Derived.SizedLaws
import Derived.Deep.CondSized
import Derived.JoinedCond
import Derived.Deep.Strs
import Derived.Shelf.Strings.Builder1
import Derived.Shelf.Strings.Builder2
import Derived.Shelf.Strings.OnBuilder
import Derived.Shelf.Strconv.Itoa0
import Derived.Shelf.Strconv.Itoa1
import Derived.Shelf.LaysM
import Derived.Shelf.Strconv.Itoa2
import Derived.Shelf.Strconv.Itoa3
import Derived.Shelf.Strconv.Itoa4
import Derived.Test.YtfmndmhjjbeokaaGreatDoorRows
import Derived.Test.YtfmndmhjjbeokaaGreatDoorLow1
namespace Go.Proofs.YtfmndmhjjbeokaaGreatDoor
open Go.ChangeShapes Go.WideShapes Go.ChangeAt Go.RowKit Go.Deep
theorem own:ownKnob Tryz.prog.godebug=none:=by kernel_rfl
theorem laidOut:laidOutB Tryz.prog=true:=by kernel_rfl
theorem ints_view {H:Type} {enc:TypeId×Value→H} {W:World} {A:Option Addr} {n k:Nat} {d:DataW H} {p:List MemPlace}
  (h:DataW.Trod enc Tryz.prog W 0 (fun _=>true) true 23 (.slice A n k) d p) :
  ∃ f:Nat→Int,RdC W W.heap.size A n (fun j=>.int .i64 (f j))∧n≤k∧(∀ j,j < n→(Lit.int .i64 (f j)).wf=true)∧(k=0∨∃ elems spare,d=.slice elems spare∧elems.length+spare.length=k):=by
 obtain ⟨fuel,hf⟩:=h
 rcases open_ints Tryz.underlying23 Tryz.underlying3 (by kernel_rfl) hf with ⟨hcs,_⟩ | ⟨x,l,c,zs,hcs,_,hl,hm,hz,hx,hcell,hwz⟩
 ·simp [Value.cells] at hcs
  obtain ⟨rfl,rfl,rfl⟩:=hcs
  exact ⟨fun _=>0,fun h=>absurd h (by omega),Nat.le_refl _,fun j h=>absurd h (by omega),.inl rfl⟩
 ·simp [Value.cells] at hcs
  obtain ⟨rfl,rfl,rfl⟩:=hcs
  have hz':zs.length=k:=by simpa using hz
  refine ⟨fun j=>zs.getD j 0,fun h0=>⟨x,rfl,?_,fun j hj=>hcell j (by omega)⟩,hl,fun j hj=>?_,.inr ⟨_,_,(Prod.mk.inj hx).1,?_⟩⟩
  ·have h1:=hcell 0 (by omega)
   have h2:=World.block_lt_of_cell? W _ h1
   have e1:(x.add 0).block=x.block:=by unfold Addr.add;split <;> rfl
   rw [← e1];exact h2
  ·have:j < zs.length:=by omega
   simp only [List.getD,List.getElem?_eq_getElem this,Option.getD_some]
   exact hwz _ (List.getElem_mem this)
  ·simp [lits];omega
theorem ints_sized {H:Type} {enc:TypeId×Value→H} {W:World} {A:Option Addr} {n k:Nat} {d:DataW H} {p:List MemPlace}
  (h:DataW.Trod enc Tryz.prog W 0 (fun _=>true) true 23 (.slice A n k) d p)
  (hs:∀ elems spare,d=.slice elems spare→(elems.length+spare.length)*Tryz.prog.bytesOf 3≤reachBytes) :
  ∃ f:Nat→Int,RdC W W.heap.size A n (fun j=>.int .i64 (f j))∧n≤k∧k≤140737488351232∧∀ j,j < n→(Lit.int .i64 (f j)).wf=true:=by
 obtain ⟨f,h1,h2,h4,h3⟩:=ints_view h
 refine ⟨f,h1,h2,?_,h4⟩
 rcases h3 with h3 | ⟨elems,spare,hd,hk⟩
 ·omega
 ·have:=hs elems spare hd
  have e:Tryz.prog.bytesOf 3=8:=by kernel_rfl
  rw [e,hk] at this
  simp only [reachBytes] at this
  omega
end Go.Proofs.YtfmndmhjjbeokaaGreatDoor
namespace Go.Proofs.YtfmndmhjjbeokaaGreatDoor
open Go.Shelf
def tabN:String:=Rows.textTablesRow.named.headD ""
def Tryz.lays156_ren:Go.Shelf.Ren:=⟨fun | 156=>63 | 165=>97 | 166=>98 | 169=>99 | 240=>127 | 241=>128 | 276=>144 | 277=>145 | n=>n,fun | 31=>39 | 9=>9 | 3=>3 | 4=>4 | 0=>0 | 20=>20 | 72=>140 | 76=>143 | 70=>138 | 37=>38 | 75=>142 | 127=>171 | 164=>182 | 5=>5 | 80=>145 | n=>n,fun | n=>n⟩
theorem Tryz.lays156:Go.Proofs.Lays.n156 Tryz.prog Tryz.lays156_ren:={
 mixed:=by kernel_rfl
 f156:=Tryz.func63.trans (congrArg some (by kernel_rfl))
 f165:=Tryz.func97.trans (congrArg some (by kernel_rfl))
 f166:=Tryz.func98.trans (congrArg some (by kernel_rfl))
 f169:=Tryz.func99.trans (congrArg some (by kernel_rfl))
 f240:=Tryz.func127.trans (congrArg some (by kernel_rfl))
 f241:=Tryz.func128.trans (congrArg some (by kernel_rfl))
 f276:=Tryz.func144.trans (congrArg some (by kernel_rfl))
 f277:=Tryz.func145.trans (congrArg some (by kernel_rfl))
 t0:=Tryz.underlying0
 a0:=Tryz.isAgg0
 z0:=Tryz.sizeOf0
 v0:=Tryz.zeroValue0
 t3:=Tryz.underlying3
 a3:=Tryz.isAgg3
 z3:=Tryz.sizeOf3
 v3:=Tryz.zeroValue3
 t4:=Tryz.underlying4
 a4:=Tryz.isAgg4
 z4:=Tryz.sizeOf4
 v4:=Tryz.zeroValue4
 t9:=Tryz.underlying9
 a9:=Tryz.isAgg9
 z9:=Tryz.sizeOf9
 v9:=Tryz.zeroValue9
 t20:=Tryz.underlying20
 a20:=Tryz.isAgg20
 z20:=Tryz.sizeOf20
 v20:=Tryz.zeroValue20
 t31:=Tryz.underlying39
 a31:=Tryz.isAgg39
 z31:=Tryz.sizeOf39
 v31:=Tryz.zeroValue39
 t37:=Tryz.underlying38
 a37:=Tryz.isAgg38
 z37:=Tryz.sizeOf38
 v37:=Tryz.zeroValue38
 t70:=Tryz.underlying138
 a70:=Tryz.isAgg138
 z70:=Tryz.sizeOf138
 v70:=Tryz.zeroValue138
 t72:=Tryz.underlying140
 a72:=Tryz.isAgg140
 z72:=Tryz.sizeOf140
 v72:=Tryz.zeroValue140
 t75:=Tryz.underlying142
 a75:=Tryz.isAgg142
 z75:=Tryz.sizeOf142
 v75:=Tryz.zeroValue142
 t76:=Tryz.underlying143
 a76:=Tryz.isAgg143
 z76:=Tryz.sizeOf143
 v76:=Tryz.zeroValue143
 t127:=Tryz.underlying171
 a127:=Tryz.isAgg171
 z127:=Tryz.sizeOf171
 v127:=Tryz.zeroValue171
 t164:=Tryz.underlying182
 a164:=Tryz.isAgg182
 z164:=Tryz.sizeOf182
 v164:=Tryz.zeroValue182 }
theorem Tryz.Builder_Extra_156:Builder.Extra Tryz.prog Tryz.lays156_ren:={
 sizeBuilder:=by kernel_rfl
 liesBuilder:=by kernel_rfl
 t5:=Tryz.underlying5
 a5:=Tryz.isAgg5
 z5:=Tryz.sizeOf5
 v5:=Tryz.zeroValue5
 infoByte:=by kernel_rfl
 cellsByte:=by kernel_rfl
 sizeByte:=by kernel_rfl
 neB5:=by decide }
open Go.RowKit in
theorem Tryz.strings_Join (bk o c:Nat) (xs:List ByteArray) (sep:ByteArray) (w:World) (hcells:∀ (j:Nat) x,xs[j]? = some x→w.cell? ⟨bk,o+j,none⟩=some (.string x)) (hbk:bk < w.heap.size) (hN:xs.length≤140737488355328) (hcap:xs.length≤c) (hlen:(Lib.join (xs.map (·.data.toList)) sep.data.toList).length≤140737488355328) :
  Calls Tryz.prog 63 #[.slice (some ⟨bk,o,none⟩) xs.length c,.string sep] w fun e w'=>e=.returned (.string ⟨(Lib.join (xs.map (·.data.toList)) sep.data.toList).toArray⟩)∧Below w.heap.size w w':=Any.strings_Join Tryz.lays156 Tryz.Builder_Extra_156 bk o c xs sep w hcells hbk hN hcap hlen
def Tryz.laysM173_ren:Go.Shelf.Ren:=⟨fun | 173=>72 | 246=>108 | 283=>133 | 284=>134 | 285=>135 | 286=>136 | 129=>147 | 317=>146 | 318=>148 | 319=>149 | 320=>150 | 337=>158 | 338=>159 | n=>n,fun | 2=>2 | 3=>3 | 9=>9 | 4=>4 | 171=>175 | 0=>0 | 53=>176 | 37=>38 | 5=>5 | 173=>179 | 212=>186 | 51=>63 | 20=>20 | 213=>187 | 46=>189 | 232=>209 | 233=>210 | n=>n,fun | 17=>0 | 18=>2 | 19=>3 | n=>n⟩
theorem Tryz.laysM173:Go.Proofs.LaysM.n173 Tryz.prog Tryz.laysM173_ren:={
 mixed:=by kernel_rfl
 f129:=Tryz.func147.trans (congrArg some (by kernel_rfl))
 f173:=Tryz.func72.trans (congrArg some (by kernel_rfl))
 f246:=Tryz.func108.trans (congrArg some (by kernel_rfl))
 f283:=Tryz.func133.trans (congrArg some (by kernel_rfl))
 f284:=Tryz.func134.trans (congrArg some (by kernel_rfl))
 f285:=Tryz.func135.trans (congrArg some (by kernel_rfl))
 f286:=Tryz.func136.trans (congrArg some (by kernel_rfl))
 f317:=Tryz.func146.trans (congrArg some (by kernel_rfl))
 f318:=Tryz.func148.trans (congrArg some (by kernel_rfl))
 f319:=Tryz.func149.trans (congrArg some (by kernel_rfl))
 f320:=Tryz.func150.trans (congrArg some (by kernel_rfl))
 f337:=Tryz.func158.trans (congrArg some (by kernel_rfl))
 f338:=Tryz.func159.trans (congrArg some (by kernel_rfl))
 t0:=Tryz.underlying0
 a0:=Tryz.isAgg0
 z0:=Tryz.sizeOf0
 v0:=Tryz.zeroValue0
 t2:=Tryz.underlying2
 a2:=Tryz.isAgg2
 z2:=Tryz.sizeOf2
 v2:=Tryz.zeroValue2
 t3:=Tryz.underlying3
 a3:=Tryz.isAgg3
 z3:=Tryz.sizeOf3
 v3:=Tryz.zeroValue3
 t4:=Tryz.underlying4
 a4:=Tryz.isAgg4
 z4:=Tryz.sizeOf4
 v4:=Tryz.zeroValue4
 t5:=Tryz.underlying5
 a5:=Tryz.isAgg5
 z5:=Tryz.sizeOf5
 v5:=Tryz.zeroValue5
 t9:=Tryz.underlying9
 a9:=Tryz.isAgg9
 z9:=Tryz.sizeOf9
 v9:=Tryz.zeroValue9
 t20:=Tryz.underlying20
 a20:=Tryz.isAgg20
 z20:=Tryz.sizeOf20
 v20:=Tryz.zeroValue20
 t37:=Tryz.underlying38
 a37:=Tryz.isAgg38
 z37:=Tryz.sizeOf38
 v37:=Tryz.zeroValue38
 t46:=Tryz.underlying189
 a46:=Tryz.isAgg189
 z46:=Tryz.sizeOf189
 v46:=Tryz.zeroValue189
 t51:=Tryz.underlying63
 a51:=Tryz.isAgg63
 z51:=Tryz.sizeOf63
 v51:=Tryz.zeroValue63
 t53:=Tryz.underlying176
 a53:=Tryz.isAgg176
 z53:=Tryz.sizeOf176
 v53:=Tryz.zeroValue176
 t171:=Tryz.underlying175
 a171:=Tryz.isAgg175
 z171:=Tryz.sizeOf175
 v171:=Tryz.zeroValue175
 t173:=Tryz.underlying179
 a173:=Tryz.isAgg179
 z173:=Tryz.sizeOf179
 v173:=Tryz.zeroValue179
 t212:=Tryz.underlying186
 a212:=Tryz.isAgg186
 z212:=Tryz.sizeOf186
 v212:=Tryz.zeroValue186
 t213:=Tryz.underlying187
 a213:=Tryz.isAgg187
 z213:=Tryz.sizeOf187
 t232:=Tryz.underlying209
 a232:=Tryz.isAgg209
 z232:=Tryz.sizeOf209
 v232:=Tryz.zeroValue209
 t233:=Tryz.underlying210
 a233:=Tryz.isAgg210
 z233:=Tryz.sizeOf210
 v233:=Tryz.zeroValue210
 g17:=by kernel_rfl
 g18:=by kernel_rfl
 g19:=by kernel_rfl
 i0:=by kernel_rfl
 i2:=by kernel_rfl
 i3:=by kernel_rfl
 i4:=by kernel_rfl
 i5:=by kernel_rfl
 i9:=by kernel_rfl
 i20:=by kernel_rfl
 i37:=by kernel_rfl
 i46:=by kernel_rfl
 i51:=by kernel_rfl
 i53:=by kernel_rfl
 i171:=by kernel_rfl
 i173:=by kernel_rfl
 i212:=by kernel_rfl
 i232:=by kernel_rfl
 i233:=by kernel_rfl
 m17:=by kernel_rfl
 m18:=by kernel_rfl
 m19:=by kernel_rfl }
open Go.RowKit Go.Sort Go.Lib in
theorem Tryz.strconv_FormatInt_10 (n:Int) (h0:-9223372036854775808≤n) (h1:n≤9223372036854775807) (w:World) (htab:Lib.TabIs Tryz.prog w tabN .u64 Lib.pow10Tab) :
  Calls Tryz.prog 72 #[.int .i64 n,.int .i64 10] w fun e w'=>e=.returned (.string ⟨(Lib.itoa n).toArray⟩)∧∃ k os,w'=grow (w.drewN k) os:=Any.strconv_FormatInt_10 Tryz.laysM173 n h0 h1 w htab
end Go.Proofs.YtfmndmhjjbeokaaGreatDoor
namespace Go.Proofs.YtfmndmhjjbeokaaGreatDoor
namespace Txt
open Tab
set_option linter.unusedSimpArgs false
set_option linter.unusedVariables false
def bsOf (l:List UInt8):ByteArray:=⟨l.toArray⟩
def toL (s:ByteArray):List UInt8:=s.data.toList
theorem bsOf_toL (s:ByteArray):bsOf (toL s)=s:=rfl
theorem toL_bsOf (l:List UInt8):toL (bsOf l)=l:=by simp [toL,bsOf]
def dg (d:Nat):UInt8:=UInt8.ofNat (48+d)
theorem dg_nat {d:Nat} (h:d < 10):(dg d).toNat=48+d:=by
 unfold dg
 rw [UInt8.toNat_ofNat']
 omega
def numR:Nat→Nat→List UInt8
 | 0,n=>[dg n]
 | k+1,n=>if n < 10 then [dg n] else numR k (n / 10)++[dg (n % 10)]
theorem numR_any:∀ (k k' n:Nat),n≤k→n≤k'→numR k n=numR k' n
 | 0,0,_,_,_=>rfl
 | 0,k'+1,n,h,_=>by
  have:n < 10:=by omega
  simp [numR,this]
 | k+1,0,n,_,h=>by
  have:n < 10:=by omega
  simp [numR,this]
 | k+1,k'+1,n,h,h'=>by
  unfold numR
  split
  ·rfl
  ·rw [numR_any k k' (n / 10) (by omega) (by omega)]
def numB (n:Nat):List UInt8:=numR n n
theorem numB_low {n:Nat} (h:n < 10):numB n=[dg n]:=by
 unfold numB
 cases n with
 | zero=>rfl
 | succ n =>
  unfold numR
  rw [if_pos h]
theorem numB_high {n:Nat} (h:10≤n):numB n=numB (n / 10)++[dg (n % 10)]:=by
 unfold numB
 cases n with
 | zero=>omega
 | succ n =>
  rw [numR,if_neg (by omega),numR_any n ((n+1) / 10) ((n+1) / 10) (by omega) (Nat.le_refl _)]
def isD (c:UInt8):Bool:=decide (48≤c.toNat) && decide (c.toNat≤57)
theorem dg_isD {d:Nat} (h:d < 10):isD (dg d)=true:=by
 unfold isD
 rw [dg_nat h,decide_eq_true (by omega),decide_eq_true (by omega)]
 rfl
theorem num_all:∀ n,∀ c∈numB n,isD c=true:=by
 intro n
 induction n using Nat.strongRecOn with
 | ind n ih =>
  intro c hc
  rcases Nat.lt_or_ge n 10 with h | h
  ·rw [numB_low h] at hc
   obtain rfl:c=dg n:=by simpa using hc
   exact dg_isD h
  ·rw [numB_high h] at hc
   rcases List.mem_append.1 hc with hc | hc
   ·exact ih _ (by omega) c hc
   ·obtain rfl:c=dg (n % 10):=by simpa using hc
    exact dg_isD (by omega)
theorem num_pos (n:Nat):0 < (numB n).length:=by
 rcases Nat.lt_or_ge n 10 with h | h
 ·rw [numB_low h];exact Nat.one_pos
 ·rw [numB_high h,List.length_append];show 0 < _+1;omega
theorem num_head:∀ n,1≤n→(numB n).head?≠some 48:=by
 intro n
 induction n using Nat.strongRecOn with
 | ind n ih =>
  intro hn
  rcases Nat.lt_or_ge n 10 with h | h
  ·rw [numB_low h]
   intro e
   injection e with e
   have:=congrArg UInt8.toNat e
   rw [dg_nat h] at this
   have:48+n=48:=this
   omega
  ·rw [numB_high h,List.head?_append]
   have:=ih (n / 10) (by omega) (by omega)
   cases e:(numB (n / 10)).head? with
   | none =>
    have h1:=num_pos (n / 10)
    rw [List.head?_eq_none_iff.1 e] at h1
    exact absurd h1 (by decide)
   | some c =>
    rw [e] at this
    exact this
theorem num_len_le (k:Nat):∀ n,n < 10 ^ (k+1)→(numB n).length≤k+1:=by
 induction k with
 | zero=>intro n h;rw [numB_low (by simpa using h)];exact Nat.le_refl _
 | succ k ih =>
  intro n h
  rcases Nat.lt_or_ge n 10 with h1 | h1
  ·rw [numB_low h1];show 1≤_;omega
  ·rw [numB_high h1,List.length_append]
   have:=ih (n / 10) (by rw [Nat.pow_succ] at h;omega)
   show _+1≤_
   omega
def valL (m:Nat):Nat→List UInt8→Option Nat
 | a,[]=>some a
 | a,c::s=>if isD c && decide (a≤m) then valL m (a*10+(c.toNat - 48)) s else none
theorem valL_cons (m a:Nat) (c:UInt8) (s:List UInt8):valL m a (c::s)=if isD c && decide (a≤m) then valL m (a*10+(c.toNat - 48)) s else none:=rfl
theorem valL_app (m:Nat):∀ (s t:List UInt8) (a:Nat),valL m a (s++t)=(valL m a s).bind fun b=>valL m b t
 | [],t,a=>rfl
 | c::s,t,a=>by
  rw [List.cons_append,valL_cons,valL_cons]
  split
  ·exact valL_app m s t _
  ·rfl
theorem valL_num (m:Nat):∀ n,n≤m→valL m 0 (numB n)=some n:=by
 intro n
 induction n using Nat.strongRecOn with
 | ind n ih =>
  intro hn
  rcases Nat.lt_or_ge n 10 with h | h
  ·rw [numB_low h]
   unfold valL
   rw [dg_isD h,decide_eq_true (Nat.zero_le _),dg_nat h]
   show some (0*10+(48+n - 48))=some n
   rw [show 0*10+(48+n - 48)=n by omega]
  ·rw [numB_high h,valL_app,ih (n / 10) (by omega) (by omega)]
   show valL m (n / 10) [dg (n % 10)]=some n
   unfold valL
   rw [dg_isD (by omega),decide_eq_true (by omega),dg_nat (by omega)]
   show some (n / 10*10+(48+n % 10 - 48))=some n
   rw [show n / 10*10+(48+n % 10 - 48)=n by omega]
def valF (m:Nat) (s:List UInt8):Nat×Bool :=
 match valL m 0 s with
 | none=>(0,false)
 | some a=>(a,decide (0 < s.length) && (decide (a≤m) && (decide (s.length=1) || !decide (s.head? = some 48))))
theorem valF_num {m n:Nat} (h:n≤m):valF m (numB n)=(n,true):=by
 unfold valF
 rw [valL_num m n h]
 show (n,_)=(n,true)
 rw [decide_eq_true (num_pos n),decide_eq_true h]
 rcases Nat.eq_zero_or_pos n with rfl | hn
 ·rfl
 ·rw [decide_eq_false (num_head n hn)]
  simp
def splitF (b:UInt8):List UInt8→List (List UInt8)
 | []=>[[]]
 | c::s=>if c=b then []::splitF b s else match splitF b s with
  | []=>[[c]]
  | x::l=>(c::x)::l
theorem splitF_cons (b c:UInt8) (s:List UInt8):splitF b (c::s)=if c=b then []::splitF b s else match splitF b s with
  | []=>[[c]]
  | x::l=>(c::x)::l:=rfl
theorem split_ne (b:UInt8):∀ s,splitF b s≠[]
 | []=>by simp [splitF]
 | c::s=>by
  unfold splitF
  split
  ·simp
  ·cases splitF b s <;> simp
theorem split_one {b:UInt8}:∀ {x:List UInt8},b ∉ x→splitF b x=[x]
 | [],_=>rfl
 | c::x,h=>by
  unfold splitF
  rw [if_neg (fun e=>h (by simp [e])),split_one (fun hx=>h (by simp [hx]))]
theorem split_at {b:UInt8}:∀ {x:List UInt8} (s:List UInt8),b ∉ x→splitF b (x++b::s)=x::splitF b s
 | [],s,_=>by simp [splitF]
 | c::x,s,h=>by
  rw [List.cons_append,splitF_cons,if_neg (fun e=>h (by simp [e])),split_at s (fun hx=>h (by simp [hx]))]
end Txt
end Go.Proofs.YtfmndmhjjbeokaaGreatDoor
