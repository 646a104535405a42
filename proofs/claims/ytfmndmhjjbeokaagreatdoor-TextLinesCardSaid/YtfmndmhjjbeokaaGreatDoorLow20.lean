import Derived.Test.YtfmndmhjjbeokaaGreatDoorLow10
import Derived.Test.YtfmndmhjjbeokaaGreatDoorLow3
import Derived.Test.YtfmndmhjjbeokaaGreatDoorLow17
import Derived.Laws.StructEq
import Derived.BigQuiet
import Derived.Test.YtfmndmhjjbeokaaGreatDoorLow14
namespace Go.Proofs.YtfmndmhjjbeokaaGreatDoor
open Go.RowKit Tab
set_option linter.unusedSimpArgs false
set_option linter.unusedVariables false
def PcOk (e p:Int):Prop:=0≤e∧e < 512∧0≤p∧p≤255
def ProcsAt (w:World) (B:Nat) (A:Option Addr) (n:Nat):Prop:=∀ i,i < n→∃ ad e p,A=some ad∧ad.block < B∧w.cell? (ad.add (i*2))=some (.int .i64 e)∧w.cell? ⟨(ad.add (i*2)).block,(ad.add (i*2)).off+1,none⟩=some (.int .i64 p)∧PcOk e p
theorem ProcsAt.on {w w':World} {A:Option Addr} {n:Nat} (h:ProcsAt w w.heap.size A n) (hb:Below w.heap.size w w'):ProcsAt w' w'.heap.size A n:=fun i hi=>by
 obtain ⟨ad,e,p,hA,hB,h1,h2,h3⟩:=h i hi
 refine ⟨ad,e,p,hA,Nat.lt_of_lt_of_le hB hb.size,?_,?_,h3⟩
 ·rw [hb.cell (by rw [add_block];exact hB)];exact h1
 ·rw [hb.cell (by show (ad.add (i*2)).block < _;rw [add_block];exact hB)];exact h2
end Go.Proofs.YtfmndmhjjbeokaaGreatDoor
namespace Go.Proofs.YtfmndmhjjbeokaaGreatDoor
open Go.RowKit Tab
set_option linter.unusedSimpArgs false
set_option linter.unusedVariables false
theorem tkOf_all (p:Int) (L:List Rn) (i:Nat):tkOf p (L.take i)≤ticks L:=by
 have h1:=tkOf_le p (L.take i)
 have h2:=take_ticks L i
 omega
set_option maxRecDepth 100000 in
set_option maxHeartbeats 1600000 in
theorem ticks_any (A:Option Addr) (n cap:Nat) (L:List Rn) (p:Int) (w:World) (h:RdR w w.heap.size A n L) (hc:n≤cap) (hn:n≤1048576) (ht:ticks L≤1099511627776) :
  Calls Tryz.prog 164 #[.slice A n cap,.int .i64 p] w (Ans (.int .i64 (tkOf p L:Nat)) w):=by
 go_enter Tryz.func164,Tryz.ntmps164
 go_wp2_with fail
 go_loopw [5,10] (fun q s wr=>∃ (i m:Nat),i≤n∧s=.int .i64 i∧q=.int .i64 m∧m=tkOf p (L.take i)∧Below w.heap.size w wr) (fun _ s _=>n - (intOf s).toNat)
 case atStart=>exact ⟨0,0,by omega,rfl,rfl,by simp [tkOf],Below.refl _ _⟩
 case round =>
  obtain ⟨i,m,hi,rfl,rfl,hm,hb⟩:=hrel
  have hmt:=tkOf_all p L i
  rw [← hm] at hmt
  by_cases hlt:i < n
  ·obtain ⟨ad,r,rfl,had,hr,c0,c1⟩:=(h.on hb).at_ hlt
   have hmore:=tkOf_more (p:=p) hr
   have hall:=tkOf_all p L (i+1)
   rw [hmore,← hm] at hall
   rw [← hm] at hmore
   have hbl:=bl1 wr (.cells #[.int .i64 r.p,.int .i64 (r.n:Int)] 129)
   have HB:=Lib.hid (hb.trans (hbl.mono hb.size))
   by_cases hp:r.p=p
   ·rw [if_pos hp] at hall hmore
    have hpb:(r.p == p)=true:=beq_iff_eq.2 hp
    have HM:=Lib.hid hmore
    clear hp hmore hm hbl hr
    go_wp2_with fail
    refine (more_any (m:Int) (r.n:Int) _ _ _ (by omega) (by omega) (by omega) rfl rfl).mono ?_
    rintro e w1 ⟨rfl,rfl⟩
    go_wp2_with fail
    go_roundw
    case rel=>exact ⟨i+1,m+r.n,by omega,by go_num,by go_num,HM.out.symm,HB.out⟩
    case measure=>simp [intOf];omega
   ·rw [if_neg hp] at hall hmore
    have hpb:(r.p == p)=false:=beq_eq_false_iff_ne.2 hp
    have HM:=Lib.hid hmore
    clear hp hmore hm hbl hr
    go_wp2_with fail
    go_roundw
    case rel=>exact ⟨i+1,m,by omega,by go_num,rfl,HM.out.symm,HB.out⟩
    case measure=>simp [intOf];omega
  ·have hge:n≤i:=by omega
   have e:m=tkOf p L:=by rw [hm,List.take_of_length_le (by rw [h.len];exact hge)]
   have HE:=Lib.hid e
   clear e hm
   go_wp2_with fail
   go_ret
   exact Ans.mk (by rw [HE.out];rfl) hb
set_option maxRecDepth 100000 in
set_option maxHeartbeats 1600000 in
theorem length_any (A:Option Addr) (n cap:Nat) (L:List Rn) (w:World) (h:RdR w w.heap.size A n L) (hc:n≤cap) (hn:n≤1048576) (ht:ticks L≤1099511627776) :
  Calls Tryz.prog 156 #[.slice A n cap] w (Ans (.int .i64 (ticks L:Nat)) w):=by
 go_enter Tryz.func156,Tryz.ntmps156
 go_wp2_with fail
 go_loopw [3,8] (fun q s wr=>∃ (i m:Nat),i≤n∧s=.int .i64 i∧q=.int .i64 m∧m=ticks (L.take i)∧Below w.heap.size w wr) (fun _ s _=>n - (intOf s).toNat)
 case atStart=>exact ⟨0,0,by omega,rfl,rfl,by simp [ticks],Below.refl _ _⟩
 case round =>
  obtain ⟨i,m,hi,rfl,rfl,hm,hb⟩:=hrel
  have hmt:=take_ticks L i
  rw [← hm] at hmt
  by_cases hlt:i < n
  ·obtain ⟨ad,r,rfl,had,hr,c0,c1⟩:=(h.on hb).at_ hlt
   have hmore:=take_more hr
   have hall:=take_ticks L (i+1)
   rw [hmore,← hm] at hall
   rw [← hm] at hmore
   have hbl:=bl1 wr (.cells #[.int .i64 r.p,.int .i64 (r.n:Int)] 129)
   have HB:=Lib.hid (hb.trans (hbl.mono hb.size))
   have HM:=Lib.hid hmore
   clear hmore hm hbl hr
   go_wp2_with fail
   refine (more_any (m:Int) (r.n:Int) _ _ _ (by omega) (by omega) (by omega) rfl rfl).mono ?_
   rintro e w1 ⟨rfl,rfl⟩
   go_wp2_with fail
   go_roundw
   case rel=>exact ⟨i+1,m+r.n,by omega,by go_num,by go_num,HM.out.symm,HB.out⟩
   case measure=>simp [intOf];omega
  ·have hge:n≤i:=by omega
   have e:m=ticks L:=by rw [hm,List.take_of_length_le (by rw [h.len];exact hge)]
   have HE:=Lib.hid e
   clear e hm
   go_wp2_with fail
   go_ret
   exact Ans.mk (by rw [HE.out];rfl) hb
end Go.Proofs.YtfmndmhjjbeokaaGreatDoor
namespace Go.Proofs.YtfmndmhjjbeokaaGreatDoor
open Go.RowKit Tab
set_option linter.unusedSimpArgs false
set_option linter.unusedVariables false
theorem rt_cases (n D T:Nat):(rt n D T=0∧n≤128∧D≤16∧T≤4096)∨¬ rt n D T=0:=by
 unfold rt
 by_cases h1:128 < n
 ·rw [if_pos h1];exact .inr (by omega)
 ·by_cases h2:16 < D
  ·rw [if_neg h1,if_pos h2];exact .inr (by omega)
  ·by_cases h3:4096 < T
   ·rw [if_neg h1,if_neg h2,if_pos h3];exact .inr (by omega)
   ·rw [if_neg h1,if_neg h2,if_neg h3];exact .inl ⟨rfl,by omega,by omega,by omega⟩
end Go.Proofs.YtfmndmhjjbeokaaGreatDoor
