import Derived.Test.YtdkngfdnfekgfaaGreatLot18
import Derived.StillTailTactics
import Derived.Laws.StructEq
import Derived.BigQuiet
set_option maxHeartbeats 1600000
set_option maxRecDepth 100000
set_option linter.unusedSimpArgs false
set_option linter.unusedVariables false
namespace Go.Proofs.YtdkngfdnfekgfaaGreat
open Go.RowKit Tab
theorem RdB.other{α:Type}{f:α→List Value}{w:World}{n B:Nat}{A:Option Addr}{l:List α}(h:RdB f w B A n l)(p:Addr)(v:Value)(hp:∀ b,obk A=some b→b≠p.block):RdB f (w.setCell p v) B A n l:=by
 refine⟨h.len,fun hl=>?_⟩;obtain⟨ad,e,hb,hc⟩:=h.rd hl;refine⟨ad,e,hb,fun j u hj=>?_⟩;rw[World.cell?_of_block (Below.heap_setCell w p v (ad.add j).block (by rw[add_block];exact hp _ (by rw[e];rfl)))];exact hc j u hj
theorem box_vec(w:World)(v0 v1 v2:Value)(t:TypeId):Vec (w.alloc (.cells #[v0,v1,v2] t)) w.heap.size 3 fun j=>if j=0 then v0 else if j=1 then v1 else v2 :=
 Vec.lit w _ _ 3 _ fun j hj=>by rcases(by omega:j=0∨j=1∨j=2) with rfl | rfl | rfl <;> rfl
theorem Vec.three{w:World}{g:Nat}{v0 v1 v2:Value}(h:Vec w g 3 fun j=>if j=0 then v0 else if j=1 then v1 else v2):w.cell? ⟨g,0,none⟩=some v0∧w.cell? ⟨g,1,none⟩=some v1∧w.cell? ⟨g,2,none⟩=some v2:=by
 refine⟨?_,?_,?_⟩
 ·have:=h.cell 0 (by omega);rwa [if_pos rfl] at this
 ·have:=h.cell 1 (by omega);rwa [if_neg (by omega),if_pos rfl] at this
 have:=h.cell 2 (by omega);rwa [if_neg (by omega),if_neg (by omega)] at this
def PcOk(e p:Int):Prop:=0≤e∧e < 512∧0≤p∧p≤255
def ProcsAt(w:World)(B:Nat)(A:Option Addr)(n:Nat):Prop:=∀ i,i < n→∃ ad e p,A=some ad∧ad.block < B∧w.cell? (ad.add (i*2))=some (.int .i64 e)∧w.cell? ⟨(ad.add (i*2)).block,(ad.add (i*2)).off+1,none⟩=some (.int .i64 p)∧PcOk e p
theorem tkOf_all(p:Int)(L:List Rn)(i:Nat):tkOf p (L.take i)≤ticks L:=by
 have h1:=tkOf_le p (L.take i);have h2:=take_ticks L i;omega
theorem ticks_any(A:Option Addr)(n cap:Nat)(L:List Rn)(p:Int)(w:World)(h:RdR w w.heap.size A n L)(hc:n≤cap)(hn:n≤1048576)(ht:ticks L≤1099511627776):
  Calls Tryz.prog 138 #[.slice A n cap,.int .i64 p] w (Ans (.int .i64 (tkOf p L:Nat)) w):=by
 go_enter Tryz.func138,Tryz.ntmps138;go_wp2_with fail;go_loopw [5,10] (fun q s wr=>∃(i m:Nat),i≤n∧s=.int .i64 i∧q=.int .i64 m∧m=tkOf p (L.take i)∧Below w.heap.size w wr) (fun _ s _=>n - (intOf s).toNat)
 case atStart=>exact⟨0,0,by omega,rfl,rfl,by simp[tkOf],Below.refl _ _⟩
 obtain⟨i,m,hi,rfl,rfl,hm,hb⟩:=hrel;have hmt:=tkOf_all p L i;rw[← hm] at hmt;by_cases hlt:i < n
 ·obtain⟨ad,r,rfl,had,hr,c0,c1⟩:=(h.on hb).at_ hlt;have hmore:=tkOf_more (p:=p) hr;have hall:=tkOf_all p L (i+1);rw[hmore,← hm] at hall;rw[← hm] at hmore;have hbl:=bl1 wr (.cells #[.int .i64 r.p,.int .i64 (r.n:Int)] 114);have HB:=hid (hb.trans (hbl.mono hb.size));by_cases hp:r.p=p
  ·rw[if_pos hp] at hall hmore;have hpb:(r.p == p)=true:=beq_iff_eq.2 hp;have HM:=hid hmore;clear hp hmore hm hbl hr;go_wp2_with fail;refine(more_any (m:Int) (r.n:Int) _ _ _ (by omega) (by omega) (by omega) rfl rfl).mono ?_;rintro e w1⟨rfl,rfl⟩;go_wp2_with fail;go_roundw
   case rel=>exact⟨i+1,m+r.n,by omega,by go_num,by go_num,HM.out.symm,HB.out⟩
   simp[intOf];omega
  rw[if_neg hp] at hall hmore;have hpb:(r.p == p)=false:=beq_eq_false_iff_ne.2 hp;have HM:=hid hmore;clear hp hmore hm hbl hr;go_wp2_with fail;go_roundw
  case rel=>exact⟨i+1,m,by omega,by go_num,rfl,HM.out.symm,HB.out⟩
  simp[intOf];omega
 have hge:n≤i:=by omega
 have e:m=tkOf p L:=by rw[hm,List.take_of_length_le (by rw[h.len];exact hge)]
 have HE:=hid e;clear e hm;go_wp2_with fail;go_ret;exact Ans.mk (by rw[HE.out];rfl) hb
theorem length_any(A:Option Addr)(n cap:Nat)(L:List Rn)(w:World)(h:RdR w w.heap.size A n L)(hc:n≤cap)(hn:n≤1048576)(ht:ticks L≤1099511627776):
  Calls Tryz.prog 127 #[.slice A n cap] w (Ans (.int .i64 (ticks L:Nat)) w):=by
 go_enter Tryz.func127,Tryz.ntmps127;go_wp2_with fail;go_loopw [3,8] (fun q s wr=>∃(i m:Nat),i≤n∧s=.int .i64 i∧q=.int .i64 m∧m=ticks (L.take i)∧Below w.heap.size w wr) (fun _ s _=>n - (intOf s).toNat)
 case atStart=>exact⟨0,0,by omega,rfl,rfl,by simp[ticks],Below.refl _ _⟩
 obtain⟨i,m,hi,rfl,rfl,hm,hb⟩:=hrel;have hmt:=take_ticks L i;rw[← hm] at hmt;by_cases hlt:i < n
 ·obtain⟨ad,r,rfl,had,hr,c0,c1⟩:=(h.on hb).at_ hlt;have hmore:=take_more hr;have hall:=take_ticks L (i+1);rw[hmore,← hm] at hall;rw[← hm] at hmore;have hbl:=bl1 wr (.cells #[.int .i64 r.p,.int .i64 (r.n:Int)] 114);have HB:=hid (hb.trans (hbl.mono hb.size));have HM:=hid hmore;clear hmore hm hbl hr;go_wp2_with fail;refine(more_any (m:Int) (r.n:Int) _ _ _ (by omega) (by omega) (by omega) rfl rfl).mono ?_;rintro e w1⟨rfl,rfl⟩;go_wp2_with fail;go_roundw
  case rel=>exact⟨i+1,m+r.n,by omega,by go_num,by go_num,HM.out.symm,HB.out⟩
  simp[intOf];omega
 have hge:n≤i:=by omega
 have e:m=ticks L:=by rw[hm,List.take_of_length_le (by rw[h.len];exact hge)]
 have HE:=hid e;clear e hm;go_wp2_with fail;go_ret;exact Ans.mk (by rw[HE.out];rfl) hb
end Go.Proofs.YtdkngfdnfekgfaaGreat
