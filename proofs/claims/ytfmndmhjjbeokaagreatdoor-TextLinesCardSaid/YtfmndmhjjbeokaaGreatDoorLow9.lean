import Derived.Test.YtfmndmhjjbeokaaGreatDoorLow8
import Derived.Test.YtfmndmhjjbeokaaGreatDoorLow3
import Derived.Test.YtfmndmhjjbeokaaGreatDoorLow5
import Derived.Orders
import Derived.RegionTactic
import Derived.Below
namespace Go.Proofs.YtfmndmhjjbeokaaGreatDoor
namespace Tab
inductive Rch (S:Nat→List Nat) (F:List Nat):Nat→Prop
 | base {a:Nat}:a∈F→Rch S F a
 | step {a b:Nat}:Rch S F b→a∈S b→Rch S F a
theorem Rch.from {S:Nat→List Nat} {F G:List Nat} (h:∀ a∈F,Rch S G a) {a:Nat} (ha:Rch S F a):Rch S G a:=by
 induction ha with
 | base h1=>exact h _ h1
 | step _ h2 ih=>exact .step ih h2
def put1 {α:Type} (f:Nat→α) (i:Nat) (v:α):Nat→α:=fun j=>if j=i then v else f j
theorem put1_same {α:Type} (f:Nat→α) (i:Nat) (v:α):put1 f i v i=v:=if_pos rfl
theorem put1_other {α:Type} {f:Nat→α} {i j:Nat} {v:α} (h:j≠i):put1 f i v j=f j:=if_neg h
def un:Nat→(Nat→Bool)→Nat
 | 0,_=>0
 | n+1,M=>un n M+if M n=true then 0 else 1
structure Cov (n:Nat) (S:Nat→List Nat) (F:List Nat) (M:Nat→Bool) (T:List (List Nat)):Prop where
 first:∀ x∈F,M x=true∨∃ L∈T,x∈L
 next:∀ b,b < n→M b=true→∀ y∈S b,M y=true∨∃ L∈T,y∈L
 snd:∀ a,M a=true→Rch S F a
 todo:∀ L∈T,∀ x∈L,x < n∧Rch S F x
section
variable {n:Nat} {S:Nat→List Nat} {F:List Nat} {M:Nat→Bool} {T:List (List Nat)}
theorem Cov.start (hF:∀ x∈F,x < n):Cov n S F (fun _=>false) [F] :=
 ⟨fun x hx=>.inr ⟨F,by simp,hx⟩,fun b _ h=>by simp at h,fun a h=>by simp at h,fun L hL x hx=>by simp at hL;subst hL;exact ⟨hF x hx,.base hx⟩⟩
theorem Cov.pop {L:List Nat} (h:Cov n S F M (T++[L])):Cov n S F M (L::T):=by
 have e:∀ K:List Nat,K∈T++[L]↔K∈L::T:=fun K=>by simp [or_comm]
 refine ⟨fun x hx=>(h.first x hx).imp id fun ⟨K,hK,h2⟩=>⟨K,(e K).1 hK,h2⟩,fun b hb hm y hy=>(h.next b hb hm y hy).imp id fun ⟨K,hK,h2⟩=>⟨K,(e K).1 hK,h2⟩,h.snd,fun K hK=>h.todo K ((e K).2 hK)⟩
theorem Cov.drop (h:Cov n S F M ([]::T)):Cov n S F M T:=by
 refine ⟨fun x hx=>(h.first x hx).imp id ?_,fun b hb hm y hy=>(h.next b hb hm y hy).imp id ?_,h.snd,fun K hK=>h.todo K (by simp [hK])⟩
 all_goals
  rintro ⟨K,hK,h2⟩
  rcases List.mem_cons.1 hK with e | hK
  ·subst e;cases h2
  ·exact ⟨K,hK,h2⟩
theorem Cov.skip {x:Nat} {L:List Nat} (h:Cov n S F M ((x::L)::T)) (hx:M x=true):Cov n S F M (L::T):=by
 have key:∀ y,(M y=true∨∃ K∈(x::L)::T,y∈K)→(M y=true∨∃ K∈L::T,y∈K):=by
  rintro y (h1 | ⟨K,hK,h2⟩)
  ·exact .inl h1
  ·rcases List.mem_cons.1 hK with e | hK
   ·subst e
    rcases List.mem_cons.1 h2 with e | h2
    ·subst e;exact .inl hx
    ·exact .inr ⟨L,by simp,h2⟩
   ·exact .inr ⟨K,by simp [hK],h2⟩
 refine ⟨fun y hy=>key y (h.first y hy),fun b hb hm y hy=>key y (h.next b hb hm y hy),h.snd,fun K hK y hy=>?_⟩
 rcases List.mem_cons.1 hK with e | hK
 ·subst e;exact h.todo _ List.mem_cons_self y (List.mem_cons_of_mem _ hy)
 ·exact h.todo K (by simp [hK]) y hy
theorem Cov.done (h:Cov n S F M []) (hF:∀ x∈F,x < n) (hS:∀ b,b < n→∀ y∈S b,y < n) (a:Nat):M a=true↔Rch S F a:=by
 refine ⟨h.snd a,fun ha=>?_⟩
 have key:M a=true∧a < n:=by
  induction ha with
  | base h1 =>
   rcases h.first _ h1 with h2 | ⟨K,hK,_⟩
   ·exact ⟨h2,hF _ h1⟩
   ·cases hK
  | step _ h2 ih =>
   rcases h.next _ ih.2 ih.1 _ h2 with h3 | ⟨K,hK,_⟩
   ·exact ⟨h3,hS _ ih.2 _ h2⟩
   ·cases hK
 exact key.1
end
end Tab
end Go.Proofs.YtfmndmhjjbeokaaGreatDoor
namespace Go.Proofs.YtfmndmhjjbeokaaGreatDoor
open Go.RowKit Tab
set_option linter.unusedSimpArgs false
set_option linter.unusedVariables false
structure Vec (w:World) (g n:Nat) (f:Nat→Value):Prop where
 cell:∀ j,j < n→w.cell? ⟨g,j,none⟩=some (f j)
 thaw:∀ j,w.frozen? ⟨g,j,none⟩=false
 lt:g < w.heap.size
section
variable {w w':World} {g n B:Nat} {f f':Nat→Value}
theorem Vec.keep (h:Vec w g n f) (hk:w'.heap[g]? = w.heap[g]?) (hs:w.heap.size≤w'.heap.size):Vec w' g n f :=
 ⟨fun j hj=>(World.cell?_of_block hk).trans (h.cell j hj),fun j=>(World.frozen?_of_block hk).trans (h.thaw j),Nat.lt_of_lt_of_le h.lt hs⟩
theorem Vec.below (h:Vec w g n f) (hb:Below B w w') (hg:g < B):Vec w' g n f:=h.keep (hb.block g hg) hb.size
theorem Vec.on (h:Vec w g n f) (hb:Below w.heap.size w w'):Vec w' g n f:=h.below hb h.lt
theorem Vec.congr (h:Vec w g n f) (e:∀ j,j < n→f j=f' j):Vec w g n f':=⟨fun j hj=>by rw [← e j hj];exact h.cell j hj,h.thaw,h.lt⟩
theorem Vec.set (h:Vec w g n f) (i:Nat) (v:Value):Vec (w.setCell ⟨g,i,none⟩ v) g n (put1 f i v):=by
 refine ⟨fun j hj=>?_,fun j=>by simpa using h.thaw j,by simpa using h.lt⟩
 by_cases e:j=i
 ·subst e
  rw [put1_same]
  exact World.cell?_setCell_same _ _ _ (h.cell j hj)
 ·rw [put1_other e,World.cell?_setCell_other _ _ _ _ (by intro e2;injection e2 with _ e3;omega)]
  exact h.cell j hj
theorem Vec.other (h:Vec w g n f) (p:Addr) (v:Value) (hp:g≠p.block):Vec (w.setCell p v) g n f :=
 h.keep (Below.heap_setCell w p v g hp) (by simp)
theorem Vec.drewN (h:Vec w g n f) (q:Nat):Vec (w.drewN q) g n f:=⟨h.cell,h.thaw,h.lt⟩
theorem Vec.lit (w:World) (C:Array Value) (t:TypeId) (n:Nat) (f:Nat→Value) (h:∀ j,j < n→C[j]? = some (f j)):Vec (w.alloc (.cells C t)) w.heap.size n f :=
 ⟨fun j hj=>(World.cell?_alloc_mark _ _ _ _ _).trans (h j hj),fun j=>by simp,by simp⟩
theorem Vec.rdc (h:Vec w g n f):RdC w w.heap.size (some ⟨g,0,none⟩) n f:=fun _=>⟨_,rfl,h.lt,fun j hj=>by
 have e:(⟨g,0,none⟩:Addr).add j=⟨g,j,none⟩:=by unfold Addr.add;split <;> simp_all
 rw [e];exact h.cell j hj⟩
end
theorem made_get (z:Value) (n j:Nat) (h:j < n):(madeCells #[z] n)[j]? = some z:=by
 rw [← Array.getElem?_toList,toList_madeCells_one]
 simp [h]
structure Mat (w:World) (B g n k:Nat) (G:Nat→Nat) (m:Nat→Nat→Bool):Prop where
 outer:∃ f,Vec w g n f∧∀ i,i < k→f i=.slice (some ⟨G i,0,none⟩) n n
 rows:∀ i,i < k→Vec w (G i) n fun j=>.bool (m i j)
 low:B≤g
 ge:∀ i,i < k→B≤G i
 ne:∀ i,i < k→G i≠g
 inj:∀ i j,i < k→j < k→G i=G j→i=j
def put2 (m:Nat→Nat→Bool) (i j:Nat) (v:Bool):Nat→Nat→Bool:=fun a b=>if a=i∧b=j then v else m a b
section
variable {w w':World} {g n k B:Nat} {G:Nat→Nat} {m m':Nat→Nat→Bool}
theorem Mat.on (h:Mat w B g n k G m) (hb:Below w.heap.size w w'):Mat w' B g n k G m:=by
 obtain ⟨f,h1,h2⟩:=h.outer
 exact ⟨⟨f,h1.on hb,h2⟩,fun i hi=>(h.rows i hi).on hb,h.low,h.ge,h.ne,h.inj⟩
theorem Mat.drewN (h:Mat w B g n k G m) (q:Nat):Mat (w.drewN q) B g n k G m:=h.on (by
 exact ⟨rfl,rfl,rfl,Nat.le_refl _,fun _ _=>rfl⟩)
theorem Mat.congr (h:Mat w B g n k G m) (e:∀ i j,i < k→j < n→m i j=m' i j):Mat w B g n k G m' :=
 ⟨h.outer,fun i hi=>(h.rows i hi).congr fun j hj=>by rw [e i j hi hj],h.low,h.ge,h.ne,h.inj⟩
theorem Mat.start (w:World) (B n:Nat) (hB:B≤w.heap.size) (t:TypeId) (m:Nat→Nat→Bool) (G:Nat→Nat):Mat (w.alloc (.cells (madeCells #[.slice none 0 0] n) t)) B w.heap.size n 0 G m :=
 ⟨⟨fun _=>.slice none 0 0,Vec.lit w _ t n _ fun j hj=>made_get _ n j hj,fun i hi=>by omega⟩,fun i hi=>by omega,hB,fun i hi=>by omega,fun i hi=>by omega,fun i j hi=>by omega⟩
theorem Mat.push (h:Mat w B g n k G m) {x:Nat} {b:Nat→Bool} (hx:Vec w x n fun j=>.bool (b j)) (hB:B≤x) (hg:x≠g) (hG:∀ i,i < k→G i≠x) (hk:k < n) :
  Mat (w.setCell ⟨g,k,none⟩ (.slice (some ⟨x,0,none⟩) n n)) B g n (k+1) (put1 G k x) (fun i j=>if i=k then b j else m i j):=by
 obtain ⟨f,h1,h2⟩:=h.outer
 have hlt:∀ i,i < k+1→i≠k→i < k:=fun i _ _=>by omega
 refine ⟨⟨_,h1.set k _,fun i hi=>?_⟩,fun i hi=>?_,h.low,fun i hi=>?_,fun i hi=>?_,fun i j hi hj e=>?_⟩
 ·by_cases e:i=k
  ·subst e;rw [put1_same,put1_same]
  ·rw [put1_other e,put1_other e];exact h2 i (hlt i hi e)
 ·by_cases e:i=k
  ·subst e
   simp only [put1_same,if_true]
   exact hx.other _ _ hg
  ·rw [put1_other e]
   simp only [e,if_false]
   exact (h.rows i (hlt i hi e)).other _ _ (h.ne i (hlt i hi e))
 ·by_cases e:i=k
  ·subst e;rw [put1_same];exact hB
  ·rw [put1_other e];exact h.ge i (hlt i hi e)
 ·by_cases e:i=k
  ·subst e;rw [put1_same];exact hg
  ·rw [put1_other e];exact h.ne i (hlt i hi e)
 ·by_cases e1:i=k
  ·by_cases e2:j=k
   ·omega
   ·subst e1
    rw [put1_same,put1_other e2] at e
    exact absurd e.symm (hG j (hlt j hj e2))
  ·by_cases e2:j=k
   ·subst e2
    rw [put1_same,put1_other e1] at e
    exact absurd e (hG i (hlt i hi e1))
   ·rw [put1_other e1,put1_other e2] at e
    exact h.inj i j (hlt i hi e1) (hlt j hj e2) e
theorem Mat.at_ (h:Mat w B g n k G m) {i j:Nat} (hi:i < k) (hk:k≤n) (hj:j < n):∃ x,G i=x∧x≠g∧B≤x∧g < w.heap.size∧x < w.heap.size∧w.cell? ⟨g,i,none⟩=some (.slice (some ⟨x,0,none⟩) n n)∧w.cell? ⟨x,j,none⟩=some (.bool (m i j))∧w.frozen? ⟨x,j,none⟩=false ∧
  ∀ v,Mat (w.setCell ⟨x,j,none⟩ (.bool v)) B g n k G (put2 m i j v)∧∀ V,Below B V w→Below B V (w.setCell ⟨x,j,none⟩ (.bool v)):=by
 obtain ⟨f,h1,h2⟩:=h.outer
 refine ⟨G i,rfl,h.ne i hi,h.ge i hi,h1.lt,(h.rows i hi).lt,(h1.cell i (by omega)).trans (by rw [h2 i hi]),(h.rows i hi).cell j hj,(h.rows i hi).thaw j,fun v=>⟨⟨⟨f,h1.other _ _ (h.ne i hi).symm,h2⟩,fun a ha=>?_,h.low,h.ge,h.ne,h.inj⟩,fun V hV=>hV.setCell (p:=⟨G i,j,none⟩) (h.ge i hi) _⟩⟩
 by_cases e:a=i
 ·subst e
  refine ((h.rows a ha).set j (.bool v)).congr fun b _=>?_
  unfold put1 put2
  by_cases e2:b=j <;> simp [e2]
 ·refine ((h.rows a ha).other _ _ fun e2=>e (h.inj a i ha hi e2)).congr fun b _=>?_
  unfold put2
  simp [e]
theorem Mat.row (h:Mat w B g n k G m) {i:Nat} (hi:i < k) (hk:k≤n):∃ x,G i=x∧x≠g∧w.cell? ⟨g,i,none⟩=some (.slice (some ⟨x,0,none⟩) n n)∧Vec w x n fun j=>.bool (m i j):=by
 obtain ⟨f,h1,h2⟩:=h.outer
 exact ⟨G i,rfl,h.ne i hi,(h1.cell i (by omega)).trans (by rw [h2 i hi]),h.rows i hi⟩
end
def RdM (w:World) (B:Nat) (A:Option Addr) (n:Nat) (l:Nat→Nat) (m:Nat→Nat→Bool):Prop :=
 ∃ R:Nat→Option Addr×Nat,RdC w B A n (fun i=>.slice (R i).1 (l i) (R i).2)∧∀ i,i < n→l i≤(R i).2∧RdC w B (R i).1 (l i) fun j=>.bool (m i j)
section
variable {w w':World} {n B B':Nat} {A:Option Addr} {l:Nat→Nat} {m m':Nat→Nat→Bool}
theorem RdM.below (h:RdM w B A n l m) (hb:Below B w w'):RdM w' B A n l m:=by
 obtain ⟨R,h1,h2⟩:=h
 exact ⟨R,h1.below hb,fun i hi=>⟨(h2 i hi).1,(h2 i hi).2.below hb⟩⟩
theorem RdM.more (h:RdM w B A n l m) (hB:B≤B'):RdM w B' A n l m:=by
 obtain ⟨R,h1,h2⟩:=h
 exact ⟨R,h1.more hB,fun i hi=>⟨(h2 i hi).1,(h2 i hi).2.more hB⟩⟩
theorem RdM.on (h:RdM w w.heap.size A n l m) (hb:Below w.heap.size w w'):RdM w' w'.heap.size A n l m:=(h.below hb).more hb.size
theorem RdM.drewN (h:RdM w B A n l m) (q:Nat):RdM (w.drewN q) B A n l m:=h
theorem RdC.congr {f f':Nat→Value} (h:RdC w B A n f) (e:∀ j,j < n→f j=f' j):RdC w B A n f':=fun hn=>by
 obtain ⟨ad,h1,h2,h3⟩:=h hn
 exact ⟨ad,h1,h2,fun j hj=>by rw [← e j hj];exact h3 j hj⟩
theorem RdM.congr (h:RdM w B A n l m) (e:∀ i j,i < n→j < l i→m i j=m' i j):RdM w B A n l m':=by
 obtain ⟨R,h1,h2⟩:=h
 exact ⟨R,h1,fun i hi=>⟨(h2 i hi).1,(h2 i hi).2.congr fun j hj=>by rw [e i j hi hj]⟩⟩
theorem RdM.at_ (h:RdM w B A n l m) {i:Nat} (hi:i < n):∃ ad R c,A=some ad∧ad.block < B∧w.cell? (ad.add i)=some (.slice R (l i) c)∧l i≤c∧RdC w B R (l i) fun j=>.bool (m i j):=by
 obtain ⟨R,h1,h2⟩:=h
 obtain ⟨ad,e,hb,hc⟩:=h1.at_ hi
 exact ⟨ad,_,_,e,hb,hc,(h2 i hi).1,(h2 i hi).2⟩
theorem RdM.front (h:RdM w B A n l m) (k:Nat) (hk:k≤n):RdM w B A k l m:=by
 obtain ⟨R,h1,h2⟩:=h
 refine ⟨R,fun h0=>?_,fun i hi=>h2 i (by omega)⟩
 obtain ⟨ad,e,hb,hc⟩:=h1 (by omega)
 exact ⟨ad,e,hb,fun j hj=>hc j (by omega)⟩
theorem RdM.none (w:World) (B:Nat) (l:Nat→Nat) (m:Nat→Nat→Bool):RdM w B .none 0 l m:=⟨fun _=>(.none,0),fun h=>by omega,fun i hi=>by omega⟩
theorem Mat.rdm {g:Nat} {G:Nat→Nat} (h:Mat w B g n n G m):RdM w w.heap.size (some ⟨g,0,.none⟩) n (fun _=>n) m:=by
 obtain ⟨f,h1,h2⟩:=h.outer
 exact ⟨fun i=>(some ⟨G i,0,.none⟩,n),(h1.congr h2).rdc,fun i hi=>⟨Nat.le_refl _,(h.rows i hi).rdc⟩⟩
end
def MadM (n:Nat) (m:Nat→Nat→Bool) (w:World) (e:Ending) (w':World):Prop:=∃ A c,e=.returned (.slice A n c)∧n≤c∧RdM w' w'.heap.size A n (fun _=>n) m∧Below w.heap.size w w'
def MadG (n:Nat) (m:Nat→Nat→Bool) (w:World) (e:Ending) (w':World):Prop:=∃ g G,e=.returned (.slice (some ⟨g,0,none⟩) n n)∧Mat w' w.heap.size g n n G m∧Below w.heap.size w w'
theorem MadG.m {n:Nat} {m:Nat→Nat→Bool} {w w':World} {e:Ending} (h:MadG n m w e w'):MadM n m w e w':=by
 obtain ⟨g,G,rfl,h1,h2⟩:=h
 exact ⟨_,_,rfl,Nat.le_refl _,h1.rdm,h2⟩
def RdS (w:World) (B:Nat) (A:Option Addr) (n:Nat) (S:Nat→List Nat):Prop :=
 ∃ R:Nat→Option Addr×Nat,RdC w B A n (fun i=>.slice (R i).1 (S i).length (R i).2)∧∀ i,i < n→(S i).length≤(R i).2∧RdI w B (R i).1 (S i).length ((S i).map fun x:Nat=>(x:Int))
section
variable {w w':World} {n B B':Nat} {A:Option Addr} {S:Nat→List Nat}
theorem RdS.below (h:RdS w B A n S) (hb:Below B w w'):RdS w' B A n S:=by
 obtain ⟨R,h1,h2⟩:=h
 exact ⟨R,h1.below hb,fun i hi=>⟨(h2 i hi).1,(h2 i hi).2.below hb⟩⟩
theorem RdS.more (h:RdS w B A n S) (hB:B≤B'):RdS w B' A n S:=by
 obtain ⟨R,h1,h2⟩:=h
 exact ⟨R,h1.more hB,fun i hi=>⟨(h2 i hi).1,(h2 i hi).2.more hB⟩⟩
theorem RdS.on (h:RdS w w.heap.size A n S) (hb:Below w.heap.size w w'):RdS w' w'.heap.size A n S:=(h.below hb).more hb.size
theorem RdS.at_ (h:RdS w B A n S) {i:Nat} (hi:i < n):∃ ad R c,A=some ad∧ad.block < B∧w.cell? (ad.add i)=some (.slice R (S i).length c)∧(S i).length≤c∧RdI w B R (S i).length ((S i).map fun x:Nat=>(x:Int)):=by
 obtain ⟨R,h1,h2⟩:=h
 obtain ⟨ad,e,hb,hc⟩:=h1.at_ hi
 exact ⟨ad,_,_,e,hb,hc,(h2 i hi).1,(h2 i hi).2⟩
end
end Go.Proofs.YtfmndmhjjbeokaaGreatDoor
namespace Go.Proofs.YtfmndmhjjbeokaaGreatDoor
open Go Go.RowKit
namespace Reg
set_option linter.unusedSimpArgs false
def dstN (ops:Array Oper) (j:Nat):Tmp:=((ops[j]?).bind (·.dst)).getD 0
def waits (o:Oper) (j:Nat):Bool:=o.after.toList.any fun e=>e.on == j && Region.binds .any e
def writes (ops:Array Oper) (t:Tmp):Bool:=ops.toList.any fun o=>o.dst == some t
def good (ops:Array Oper) (n:Nat):Bool :=
 (List.range ops.size).all fun i=>match ops[i]? with
  | some o=>(match o.dst with
    | some d=>decide (d < n) && (List.range ops.size).all fun j=>j == i || (match ops[j]? with | some p=>!(p.dst == some d) | none=>true)
    | none=>false) && o.after.toList.all fun e=>decide (e.on < i)
  | none=>false
theorem good_at {ops:Array Oper} {n:Nat} (h:good ops n=true) {i:Nat} {o:Oper} (hi:ops[i]? = some o) :
  ∃ d,o.dst=some d∧d < n∧(∀ j p,ops[j]? = some p→j≠i→p.dst≠some d)∧∀ e∈o.after,e.on < i:=by
 have hlt:i < ops.size:=(Array.getElem?_eq_some_iff.1 hi).1
 have h1:=List.all_eq_true.1 h i (List.mem_range.2 hlt)
 rw [hi] at h1
 simp only [Bool.and_eq_true] at h1
 obtain ⟨h2,h3⟩:=h1
 cases hd:o.dst with
 | none=>rw [hd] at h2;cases h2
 | some d =>
  rw [hd] at h2
  simp only [Bool.and_eq_true,decide_eq_true_iff] at h2
  refine ⟨d,rfl,h2.1,fun j p hj hne=>?_,fun e he=>?_⟩
  ·have hjl:j < ops.size:=(Array.getElem?_eq_some_iff.1 hj).1
   have h4:=List.all_eq_true.1 h2.2 j (List.mem_range.2 hjl)
   rw [hj] at h4
   simp only [Bool.or_eq_true,beq_iff_eq,Bool.not_eq_true',beq_eq_false_iff_ne] at h4
   exact h4.resolve_left hne
  ·have:=List.all_eq_true.1 h3 e (Array.mem_toList_iff.2 he)
   simpa using this
theorem dst_of {ops:Array Oper} {i:Nat} {o:Oper} {d:Tmp} (hi:ops[i]? = some o) (hd:o.dst=some d):dstN ops i=d:=by
 simp [dstN,hi,hd]
def Closed (ops:Array Oper) (live:Nat→Bool):Prop:=∀ j p,ops[j]? = some p→live j=true→∀ k,waits p k=true→live k=true
structure Inv (ops:Array Oper) (a0:Act) (V:Nat→Value→World→Prop) (W:World→Prop) (listed:Array Bool) (a:Act) (w:World):Prop where
 size:a.tmps.size=a0.tmps.size
 defers:a.defers=a0.defers
 env:∀ t,writes ops t=false→a.eval (.tmp t)=a0.eval (.tmp t)
 val:∀ j,j < ops.size→listed.getD j false=true→V j (a.eval (.tmp (dstN ops j))) w
 world:W w
 closed:Closed ops fun j=>listed.getD j false
theorem eval_same (a:Act) (d:Tmp) (v:Value) (h:d < a.tmps.size):(a.put (some d) v).eval (.tmp d)=v:=by
 simp [Act.eval,Act.put,h]
theorem eval_other (a:Act) (d t:Tmp) (v:Value) (h:d≠t):(a.put (some d) v).eval (.tmp t)=a.eval (.tmp t):=by
 simp [Act.eval,Act.put,Array.getElem?_setIfInBounds_ne h]
def Owes (live:Nat→Bool) (V:Nat→Value→World→Prop) (W:World→Prop) (i:Nat) (o:Oper) (a:Act) (w:World) (a':Act) (w':World):Prop :=
 ∃ v,a'=a.put o.dst v∧V i v w'∧W w'∧∀ j v,live j=true→V j v w→V j v w'
theorem Inv.step {ops:Array Oper} {a0:Act} {V:Nat→Value→World→Prop} {W:World→Prop} {listed:Array Bool} {a a':Act} {w w':World} (hg:good ops a0.tmps.size=true)
  {i:Nat} {o:Oper} (hi:ops[i]? = some o) (h:Inv ops a0 V W listed a w) (hr:∀ k,waits o k=true→listed.getD k false=true) (hs:Owes (fun j=>listed.getD j false) V W i o a w a' w'):Inv ops a0 V W (listed.setIfInBounds i true) a' w':=by
 obtain ⟨v,rfl,hv,hw,hm⟩:=hs
 obtain ⟨d,hd,hdn,hdist,_⟩:=good_at hg hi
 have hsz:d < a.tmps.size:=by rw [h.size];exact hdn
 rw [hd]
 refine ⟨by simp [Act.put,h.size],by simp [Act.put,h.defers],fun t ht=>?_,fun j hj hl=>?_,hw,fun j p hj hl k hk=>?_⟩
 ·have hne:d≠t:=by
   rintro rfl
   have:writes ops d=true:=List.any_eq_true.2 ⟨o,Array.mem_toList_iff.2 (Array.mem_of_getElem? hi),by simp [hd]⟩
   rw [this] at ht;cases ht
  rw [eval_other _ _ _ _ hne];exact h.env t ht
 ·by_cases hji:j=i
  ·subst hji
   rw [dst_of hi hd,eval_same _ _ _ hsz];exact hv
  ·obtain ⟨p,hp⟩:∃ p,ops[j]? = some p:=⟨_,Array.getElem?_eq_getElem hj⟩
   obtain ⟨e,he,_⟩:=good_at hg hp
   have hne:d≠dstN ops j:=by
    rw [dst_of hp he]
    rintro rfl
    exact hdist j p hp hji he
   rw [eval_other _ _ _ _ hne]
   rw [getD_set_ne false (Ne.symm hji)] at hl
   exact hm j _ hl (h.val j hj hl)
 ·by_cases hji:j=i
  ·subst hji
   rw [hi] at hj
   injection hj with hj
   subst hj
   exact getD_set_true (hr k hk)
  ·have hl':(listed.setIfInBounds i true).getD j false=true:=hl
   rw [getD_set_ne false (Ne.symm hji)] at hl'
   exact getD_set_true (h.closed j p hj hl' k hk)
def left (listed:Array Bool):Nat:=listed.toList.countP (· == false)
theorem left_set {listed:Array Bool} {i:Nat} (h:listed.getD i true=false):left (listed.setIfInBounds i true)+1=left listed:=by
 have hlt:i < listed.size:=by
  rcases Nat.lt_or_ge i listed.size with h' | h'
  ·exact h'
  ·simp [Array.getElem?_eq_none h'] at h
 have hi:listed.toList[i]'(by simpa using hlt)=false:=by
  simpa [hlt] using h
 unfold left
 rw [Array.toList_setIfInBounds,List.countP_set (by simpa using hlt),hi]
 have:0 < listed.toList.countP (· == false):=List.countP_pos_iff.2 ⟨false,by rw [← hi];exact List.getElem_mem _,rfl⟩
 rw [if_pos (by decide),if_neg (by decide)]
 omega
theorem all_listed {ops:Array Oper} {n:Nat} (hg:good ops n=true) {listed:Array Bool} (hs:listed.size=ops.size) (hr:Region.ready .any ops listed=[]) :
  ∀ j,j < ops.size→listed.getD j false=true:=by
 intro j
 induction j using Nat.strongRecOn with
 | ind j ih =>
  intro hj
  have hjl:j < listed.size:=by omega
  cases hb:listed.getD j false with
  | true=>rfl
  | false =>
   have hb':listed.getD j true=false:=by
    simpa [hjl] using hb
   obtain ⟨o,ho⟩:∃ o,ops[j]? = some o:=⟨_,Array.getElem?_eq_getElem hj⟩
   obtain ⟨_,_,_,_,hacy⟩:=good_at hg ho
   have:j∈Region.ready .any ops listed:=mem_ready.2 ⟨hb',o,ho,fun e he _=>ih e.on (hacy e he) (by have:=hacy e he;omega)⟩
   rw [hr] at this;cases this
def Goal (P:Program) (ops:Array Oper) (Q:Exit→Act→World→Prop) (V:Nat→Value→World→Prop) (W:World→Prop) (i:Nat) (o:Oper) (a:Act) (w:World):Prop :=
 ∀ live:Nat→Bool,Closed ops live→live i=false→wpOp P ops Q i (Owes live V W i o a w) a w
def Steps (P:Program) (ops:Array Oper) (Q:Exit→Act→World→Prop) (a0:Act) (V:Nat→Value→World→Prop) (W:World→Prop):Prop :=
 ∀ i o,ops[i]? = some o→∀ (a:Act) (w:World),(∀ t,writes ops t=false→a.eval (.tmp t)=a0.eval (.tmp t)) →
  (∀ j,waits o j=true→V j (a.eval (.tmp (dstN ops j))) w)→W w→Goal P ops Q V W i o a w
theorem any_of {P:Program} {ops:Array Oper} {Q:Exit→Act→World→Prop} {a0:Act} {V:Nat→Value→World→Prop} {W:World→Prop} (hg:good ops a0.tmps.size=true) (hst:Steps P ops Q a0 V W)
  (hend:∀ listed a w,Inv ops a0 V W listed a w→(∀ j,j < ops.size→listed.getD j false=true)→Q .normal a w) :
  ∀ (fuel:Nat) (listed:Array Bool) (a:Act) (w:World),listed.size=ops.size→left listed≤fuel→Inv ops a0 V W listed a w→wpAny P .any ops Q fuel listed a w:=by
 intro fuel
 induction fuel with
 | zero =>
  intro listed a w hs hl h
  have hr:Region.ready .any ops listed=[]:=by
   cases hc:Region.ready .any ops listed with
   | nil=>rfl
   | cons i r =>
    have hi:i∈Region.ready .any ops listed:=by rw [hc];exact List.mem_cons_self
    have:=left_set (mem_ready.1 hi).1
    omega
  exact ⟨hr,hend listed a w h (all_listed hg hs hr)⟩
 | succ fuel ih =>
  intro listed a w hs hl h
  refine ⟨fun hr=>hend listed a w h (all_listed hg hs hr),fun i hi=>?_⟩
  obtain ⟨h0,o,ho,hall⟩:=mem_ready.1 hi
  have hi':i < ops.size:=(Array.getElem?_eq_some_iff.1 ho).1
  have hwait:∀ k,waits o k=true→k < i∧listed.getD k false=true:=fun k hk=>by
   obtain ⟨e,he,heq⟩:=List.any_eq_true.1 hk
   have he:=Array.mem_toList_iff.1 he
   simp only [Bool.and_eq_true,beq_iff_eq] at heq
   obtain ⟨rfl,hb⟩:=heq
   obtain ⟨_,_,_,_,hacy⟩:=good_at hg ho
   exact ⟨hacy e he,hall e he hb⟩
  have hstep:=hst i o ho a w h.env (fun j hj=>h.val j (by have:=(hwait j hj).1;omega) (hwait j hj).2) h.world (fun j=>listed.getD j false) h.closed (by
   have hlt:i < listed.size:=by omega
   simpa [hlt] using h0)
  refine wpOp_mono (fun a' w' hw=>?_) hstep
  refine ih _ a' w' (by simpa using hs) ?_ (h.step hg ho (fun k hk=>(hwait k hk).2) hw)
  have:=left_set h0
  omega
theorem region {P:Program} {id:Nat} {ops:Array Oper} {Q:Exit→Act→World→Prop} {a0:Act} {w0:World} (hm:P.follows .mixedOrders=true) (hg:good ops a0.tmps.size=true) (V:Nat→Value→World→Prop) (W:World→Prop)
  (hW:W w0.drew) (hst:Steps P ops Q a0 V W)
  (hend:∀ a w,a.tmps.size=a0.tmps.size→a.defers=a0.defers→(∀ t,writes ops t=false→a.eval (.tmp t)=a0.eval (.tmp t))→(∀ j,j < ops.size→V j (a.eval (.tmp (dstN ops j))) w)→W w→Q .normal a w) :
  (Code.region id ops true).wp P Q a0 w0:=by
 refine wp_region_any hm ?_
 refine any_of hg hst (fun listed a w h hall=>hend a w h.size h.defers h.env (fun j hj=>h.val j hj (hall j hj)) h.world) ops.size (Array.replicate ops.size false) a0 w0.drew (by simp) ?_ ?_
 ·unfold left
  have:=List.countP_le_length (p:=(· == false)) (l:=(Array.replicate ops.size false).toList)
  simpa using this
 ·refine ⟨rfl,rfl,fun _ _=>rfl,fun j hj hl=>?_,hW,fun j p hj hl k hk=>?_⟩
  ·simp [hj] at hl
  ·have hjl:j < ops.size:=(Array.getElem?_eq_some_iff.1 hj).1
   have hl':(Array.replicate ops.size false).getD j false=true:=hl
   simp [hjl] at hl'
def All (F:Nat→Oper→Prop):Nat→List Oper→Prop
 | _,[]=>True
 | i,o::l=>F i o∧All F (i+1) l
theorem All.get {F:Nat→Oper→Prop} (l:List Oper):∀ (i:Nat),All F i l→∀ j o,l[j]? = some o→F (i+j) o:=by
 induction l with
 | nil=>intro i _ j o hp;simp at hp
 | cons q l ih =>
  intro i h j o hp
  cases j with
  | zero=>simp at hp;subst hp;exact h.1
  | succ j =>
   have:=ih (i+1) h.2 j o (by simpa using hp)
   rwa [Nat.add_assoc,Nat.add_comm 1] at this
theorem steps_of {P:Program} {l:List Oper} {Q:Exit→Act→World→Prop} {a0:Act} {V:Nat→Value→World→Prop} {W:World→Prop}
  (h:All (fun i o=>∀ (a:Act) (w:World),(∀ t,writes l.toArray t=false→a.eval (.tmp t)=a0.eval (.tmp t)) →
   (∀ j,waits o j=true→V j (a.eval (.tmp (dstN l.toArray j))) w)→W w→Goal P l.toArray Q V W i o a w) 0 l):Steps P l.toArray Q a0 V W:=by
 intro i o hi
 have:=All.get l 0 h i o (by simpa using hi)
 rwa [Nat.zero_add] at this
section
variable {P:Program} {ops:Array Oper} {Q:Exit→Act→World→Prop} {V:Nat→Value→World→Prop} {W:World→Prop} {i:Nat} {o:Oper} {a:Act} {w:World}
theorem val (hi:ops[i]? = some o) (hw:Region.wanted o (yielded ops a.tmps)=true) (hW:W w) (v:Value) (hr:(execOp a.eval o).run P w=.ok (.value v) w) (hv:V i v w):Goal P ops Q V W i o a w:=by
 intro live _ _
 unfold wpOp
 rw [hi]
 simp only [hw,if_true]
 refine .inl ?_
 unfold Oper.wp
 rw [hr]
 exact ⟨v,rfl,hv,hW,fun _ _ _ h=>h⟩
theorem growL (hi:ops[i]? = some o) (hw:Region.wanted o (yielded ops a.tmps)=true) (v:Value) (w':World) (hr:(execOp a.eval o).run P w=.ok (.value v) w') (hv:V i v w') (hW:W w')
  (hm:∀ live:Nat→Bool,Closed ops live→live i=false→∀ j v,live j=true→V j v w→V j v w'):Goal P ops Q V W i o a w:=by
 intro live hc h0
 unfold wpOp
 rw [hi]
 simp only [hw,if_true]
 refine .inl ?_
 unfold Oper.wp
 rw [hr]
 exact ⟨v,rfl,hv,hW,hm live hc h0⟩
theorem grow (hi:ops[i]? = some o) (hw:Region.wanted o (yielded ops a.tmps)=true) (v:Value) (w':World) (hr:(execOp a.eval o).run P w=.ok (.value v) w') (hv:V i v w') (hW:W w') (hm:∀ j v,j≠i→V j v w→V j v w'):Goal P ops Q V W i o a w :=
 growL hi hw v w' hr hv hW fun live _ h0 j v hj h=>hm j v (fun e=>by rw [e,h0] at hj;cases hj) h
theorem call (hi:ops[i]? = some o) (hw:Region.wanted o (yielded ops a.tmps)=true) (f:FuncId) (args:Array Value) (hr:(execOp a.eval o).run P w=.ok (.enter f args) w)
  (hc:Calls P f args w fun e w'=>∃ v,e=.returned v∧V i v w'∧W w'∧∀ j v,V j v w→V j v w'):Goal P ops Q V W i o a w:=by
 intro live _ _
 unfold wpOp
 rw [hi]
 simp only [hw,if_true]
 refine .inl ?_
 unfold Oper.wp
 rw [hr]
 refine hc.mono fun e w' he=>?_
 obtain ⟨v,rfl,h1,h2,h3⟩:=he
 exact ⟨v,rfl,h1,h2,fun j v _=>h3 j v⟩
theorem skip (hi:ops[i]? = some o) (hw:Region.wanted o (yielded ops a.tmps)=false) (hW:W w) (hv:V i undef w):Goal P ops Q V W i o a w:=by
 intro live _ _
 unfold wpOp
 rw [hi]
 simp only [hw]
 exact ⟨undef,rfl,hv,hW,fun _ _ _ h=>h⟩
theorem not_live {live:Nat→Bool} (hc:Closed ops live) {k:Nat} (h:live k=false) {j:Nat} {p:Oper} (hj:ops[j]? = some p) (hw:waits p k=true):live j=false:=by
 cases e:live j with
 | false=>rfl
 | true=>rw [hc j p hj e k hw] at h;cases h
theorem wanted_free (h:o.guard=none):Region.wanted o (yielded ops a.tmps)=true:=by simp [Region.wanted,h]
end
theorem consts (a:Act):(∀ v,a.eval (.const v)=v)∧(∀ f,a.eval (.func f)=.func (.func f) #[] #[]):=⟨fun _=>rfl,fun _=>rfl⟩
theorem act_lit (a:Act) (n:Nat) (h:a.tmps.size=n):a=⟨((List.range n).map fun t=>a.eval (.tmp t)).toArray,a.defers⟩:=by
 cases a with
 | mk tmps defers =>
  simp only at h
  congr 1
  apply Array.ext
  ·simp [h]
  ·intro i h1 h2
   simp [Act.eval,h1]
end Reg
end Go.Proofs.YtfmndmhjjbeokaaGreatDoor
