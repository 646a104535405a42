import Derived.Test.YtdkngfdnfekgfaaGreatLot5
set_option linter.unusedSimpArgs false
set_option linter.unusedVariables false
namespace Go.Proofs.YtdkngfdnfekgfaaGreat
namespace Tab
def War(m:Nat→Nat→Bool):Nat→Nat→Nat→Bool
 | 0,a,b=>m a b
 | k+1,a,b=>War m k a b || (War m k a k && War m k k b)
structure Pt where
 sched:Bool
 stop:Bool
structure Ch where
 from_:Int
 to_:Int
 queue:Bool
end Tab
namespace Tab
inductive Rch (S:Nat→List Nat) (F:List Nat):Nat→Prop
 | base {a:Nat}:a∈F→Rch S F a
 | step {a b:Nat}:Rch S F b→a∈S b→Rch S F a
def put1{α:Type}(f:Nat→α)(i:Nat)(v:α):Nat→α:=fun j=>if j=i then v else f j
theorem put1_same{α:Type}(f:Nat→α)(i:Nat)(v:α):put1 f i v i=v:=if_pos rfl
theorem put1_other{α:Type}{f:Nat→α}{i j:Nat}{v:α}(h:j≠i):put1 f i v j=f j:=if_neg h
def un:Nat→(Nat→Bool)→Nat
 | 0,_=>0
 | n+1,M=>un n M+if M n=true then 0 else 1
structure Cov(n:Nat)(S:Nat→List Nat)(F:List Nat)(M:Nat→Bool)(T:List (List Nat)):Prop where
 first:∀ x∈F,M x=true∨∃ L∈T,x∈L
 next:∀ b,b < n→M b=true→∀ y∈S b,M y=true∨∃ L∈T,y∈L
 snd:∀ a,M a=true→Rch S F a
 todo:∀ L∈T,∀ x∈L,x < n∧Rch S F x
section
variable {n:Nat} {S:Nat→List Nat} {F:List Nat} {M:Nat→Bool} {T:List (List Nat)}
end
end Tab
end Go.Proofs.YtdkngfdnfekgfaaGreat
namespace Go.Proofs.YtdkngfdnfekgfaaGreat
open Go.RowKit Tab
structure Vec(w:World)(g n:Nat)(f:Nat→Value):Prop where
 cell:∀ j,j < n→w.cell? ⟨g,j,none⟩=some (f j)
 thaw:∀ j,w.frozen? ⟨g,j,none⟩=false
 lt:g < w.heap.size
section
variable {w w':World} {g n B:Nat} {f f':Nat→Value}
theorem Vec.keep(h:Vec w g n f)(hk:w'.heap[g]? = w.heap[g]?)(hs:w.heap.size≤w'.heap.size):Vec w' g n f :=
 ⟨fun j hj=>(World.cell?_of_block hk).trans (h.cell j hj),fun j=>(World.frozen?_of_block hk).trans (h.thaw j),Nat.lt_of_lt_of_le h.lt hs⟩
theorem Vec.below(h:Vec w g n f)(hb:Below B w w')(hg:g < B):Vec w' g n f:=h.keep (hb.block g hg) hb.size
theorem Vec.on(h:Vec w g n f)(hb:Below w.heap.size w w'):Vec w' g n f:=h.below hb h.lt
theorem Vec.congr(h:Vec w g n f)(e:∀ j,j < n→f j=f' j):Vec w g n f':=⟨fun j hj=>by rw[← e j hj];exact h.cell j hj,h.thaw,h.lt⟩
theorem Vec.set(h:Vec w g n f)(i:Nat)(v:Value):Vec (w.setCell ⟨g,i,none⟩ v) g n (put1 f i v):=by
 refine⟨fun j hj=>?_,fun j=>by simpa using h.thaw j,by simpa using h.lt⟩;by_cases e:j=i
 ·subst e;rw[put1_same];exact World.cell?_setCell_same _ _ _ (h.cell j hj)
 rw[put1_other e,World.cell?_setCell_other _ _ _ _ (by intro e2;injection e2 with _ e3;omega)];exact h.cell j hj
theorem Vec.drewN(h:Vec w g n f)(q:Nat):Vec (w.drewN q) g n f:=⟨h.cell,h.thaw,h.lt⟩
theorem Vec.lit(w:World)(C:Array Value)(t:TypeId)(n:Nat)(f:Nat→Value)(h:∀ j,j < n→C[j]? = some (f j)):Vec (w.alloc (.cells C t)) w.heap.size n f :=
 ⟨fun j hj=>(World.cell?_alloc_mark _ _ _ _ _).trans (h j hj),fun j=>by simp,by simp⟩
end
theorem made_get(z:Value)(n j:Nat)(h:j < n):(madeCells #[z] n)[j]? = some z:=by
 rw[← Array.getElem?_toList,toList_madeCells_one];simp[h]
structure Mat(w:World)(B g n k:Nat)(G:Nat→Nat)(m:Nat→Nat→Bool):Prop where
 outer:∃ f,Vec w g n f∧∀ i,i < k→f i=.slice (some ⟨G i,0,none⟩) n n
 rows:∀ i,i < k→Vec w (G i) n fun j=>.bool (m i j)
 low:B≤g
 ge:∀ i,i < k→B≤G i
 ne:∀ i,i < k→G i≠g
 inj:∀ i j,i < k→j < k→G i=G j→i=j
section
variable {w w':World} {g n k B:Nat} {G:Nat→Nat} {m m':Nat→Nat→Bool}
end
section
variable {w w':World} {n B B':Nat} {A:Option Addr} {l:Nat→Nat} {m m':Nat→Nat→Bool}
end
section
variable {w w':World} {n B B':Nat} {A:Option Addr} {S:Nat→List Nat}
end
end Go.Proofs.YtdkngfdnfekgfaaGreat
