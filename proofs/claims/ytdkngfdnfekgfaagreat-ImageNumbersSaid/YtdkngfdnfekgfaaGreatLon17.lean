import Derived.Test.YtdkngfdnfekgfaaGreatLon16
set_option linter.unusedSimpArgs false
set_option linter.unusedVariables false
namespace Go.Proofs.YtdkngfdnfekgfaaGreat
open Go.RowKit Tab
theorem OwnV.obk_ge{E s B n c b:Nat}{w:World}{A:Option Addr}{l:List Value}(h:OwnV E s w B A n c l)(hA:obk A=some b):B≤b∧b < w.heap.size:=by
 rcases h.2 with ⟨hv,_⟩ | ⟨g,cap,cur,hv,hbg,hg,_⟩
 ·injection hv with h1;subst h1;cases hA
 injection hv with h1;subst h1;injection hA with hA;have hA:g=b:=hA;subst hA;exact⟨hbg,(Array.getElem?_eq_some_iff.1 hg).1⟩
def cast(l:List Nat):List Int:=l.map fun x:Nat=>(x:Int)
structure Stp(w:World)(B g n k:Nat)(R:Nat→Option Addr×Nat)(S:Nat→List Nat):Prop where
 outer:∃ f,Vec w g n f∧∀ i,i < k→f i=.slice (R i).1 (S i).length (R i).2
 rows:∀ i,i < k→OwnV 3 1 w B (R i).1 (S i).length (R i).2 (is (cast (S i)))
 low:B≤g
 ne:∀ i,i < k→obk (R i).1≠some g
 inj:∀ i j b,i < k→j < k→i≠j→obk (R i).1=some b→obk (R j).1≠some b
section
variable {w w':World} {g n k B:Nat} {R:Nat→Option Addr×Nat} {S:Nat→List Nat}
end
theorem heap_set_same(w:World)(g j:Nat)(v:Value){cur:Array Value}{E:TypeId}{fr:Nat×Nat}(h:w.heap[g]? = some (.cells cur E fr)):(w.setCell ⟨g,j,none⟩ v).heap[g]? = some (.cells (cur.setIfInBounds j v) E fr):=by
 unfold World.setCell;simp[Array.getElem?_modify,h]
theorem OwnV.set{E s B n c g:Nat}{w:World}{l:List Value}(h:OwnV E s w B (some ⟨g,0,none⟩) n c l)(j:Nat)(v:Value)(hj:j < l.length):OwnV E s (w.setCell ⟨g,j,none⟩ v) B (some ⟨g,0,none⟩) n c (l.set j v):=by
 refine⟨by rw[List.length_set];exact h.1,?_⟩;rcases h.2 with ⟨hv,_⟩ | ⟨g',cap,cur,hv,hbg,hg,hnc,hcm,hcs,htake⟩
 ·cases hv
 simp only[Value.slice.injEq,Option.some.injEq,Addr.mk.injEq,and_true,true_and] at hv;obtain⟨rfl,rfl⟩:=hv;refine .inr ⟨g,c,cur.setIfInBounds j v,rfl,hbg,heap_set_same w g j v hg,hnc,hcm,by rw[Array.size_setIfInBounds];exact hcs,?_⟩;rw[Array.toList_setIfInBounds,List.take_set,htake]
theorem OwnV.other{E s B n c:Nat}{w:World}{A:Option Addr}{l:List Value}(h:OwnV E s w B A n c l)(p:Addr)(v:Value)(hp:∀ g,A=some ⟨g,0,none⟩→g≠p.block):OwnV E s (w.setCell p v) B A n c l:=by
 refine⟨h.1,?_⟩;rcases h.2 with hv | ⟨g,cap,cur,hv,hbg,hg,r⟩
 ·exact .inl hv
 refine .inr ⟨g,cap,cur,hv,hbg,?_,r⟩;rw[Below.heap_setCell w p v g (hp g (by injection hv))];exact hg
section
variable {α:Type} {f:α→List Value} {s:Nat}
theorem flat_len(hf:∀ x,(f x).length=s)(l:List α):(l.flatMap f).length=l.length*s:=by
 induction l with
 | nil=>simp
 | cons x l ih=>rw[List.flatMap_cons,List.length_append,hf,ih,List.length_cons,Nat.succ_mul];omega
theorem flat_set(hf:∀ x,(f x).length=s)(l:List α)(i k:Nat)(x y:α)(v:Value)(hx:l[i]? = some x)(hk:k < s)(hy:f y=(f x).set k v):(l.set i y).flatMap f=(l.flatMap f).set (i*s+k) v:=by
 induction l generalizing i with
 | nil=>simp at hx
 | cons z l ih =>
  cases i with
  | zero =>
   simp at hx;subst hx;rw[List.set_cons_zero,List.flatMap_cons,List.flatMap_cons,hy,Nat.zero_mul,Nat.zero_add,List.set_append_left _ _ (by rw[hf];exact hk)]
  | succ i =>
   rw[List.set_cons_succ,List.flatMap_cons,List.flatMap_cons,ih i (by simpa using hx),List.set_append_right _ _ (by rw[hf,Nat.succ_mul];omega),hf];congr 2;rw[Nat.succ_mul];omega
end
structure OwnB{α:Type}(E s:Nat)(f:α→List Value)(w:World)(B:Nat)(A:Option Addr)(n c:Nat)(l:List α):Prop where
 len:l.length=n
 own:OwnV E s w B A n c (l.flatMap f)
section
variable {α:Type} {f:α→List Value} {E s B B' n c:Nat} {w w':World} {A:Option Addr} {l:List α}
theorem OwnB.rdb(h:OwnB E s f w B A n c l):RdB f w w.heap.size A n l:=⟨h.len,h.own.rd⟩
theorem OwnB.cap(h:OwnB E s f w B A n c l):n≤c:=h.own.cap
theorem OwnB.nil(w:World)(E s B:Nat):OwnB E s f w B none 0 0 []:=⟨rfl,OwnV.nil _ _ _ _⟩
theorem OwnB.below(h:OwnB E s f w B A n c l)(hb:Below w.heap.size w w'):OwnB E s f w' B A n c l:=⟨h.len,h.own.below rfl hb⟩
theorem OwnB.other(h:OwnB E s f w B A n c l)(p:Addr)(v:Value)(hp:∀ g,A=some ⟨g,0,none⟩→g≠p.block):OwnB E s f (w.setCell p v) B A n c l:=⟨h.len,h.own.other p v hp⟩
theorem OwnB.weak(h:OwnB E s f w B A n c l)(hB:B'≤B):OwnB E s f w B' A n c l:=⟨h.len,h.own.weak hB⟩
theorem OwnB.block(h:OwnB E s f w B A n c l)(hn:0 < n):∃ g,A=some ⟨g,0,none⟩∧B≤g∧g < w.heap.size:=h.own.block hn
theorem mk_add(g i:Nat):(⟨g,0,none⟩:Addr).add i=⟨g,i,none⟩:=by
 unfold Addr.add;split <;> simp_all
end
theorem cc_late(x:ChV)(z:Int):cc { x with late:=z }=(cc x).set 5 (.int .i64 z):=rfl
theorem pcl_bud(x:PtV)(z:Int):pcl { x with bud:=z }=(pcl x).set 1 (.int .i64 z):=rfl
theorem pcl_per(x:PtV)(z:Int):pcl { x with per:=z }=(pcl x).set 2 (.int .i64 z):=rfl
structure CfW(w:World)(B:Nat)(A1 A2:Option Addr)(n1 n2:Nat)(P:List PtV)(C:List ChV):Prop where
 p:RdB pcl w B A1 n1 P
 c:RdB cc w B A2 n2 C
section
variable {w w':World} {B B' n1 n2:Nat} {A1 A2:Option Addr} {P:List PtV} {C:List ChV}
end
end Go.Proofs.YtdkngfdnfekgfaaGreat
