import Derived.Test.YtdkngfdnfekgfaaGreatLot8
namespace Go.Proofs.YtdkngfdnfekgfaaGreat
namespace Tab
def leafN(r:Rn):Nd:=if r.p=-1 then ⟨2,0,(r.n:Int)⟩ else ⟨1,r.p,(r.n:Int)⟩
def itemsF:List Rn→F
 | []=>.nil
 | r::s=>.cons (leafN r) .nil (itemsF s)
def wrapF(g:F):F:=if g.cnt=1 then g else .cons ⟨3,0,(g.cnt:Int)⟩ g .nil
def timesF:Nat→F→F
 | 0,_=>.nil
 | n+1,g=>g.app (timesF n g)
def foldF(n:Nat)(g:F):F:=.cons ⟨4,0,(n:Int)⟩ (wrapF g) .nil
def wide:F→Prop
 | .nil=>True
 | .cons x k r=>2 ^ k.dep≤(one x k.lvs).length*(one x k.lvs).length∧wide r
structure Folds(f f':F):Prop where
 ex:∃(a g b:F) (n:Nat),f=a.app ((timesF n g).app b)∧f'=a.app ((foldF n g).app b)∧2≤n∧1≤g.cnt∧(if g.cnt=1 then 1 else 2) < g.sz*(n - 1)
structure Items(L:List Rn)(f:F):Prop where
 lvs:f.lvs=L
 ok:f.ok
 cnt:1≤f.cnt∧f.cnt≤L.length
 wide:Tab.wide f
 sz:f=itemsF L∨f.sz+1≤L.length
end Tab
namespace Tab
def ndEq(x y:Nd):Bool:=decide (x.k=y.k) && decide (x.p=y.p) && decide (x.n=y.n)
theorem ndEq_iff(x y:Nd):ndEq x y=true↔x=y:=by
 obtain⟨a,b,c⟩:=x;obtain⟨d,e,f⟩:=y;unfold ndEq;simp[Nd.mk.injEq,and_assoc]
def sameN:List Nd→List Nd→Bool
 | [],[]=>true
 | x::a,y::b=>ndEq x y && sameN a b
 | _,_=>false
theorem sameN_iff(a b:List Nd):sameN a b=true↔a=b:=by
 induction a generalizing b with
 | nil=>cases b <;> simp[sameN]
 | cons x a ih =>
  cases b with
  | nil=>simp[sameN]
  | cons y b=>simp only[sameN,Bool.and_eq_true,ndEq_iff,ih,List.cons.injEq]
theorem sameN_len{a b:List Nd}(h:¬ a.length=b.length):sameN a b=false:=by
 cases hs:sameN a b with
 | false=>rfl
 | true=>rw[sameN_iff] at hs;rw[hs] at h;exact absurd rfl h
end Tab
namespace Tab
abbrev Itr:=List (List Nd)
def szI:Itr→Nat
 | []=>0
 | x::I=>x.length+szI I
def savI(I:Itr)(n:Nat):Int:=if n < 2 then 0 else ((szI I*(n - 1):Nat):Int) - 1 - (if 1 < I.length then 1 else 0)
structure Bst where
 most:Int
 at_:Nat
 p:Nat
 n:Nat
structure Good(I:Itr)(s:Bst):Prop where
 n:2≤s.n
 p:1≤s.p
 le:s.at_+s.p*s.n≤I.length
 same:∀ i,s.at_≤i→i+s.p < s.at_+s.p*s.n→I[i]? = I[i+s.p]?
 most:s.most=savI ((I.drop s.at_).take s.p) s.n
 pos:0 < s.most
def parts:F→Itr
 | .nil=>[]
 | .cons x k r=>(x::k.flat)::parts r
theorem flat_inj(f:F):∀(g:F) (s t:List Nd),f.ok→g.ok→f.cnt=g.cnt→f.flat++s=g.flat++t→f=g∧s=t:=by
 induction f with
 | nil =>
  intro g s t _ _ hc h;have:g=.nil:=F.cnt_zero hc.symm;subst this;exact⟨rfl,by simpa [F.flat] using h⟩
 | cons x k r hk hr =>
  intro g s t h1 h2 hc h;cases g with
  | nil=>simp[F.cnt] at hc
  | cons y k' r' =>
   simp only[F.flat,List.cons_append,List.append_assoc,List.cons.injEq] at h;obtain⟨rfl,h3⟩:=h;obtain⟨rfl,h4⟩:=hk k' _ _ h1.2.2.1 h2.2.2.1 (by rw[h1.2.1,h2.2.1]) h3;obtain⟨rfl,h5⟩:=hr r' _ _ h1.2.2.2 h2.2.2.2 (by simp only[F.cnt] at hc;omega) h4;exact⟨rfl,h5⟩
end Tab
end Go.Proofs.YtdkngfdnfekgfaaGreat
