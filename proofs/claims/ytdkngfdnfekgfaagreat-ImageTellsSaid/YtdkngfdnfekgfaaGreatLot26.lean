import Derived.Test.YtdkngfdnfekgfaaGreatLot25
import Derived.Test.YtdkngfdnfekgfaaGreatLot13
import Derived.Laws.StructEq
import Derived.BigQuiet
import Derived.Laws.MakeOwn
import Derived.Laws.OwnMore
set_option maxHeartbeats 1600000
set_option maxRecDepth 100000
set_option linter.unusedSimpArgs false
set_option linter.unusedVariables false
namespace Go.Proofs.YtdkngfdnfekgfaaGreat
namespace Tab
end Tab
end Go.Proofs.YtdkngfdnfekgfaaGreat
namespace Go.Proofs.YtdkngfdnfekgfaaGreat
open Go.RowKit Tab
def Qui(v:Value)(w:World)(e:Ending)(w':World):Prop:=e=.returned v∧∃ m,w'=w.drewN m
theorem nd_neqs(x y:Nd)(W:World):(binOp .neq 70 (nd x.k x.p x.n) (nd y.k y.p y.n)).run Tryz.prog W=.ok (.bool (!(ndEq x y))) W:=by
 obtain⟨a,b,c⟩:=x;obtain⟨d,e,f⟩:=y;unfold ndEq;by_cases h1:a=d
 ·by_cases h2:b=e
  ·by_cases h3:c=f
   ·subst h1;subst h2;subst h3;simp[run_neq_struct,go_sem]
   subst h1;subst h2;simp[run_neq_struct,go_sem,h3]
  subst h1;simp[run_neq_struct,go_sem,h2]
 simp[run_neq_struct,go_sem,h1]
theorem rnodes_any(A1 A2:Option Addr)(n m c1 c2:Nat)(l1 l2:List Nd)(w:World)(h1:RdN w w.heap.size A1 n l1)(h2:RdN w w.heap.size A2 m l2)(hn:n≤140737488351232):
  Calls Tryz.prog 38 #[.slice A1 n c1,.slice A2 m c2] w (Qui (.bool (sameN l1 l2)) w):=by
 by_cases hnm:n=m
 ·subst hnm;generalize hb:sameN l1 l2=b;have HB:=hid hb;clear hb;go_enter Tryz.func38,Tryz.ntmps38;go_wp2_with fail;go_loopw [5,13] (fun _ s wr=>∃ i q:Nat,i≤n∧s=.int .i64 i∧sameN (l1.drop i) (l2.drop i)=b∧wr=w.drewN q) (fun _ s _=>n - (intOf s).toNat)
  case atStart=>exact⟨0,0,by omega,rfl,by simpa using HB.out,rfl⟩
  obtain⟨i,q,hi,rfl,hs,rfl⟩:=hrel;have HS:=hid hs;clear hs;by_cases hlt:i < n
  ·obtain⟨ad,x,rfl,_,hx,hin,c0,c1',c2'⟩:=h1.at_ hlt;obtain⟨ad2,y,rfl,_,hy,hin2,d0,d1,d2⟩:=h2.at_ hlt;have e1:=drop_cons hx;have e2:=drop_cons hy;have hst:=HS.out;rw[e1,e2] at hst;simp only[sameN] at hst;have HST:=hid hst;have hne:=fun W=>nd_neqs x y W;obtain⟨xk,xp,xn⟩:=x;obtain⟨yk,yp,yn⟩:=y;dsimp only at c0 c1' c2' d0 d1 d2 hne;clear hx hy hin hin2 e1 e2 hst HS;generalize hE:ndEq ⟨xk,xp,xn⟩ ⟨yk,yp,yn⟩=E at HST hne;clear hE;cases E with
   | true =>
    have hne:∀ W,(binOp .neq 70 (nd xk xp xn) (nd yk yp yn)).run Tryz.prog W=.ok (.bool false) W:=hne;go_wp2_with fail;go_quiet (fail);go_wp2_with fail;go_roundw
    case rel=>exact⟨i+1,q+nq,by omega,by go_num,by simpa using HST.out,rfl⟩
    simp[intOf];omega
   | false =>
    have hne:∀ W,(binOp .neq 70 (nd xk xp xn) (nd yk yp yn)).run Tryz.prog W=.ok (.bool true) W:=hne;go_wp2_with fail;go_quiet (fail);go_wp2_with fail;go_ret;exact⟨by have:=HST.out;simp at this;rw[← this];rfl,q+nq,by rw[World.drewN_drewN]⟩
  have hge:n≤i:=by omega
  have e1:l1.drop i=[]:=List.drop_eq_nil_of_le (by rw[h1.len];exact hge);have e2:l2.drop i=[]:=List.drop_eq_nil_of_le (by rw[h2.len];exact hge);have hst:=HS.out;rw[e1,e2] at hst;have HST:=hid hst;clear hst HS e1 e2;go_wp2_with fail;go_ret;exact⟨by rw[← HST.out];rfl,q,rfl⟩
 have hb:=sameN_len (a:=l1) (b:=l2) (by rw[h1.len,h2.len];exact hnm);rw[hb];have h3:((n:Int) == (m:Int))=false:=beq_eq_false_iff_ne.2 (by omega);have h4:((n:Int) != (m:Int))=true:=by rw[bne,h3];rfl
 clear hb h1 h2;go_enter Tryz.func38,Tryz.ntmps38;go_wp2_with fail;go_ret;exact⟨rfl,0,rfl⟩
end Go.Proofs.YtdkngfdnfekgfaaGreat
