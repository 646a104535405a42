import Derived.Test.YtfmndmhjjbeokaaGreatDoorLow12
import Derived.Laws.StructEq
import Derived.BigQuiet
set_option maxHeartbeats 1600000
set_option maxRecDepth 100000
set_option linter.unusedSimpArgs false
set_option linter.unusedVariables false
namespace Go.Proofs.YtfmndmhjjbeokaaGreatDoor
open Go.RowKit Tab
def Pk(e p:Int):Prop:=0<=e/\e < 512/\0<=p/\p<=255
def F9(w:World)(B:Nat)(A:Option Addr)(n:Nat):Prop:=∀ i,i < n->∃ ad e p,A=some ad/\ad.block < B/\w.cell? (ad.add (i*2))=some (.int .i64 e)/\w.cell? ⟨(ad.add (i*2)).block,(ad.add (i*2)).off+1,none⟩=some (.int .i64 p)/\Pk e p
theorem Rx(p:Int)(L:List Rn)(i:Nat):tkOf p (L.take i)<=ticks L:=by
 have h1:=tkOf_le p (L.take i);have h2:=Gg L i;omega
theorem Lz(A:Option Addr)(n cap:Nat)(L:List Rn)(p:Int)(w:World)(h:RdR w w.heap.size A n L)(hc:n<=cap)(hn:n<=1048576)(ht:ticks L<=1099511627776):
  Calls Tryz.prog 164 #[.slice A n cap,.int .i64 p] w (Ans (.int .i64 (tkOf p L:Nat)) w):=by
 go_in;go_wp2;go_loopw [5,10] (fun q s wr=>∃(i m:Nat),i<=n/\s=.int .i64 i/\q=.int .i64 m/\m=tkOf p (L.take i)/\Below w.heap.size w wr) (fun _ s _=>n - (intOf s).toNat)
 case atStart=>exact⟨0,0,by omega,rfl,rfl,by simp[tkOf],Aj _ _⟩
 obtain⟨i,m,hi,rfl,rfl,hm,hb⟩:=hrel;have aE:=Rx p L i;rw[<- hm] at aE;by_cases aF:i < n
 ·obtain⟨ad,r,rfl,aH,hr,c0,c1⟩:=(h.on hb).at_ aF;have aA:=tkOf_more (p:=p) hr;have aB:=Rx p L (i+1);rw[aA,<- hm] at aB;rw[<- hm] at aA;have aC:=bl1 wr (.cells #[.int .i64 r.p,.int .i64 (r.n:Int)] 129);have HB:=hid (hb.trans (aC.mono hb.size));by_cases hp:r.p=p
  ·rw[if_pos hp] at aB aA;have aD:(r.p == p)=true:=Ck.2 hp;have HM:=hid aA;clear hp aA hm aC hr;go_wp2_with fail;refine(Od (m:Int) (r.n:Int) _ _ _ (by omega) (by omega) (by omega) rfl rfl).mono ?_;rintro e w1⟨rfl,rfl⟩;go_wp2;go_roundw
   case rel=>exact⟨i+1,m+r.n,by omega,by go_num,by go_num,HM.o.symm,HB.o⟩
   simp[intOf];omega
  rw[if_neg hp] at aB aA;have aD:(r.p == p)=false:=Ak.2 hp;have HM:=hid aA;clear hp aA hm aC hr;go_wp2;go_roundw
  case rel=>exact⟨i+1,m,by omega,by go_num,rfl,HM.o.symm,HB.o⟩
  simp[intOf];omega
 have aG:n<=i:=by omega
 have e:m=tkOf p L:=by rw[hm,Bd (by rw[h.len];exact aG)]
 have HE:=hid e;clear e hm;go_wp2;go_ret;exact Ans.mk (by rw[HE.o];rfl) hb
theorem Vd(A:Option Addr)(n cap:Nat)(L:List Rn)(w:World)(h:RdR w w.heap.size A n L)(hc:n<=cap)(hn:n<=1048576)(ht:ticks L<=1099511627776):
  Calls Tryz.prog 156 #[.slice A n cap] w (Ans (.int .i64 (ticks L:Nat)) w):=by
 go_in;go_wp2;go_loopw [3,8] (fun q s wr=>∃(i m:Nat),i<=n/\s=.int .i64 i/\q=.int .i64 m/\m=ticks (L.take i)/\Below w.heap.size w wr) (fun _ s _=>n - (intOf s).toNat)
 case atStart=>exact⟨0,0,by omega,rfl,rfl,by simp[ticks],Aj _ _⟩
 obtain⟨i,m,hi,rfl,rfl,hm,hb⟩:=hrel;have aD:=Gg L i;rw[<- hm] at aD;by_cases aE:i < n
 ·obtain⟨ad,r,rfl,aG,hr,c0,c1⟩:=(h.on hb).at_ aE;have aA:=L0 hr;have aB:=Gg L (i+1);rw[aA,<- hm] at aB;rw[<- hm] at aA;have aC:=bl1 wr (.cells #[.int .i64 r.p,.int .i64 (r.n:Int)] 129);have HB:=hid (hb.trans (aC.mono hb.size));have HM:=hid aA;clear aA hm aC hr;go_wp2_with fail;refine(Od (m:Int) (r.n:Int) _ _ _ (by omega) (by omega) (by omega) rfl rfl).mono ?_;rintro e w1⟨rfl,rfl⟩;go_wp2;go_roundw
  case rel=>exact⟨i+1,m+r.n,by omega,by go_num,by go_num,HM.o.symm,HB.o⟩
  simp[intOf];omega
 have aF:n<=i:=by omega
 have e:m=ticks L:=by rw[hm,Bd (by rw[h.len];exact aF)]
 have HE:=hid e;clear e hm;go_wp2;go_ret;exact Ans.mk (by rw[HE.o];rfl) hb
theorem Nw(n D T:Nat):(rt n D T=0/\n<=128/\D<=16/\T<=4096)\/¬ rt n D T=0:=by
 unfold rt;by_cases h1:128 < n
 ·rw[if_pos h1];exact .inr (by omega)
 by_cases h2:16 < D
 ·rw[if_neg h1,if_pos h2];exact .inr (by omega)
 by_cases h3:4096 < T
 ·rw[if_neg h1,if_neg h2,if_pos h3];exact .inr (by omega)
 rw[if_neg h1,if_neg h2,if_neg h3];exact .inl ⟨rfl,by omega,by omega,by omega⟩
theorem OwnV.gb{E s:Nat}{w w':World}{B n c b:Nat}{A:Option Addr}{l:List Value}(h:OwnV E s w B A n c l)(hg:w.grownBy w' (some b))(hb:b < B):OwnV E s w' B A n c l :=
 h.keep fun k hk aA=>hg.block k aA (fun e=>by injection e with e;omega)
