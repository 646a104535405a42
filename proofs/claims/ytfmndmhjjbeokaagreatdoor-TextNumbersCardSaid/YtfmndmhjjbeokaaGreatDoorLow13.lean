import Derived.Test.YtfmndmhjjbeokaaGreatDoorLow12
set_option maxHeartbeats 4000000
set_option maxRecDepth 100000
set_option linter.unusedSimpArgs false
set_option linter.unusedVariables false
namespace Go.Proofs.YtfmndmhjjbeokaaGreatDoor
open Go.RowKit Tab
theorem Xz(A:Option Addr)(n cap:Nat)(L:List Rn)(w:World)(h:RdR w w.heap.size A n L)(hc:n<=cap)(hn:n<=1048576)(ht:ticks L<=1099511627776):
  Calls Tryz.prog 85 #[.slice A n cap] w (Qp (tidy L) w):=by
 go_in;go_wp2;go_loopw [3,9] (fun q s wr=>∃(i m c':Nat) (A':Option Addr),i<=n/\s=.int .i64 i/\q=.slice A' m c'/\m<=i/\OwnV 129 2 wr w.heap.size A' m c' (rs (tidy (L.take i)))/\Below w.heap.size w wr) (fun _ s _=>n - (intOf s).toNat)
 case atStart=>exact⟨0,0,0,none,by omega,rfl,rfl,by omega,by simpa [tidy,tidyOn,rs] using OwnV.nil _ _ _ _,Aj _ _⟩
 obtain⟨i,m,c',A',hi,rfl,rfl,hm,aX,hb⟩:=hrel;have aI:=hid aX;clear aX;by_cases bH:i < n
 ·obtain⟨ad,r,rfl,bO,hr,c0,c1⟩:=(h.on hb).at_ bH;have aE:=tidy_more hr;have aL:=tpush_cases (tidy (L.take i)) r;rw[<- aE] at aL;have aR:=bl1 wr (.cells #[.int .i64 r.p,.int .i64 (r.n:Int)] 129);have aZ:=hb.trans (aR.mono hb.size);have bI:=tidy_take_le L (i+1);have aB:=aI.o.below rfl aR;have aC:∀ o y,tidy (L.take i)=o++[y]->y.n+r.n<=ticks L:=fun o y e=>Ry hr e;generalize tidy (L.take i)=T at aI aL aB aC;generalize bA:tidy (L.take (i+1))=T1 at aL bI;have aM:=hid bA;have bC:=hid aZ;clear bA aE hr aR aZ aI;rcases aL with ⟨h0,e⟩ | ⟨h0,e0,e⟩ | ⟨o,y,h0,e0,hp,e⟩ | ⟨o,y,h0,e0,hp,e⟩
  ·have aK:(r.n:Int) < 1:=by omega
   subst e;have aV:=hid aB;clear aB aC h0;go_wp2;go_roundw
   case rel=>exact⟨i+1,m,c',A',by omega,by go_num,rfl,by omega,by rw[aM.o];exact aV.o,bC.o⟩
   simp[intOf];omega
  ·subst e0;have bG:m=0:=by have:=aB.len;simp[rs] at this;omega
   subst bG;have aK:¬ (r.n:Int) < 1:=by omega
   subst e;clear aC h0;go_wp2_with fail;go_quiet (fail);have aH:Below wr.heap.size wr ((wr.alloc (.cells #[.int .i64 r.p,.int .i64 (r.n:Int)] 129)).drewN nq):=Below.drewN (bl1 wr _) nq;have aP:wr.heap.size < ((wr.alloc (.cells #[.int .i64 r.p,.int .i64 (r.n:Int)] 129)).drewN nq).heap.size:=by simp
   have b0:((wr.alloc (.cells #[.int .i64 r.p,.int .i64 (r.n:Int)] 129)).drewN nq).cell? ⟨wr.heap.size,0,none⟩=some (.int .i64 r.p):=Ab _ _ _ _ _;have b1:((wr.alloc (.cells #[.int .i64 r.p,.int .i64 (r.n:Int)] 129)).drewN nq).cell? ⟨wr.heap.size,1,none⟩=some (.int .i64 (r.n:Int)):=Ab _ _ _ _ _;have aA:OwnV 129 2 ((wr.alloc (.cells #[.int .i64 r.p,.int .i64 (r.n:Int)] 129)).drewN nq) w.heap.size A' 0 c' (rs []):=aB.keep fun _ _ _=>rfl;generalize (wr.alloc (.cells #[.int .i64 r.p,.int .i64 (r.n:Int)] 129)).drewN nq=W at aH aP b0 b1 aA |-;have aG:=aA.below rfl (bl1 W (.cells #[.int .i64 r.p,.int .i64 (r.n:Int)] 129));have aQ:=rdV_new W #[.int .i64 r.p,.int .i64 (r.n:Int)] 129 (rs [r]) rfl;have aF:=(hb.trans (aH.mono hb.size)).alloc (by have:=hb.size;omega) (.cells #[.int .i64 r.p,.int .i64 (r.n:Int)] 129);have bE:0+1<=1048577:=by omega
   clear aB aA c0 c1;go_wp2_with (at_builtin;go_loud (refine Ej elR rfl (.tmp 45) (.tmp 47) rfl rfl w.heap.size _ _ c' _ rfl aG _ 1 1 _ _ rfl aQ rfl (Kl _) (by omega) (by unfold maxLen;omega) aF.size (0+1) rfl (rs ([]++[r])) (Fp _ _).symm ?_;intro A2 c2 w2 aO aT _));go_roundw
   case rel=>exact⟨i+1,_,c2,A2,by omega,by go_num,rfl,by omega,by rw[aM.o];exact aO,aF.trans aT⟩
   simp[intOf];omega
  ·subst e0;have aK:¬ (r.n:Int) < 1:=by omega
   have bD:=aC o y rfl;obtain⟨aU,k,rfl,rfl,hL⟩:=Hq.of aB;obtain⟨yp,yn⟩:=y;obtain⟨rp,rn⟩:=r;dsimp only at hp aK bD c0 c1 e h0 |-;subst hp;have HL:=hid hL;have d0:=hL.c0;have d1:=hL.c1;have d2:=hL.f1;have d3:=hL.lt;dsimp only at d0 d1 d2 d3;clear aC h0 hL aB;go_wp2_with fail;go_quiet (fail);go_wp2_with fail;have aF:=hb.trans ((Below.drewN (bl1 wr (.cells #[.int .i64 yp,.int .i64 (rn:Int)] 129)) nq).mono hb.size);have b1:((wr.alloc (.cells #[.int .i64 yp,.int .i64 (rn:Int)] 129)).drewN nq).cell? ⟨wr.heap.size,1,none⟩=some (.int .i64 (rn:Int)):=Ab _ _ _ _ _;have aJ:=hid (HL.o.drewN nq);have d1:=aJ.o.c1;have d2:=aJ.o.f1;have d3:=aJ.o.lt;dsimp only at d1 d2 d3;have bB:=hid aF;clear HL d0 c0 c1 aF bC;generalize (wr.alloc (.cells #[.int .i64 yp,.int .i64 (rn:Int)] 129)).drewN nq=W at b1 aJ d1 d2 d3 bB |-;generalize wr.heap.size=gx at b1 |-;have bF:=Wf (yn:Int) (rn:Int) _ _ W.drew (by omega) (by omega) (by omega) rfl rfl;have bN:(k:Int) < (k:Int)+1:=by omega
   have bK:IntKind.i64.wrap (k:Int)=(k:Int):=Dt _ (by omega);go_still_tail 14,(by kernel_rfl)
   still_call bF
   repeat still_step
   refine wpStill_nil ?_;clear bK;change wpList _ _ _ _ _ W.drew;go_wp2_with fail;obtain⟨aN,aY⟩:=(aJ.o.drew).stored (yn+rn);rw[Int.natCast_add] at aN aY;rw[<- e] at aN;go_roundw
   case rel=>exact⟨i+1,_,c',some aU,by omega,by go_num,rfl,by omega,by rw[aM.o];exact aN,aY _ bB.o.drew⟩
   simp[intOf];omega
  subst e0;have aK:¬ (r.n:Int) < 1:=by omega
  obtain⟨aU,k,rfl,rfl,hL⟩:=Hq.of aB;have bM:(y.p == r.p)=false:=Ak.2 hp;have d0:=hL.c0;have d3:=hL.lt;subst e;clear aC h0 hL hp;go_wp2_with fail;go_quiet (fail);have aH:Below wr.heap.size wr ((wr.alloc (.cells #[.int .i64 r.p,.int .i64 (r.n:Int)] 129)).drewN nq):=Below.drewN (bl1 wr _) nq;have aP:wr.heap.size < ((wr.alloc (.cells #[.int .i64 r.p,.int .i64 (r.n:Int)] 129)).drewN nq).heap.size:=by simp
  have b0:((wr.alloc (.cells #[.int .i64 r.p,.int .i64 (r.n:Int)] 129)).drewN nq).cell? ⟨wr.heap.size,0,none⟩=some (.int .i64 r.p):=Ab _ _ _ _ _;have b1:((wr.alloc (.cells #[.int .i64 r.p,.int .i64 (r.n:Int)] 129)).drewN nq).cell? ⟨wr.heap.size,1,none⟩=some (.int .i64 (r.n:Int)):=Ab _ _ _ _ _;have aA:OwnV 129 2 ((wr.alloc (.cells #[.int .i64 r.p,.int .i64 (r.n:Int)] 129)).drewN nq) w.heap.size (some aU) (k+1) c' (rs (o++[y])):=aB.keep fun _ _ _=>rfl;generalize (wr.alloc (.cells #[.int .i64 r.p,.int .i64 (r.n:Int)] 129)).drewN nq=W at aH aP b0 b1 aA |-;have aG:=aA.below rfl (bl1 W (.cells #[.int .i64 r.p,.int .i64 (r.n:Int)] 129));have aQ:=rdV_new W #[.int .i64 r.p,.int .i64 (r.n:Int)] 129 (rs [r]) rfl;have aF:=(hb.trans (aH.mono hb.size)).alloc (by have:=hb.size;omega) (.cells #[.int .i64 r.p,.int .i64 (r.n:Int)] 129);have bE:(k+1)+1<=1048577:=by omega
  clear aB aA c0 c1;go_wp2_with (at_builtin;go_loud (refine Ej elR rfl (.tmp 45) (.tmp 47) rfl rfl w.heap.size _ _ c' _ rfl aG _ 1 1 _ _ rfl aQ rfl (Kl _) (by omega) (by unfold maxLen;omega) aF.size ((k+1)+1) rfl (rs ((o++[y])++[r])) (Fp _ _).symm ?_;intro A2 c2 w2 aO aT _));go_roundw
  case rel=>exact⟨i+1,_,c2,A2,by omega,by go_num,rfl,by omega,by rw[aM.o];exact aO,aF.trans aT⟩
  simp[intOf];omega
 have bL:n<=i:=by omega
 have e:L.take i=L:=Bd (by rw[h.len];exact bL);have aA:=aI.o;rw[e] at aA;have aD:=hid aA;clear e aA aI;go_wp2;go_ret;have hl:=aD.o.len;rw[Gi] at hl;have bJ:m=(tidy L).length:=by omega
 subst bJ;exact⟨A',c',rfl,aD.o.rdr,aD.o.cap,hb,aD.o.newer⟩
def Dx:List Rn->List Int
 | []=>[]
 | r::s=>List.replicate r.n r.p++Dx s
theorem Gc(L:List Rn):(Dx L).length=ticks L:=by
 induction L with
 | nil=>rfl
 | cons r s ih=>simp only[Dx,Aa,List.length_replicate,ih,ticks]
theorem Fu(a b:List Rn):Dx (a++b)=Dx a++Dx b:=by
 induction a with
 | nil=>rfl
 | cons r s ih=>simp only[Bo,Dx,ih,Ar]
theorem I7{L:List Rn}{i:Nat}{r:Rn}(h:L[i]? = some r):Dx (L.take (i+1))=Dx (L.take i)++List.replicate r.n r.p:=by
 obtain⟨hi,e⟩:=Af.1 h;rw[Cb hi,Fu,e];simp[Dx]
def mj(W:List Int)(w:World)(e:Ending)(w':World):Prop:=∃ A c,e=.returned (.slice A W.length c)/\RdI w' w'.heap.size A W.length W/\W.length<=c/\Below w.heap.size w w'
theorem OwnV.rdi{w:World}{B n c:Nat}{A:Option Addr}{L:List Int}(h:OwnV 3 1 w B A n c (is L)):RdI w w.heap.size A n L:=⟨by have:=h.len;rw[Gj] at this;omega,h.rd⟩
theorem ao(n:Nat)(p:Int):List.replicate (n+1) p=List.replicate n p++[p]:=by rw[List.replicate_succ']
theorem Pn(A:Option Addr)(n cap:Nat)(L:List Rn)(w:World)(h:RdR w w.heap.size A n L)(hc:n<=cap)(hn:n<=1048576)(ht:ticks L<=8192):
  Calls Tryz.prog 88 #[.slice A n cap] w (mj (Dx L) w):=by
 have HT:=hid ht;clear ht;go_in;go_wp2;go_loopw [3,5,6,9] (fun q _ _ s wr=>∃(i m c:Nat) (A':Option Addr),i<=n/\s=.int .i64 i/\q=.slice A' m c/\OwnV 3 1 wr w.heap.size A' m c (is (Dx (L.take i)))/\Below w.heap.size w wr) (fun _ _ _ s _=>n - (intOf s).toNat)
 case atStart=>exact⟨0,0,0,none,by omega,rfl,rfl,by simpa [Dx,is] using OwnV.nil _ _ _ _,Aj _ _⟩
 obtain⟨i,m,c,A',hi,rfl,rfl,aA,hb⟩:=hrel;by_cases aZ:i < n
 ·obtain⟨ad,r,rfl,bE,hr,c0,c1⟩:=(h.on hb).at_ aZ;have aK:=bl1 wr (.cells #[.int .i64 r.p,.int .i64 (r.n:Int)] 129);have aL:=hb.trans (aK.mono hb.size);have aB:=I7 hr;have aU:=L0 hr;have bA:=Gg L (i+1);have hT:=HT.o;have aE:=aA.below rfl aK;have hm:=aA.len;rw[Gj,Gc,Cj] at hm;have aY:m+r.n<=8192:=by omega
  have HM:=hid aB;have aR:=hb.size;obtain⟨rp,rn⟩:=r;dsimp only at c0 c1 aY aE HM aL;have aF:obk A'≠some wr.heap.size:=fun e=>by
   cases A' with
   | none=>cases e
   | some a =>
    have bH:0 < m\/m=0:=by omega
    rcases aA.2 with ⟨hv,_⟩ | ⟨g',bF,bL,hv,_,bC,_⟩
    ·cases hv
    have h1:some a=some ⟨g',0,none⟩:=by injection hv
    injection h1 with h1;subst h1;have h2:=(Bt.1 bC).1;injection e with e;have e:g'=wr.heap.size:=e;omega
  clear hr aB aU bA hT aA aK hb;generalize hG:wr.alloc (.cells #[.int .i64 rp,.int .i64 (rn:Int)] 129)=W1 at aE aL;have n0:W1.cell? ⟨wr.heap.size,0,none⟩=some (.int .i64 rp):=by rw[<- hG];exact Ab _ _ _ _ _
  have n1:W1.cell? ⟨wr.heap.size,1,none⟩=some (.int .i64 (rn:Int)):=by rw[<- hG];exact Ab _ _ _ _ _
  have aV:wr.heap.size < W1.heap.size:=by rw[<- hG];simp
  go_wp2_with fail;generalize wr.heap.size=g at n0 n1 aV aR aF |-;clear hG c0 c1 bE;go_loopw [3,6] (fun q s wx=>∃(j k c2:Nat) (A2:Option Addr),j<=rn/\s=.int .i64 j/\q=.slice A2 k c2/\k=m+j/\OwnV 3 1 wx w.heap.size A2 k c2 (is (Dx (L.take i)++List.replicate j rp))/\Below w.heap.size w wx/\wx.cell? ⟨g,0,none⟩=some (.int .i64 rp)/\wx.cell? ⟨g,1,none⟩=some (.int .i64 (rn:Int))/\obk A2≠some g) (fun _ s _=>rn - (intOf s).toNat)
  case atStart=>exact⟨0,m,c,A',by omega,rfl,rfl,rfl,by simpa using aE,aL,n0,n1,aF⟩
  obtain⟨j,k,c2,A2,hj,rfl,rfl,hk,aD,aJ,n0,n1,aP⟩:=hrel;by_cases bK:j < rn
  ·have bJ:(k:Int) < 8192:=by omega
   have bI:k < 8192:=by omega
   have bG:=hid hk;clear hk;have aG:=bl1 wr (.cells #[.int .i64 rp] 3);have aH:=aD.below rfl aG;have aX:=rdV_new wr #[.int .i64 rp] 3 (is [rp]) rfl;have aQ:=aJ.trans (aG.mono aJ.size);have bB:g < wr.heap.size:=by
    have:=Bj wr _ n0;exact this
   go_wp2_with (at_builtin;go_loud (refine Ea elI rfl (.tmp 24) (.tmp 27) rfl rfl w.heap.size A2 k c2 _ rfl aH _ 1 1 _ _ rfl aX rfl Cv (Vg _) (by omega) (by unfold maxLen;omega) aQ.size (k+1) rfl (is (Dx (L.take i)++List.replicate (j+1) rp)) (by rw[ao,<- Ar];exact(Mb _ _).symm) ?_;intro A4 c4 w4 aT bD aO));go_roundw
   case rel =>
    have aN:∀ o v,wr.cell? ⟨g,o,none⟩=some v->w4.cell? ⟨g,o,none⟩=some v:=fun o v hv=>by
     have h1:w4.cell? ⟨g,o,none⟩=(wr.alloc (.cells #[.int .i64 rp] 3)).cell? ⟨g,o,none⟩:=Bf (aO.gb.block g (by simp;omega) (fun e=>aP e.symm));rw[h1,Dd _ _ _ bB];exact hv
    refine⟨j+1,k+1,c4,A4,by omega,by go_num,rfl,by have:=bG.o;omega,aT,aQ.trans bD,aN _ _ n0,aN _ _ n1,?_⟩;rcases aO.at_ with e | ⟨g4,e,aI⟩
    ·rw[e];exact aP
    rw[e];intro e5;injection e5 with e5;simp at aI;omega
   simp[intOf];omega
  obtain rfl:j=rn:=by omega
  have aC:=aD;rw[<- HM.o] at aC;have aM:=hid aC;clear aC aD hk;go_wp2;go_roundw
  case rel=>exact⟨i+1,k,c2,A2,by omega,by go_num,rfl,aM.o,aJ⟩
  simp[intOf];omega
 have aI:n<=i:=by omega
 have e:L.take i=L:=Bd (by rw[h.len];exact aI);rw[e] at aA;have hm:=aA.len;rw[Gj,Cj] at hm;go_wp2;go_ret;exact⟨A',c,by rw[hm];rfl,by rw[hm];exact aA.rdi,by rw[hm];exact aA.cap,hb⟩
def Kg(W:List Int)(q:Int)(t:Nat):Nat->Nat->Nat
 | 0,d=>d
 | f+1,d=>if W[(t+d) % W.length]? = some q then d else Kg W q t f (d+1)
def Ph(W:List Int)(q:Int)(t:Nat):Nat:=Kg W q t W.length 1
def Gb(W:List Int)(p q:Int):Nat->Nat
 | 0=>0
 | k+1=>if W[k]? = some p then max (Gb W p q k) (Ph W q k) else Gb W p q k
def E6(q:Int):List Int->Bool
 | []=>false
 | x::l=>decide (x=q) || E6 q l
def D9(W:List Int)(p q:Int):Int:=if E6 p W=false then 0 else if E6 q W=false then -1 else (Gb W p q W.length:Int)
theorem Mu(q:Int)(a b:List Int):E6 q (a++b)=(E6 q a || E6 q b):=by
 induction a with
 | nil=>rfl
 | cons x a ih=>simp only[Bo,E6,ih,Bool.or_assoc]
theorem Qg{W:List Int}{i:Nat}{x:Int}(q:Int)(h:W[i]? = some x):E6 q (W.take (i+1))=(E6 q (W.take i) || decide (x=q)):=by
 obtain⟨hi,e⟩:=Af.1 h;rw[Cb hi,Mu,e];simp[E6]
theorem Ta{W:List Int}{q:Int}(h:E6 q W=true):∃ i,i < W.length/\W[i]? = some q:=by
 induction W with
 | nil=>cases h
 | cons x W ih =>
  simp only[E6,Dh,Av] at h;rcases h with rfl | h
  ·exact⟨0,by simp,rfl⟩
  obtain⟨i,hi,e⟩:=ih h;exact⟨i+1,by simp only[Ad];omega,by simpa using e⟩
theorem Ri{W:List Int}{q:Int}(h:E6 q W=true)(t:Nat):∃ e,1<=e/\e<=W.length/\W[(t+e) % W.length]? = some q:=by
 obtain⟨i,hi,e⟩:=Ta h;have hn:0 < W.length:=by omega
 have h1:=Nat.mod_lt t hn;have h2:=Nat.div_add_mod t W.length;by_cases aA:t % W.length < i
 ·refine⟨i - t % W.length,by omega,by omega,?_⟩;have h3:(t+(i - t % W.length)) % W.length=i:=by
   have h4:t+(i - t % W.length)=i+W.length*(t / W.length):=by omega
   rw[h4,Nat.add_mul_mod_self_left,Nat.mod_eq_of_lt hi]
  rw[h3];exact e
 refine⟨W.length+i - t % W.length,by omega,by omega,?_⟩;have h3:(t+(W.length+i - t % W.length)) % W.length=i:=by
  have h4:t+(W.length+i - t % W.length)=i+W.length*(t / W.length+1):=by
   rw[Nat.mul_add,Cj];omega
  rw[h4,Nat.add_mul_mod_self_left,Nat.mod_eq_of_lt hi]
 rw[h3];exact e
theorem Qm{W:List Int}{q:Int}{t f d:Nat}(h:W[(t+d) % W.length]? = some q):Kg W q t f d=d:=by
 cases f with
 | zero=>rfl
 | succ f=>simp only[Kg];rw[if_pos h]
theorem Te{W:List Int}{q:Int}{t f d:Nat}(h:¬ W[(t+d) % W.length]? = some q):Kg W q t (f+1) d=Kg W q t f (d+1):=by simp only[Kg];rw[if_neg h]
theorem S3(A:Option Addr)(n cap:Nat)(L:List Rn)(p q:Int)(w:World)(h:RdR w w.heap.size A n L)(hc:n<=cap)(hn:n<=1048576)(ht:ticks L<=8192):
 Calls Tryz.prog 53 #[.slice A n cap,.int .i64 p,.int .i64 q] w (Ans (.int .i64 (D9 (Dx L) p q)) w):=by
 have hW:=Pn A n cap L w h hc hn ht;have hl:=Gc L;unfold mj at hW;generalize Dx L=W at hW hl |-;have hm:W.length<=8192:=by omega
 have aC:E6 p W=false->D9 W p q=0:=fun e=>if_pos e;have aB:E6 p W=true->E6 q W=false->D9 W p q=-1:=fun e e2=>by unfold D9;rw[if_neg (by rw[e];simp),if_pos e2]
 have aA:E6 p W=true->E6 q W=true->D9 W p q=(Gb W p q W.length:Int):=fun e e2=>by unfold D9;rw[if_neg (by rw[e];simp),if_neg (by rw[e2];simp)]
 generalize D9 W p q=R at aC aB aA |-;generalize hM:W.length=m at hW hm aA;have HM:=hid hM;have HW:=hid hW;have aV:=hid aC;have aU:=hid aB;have aT:=hid aA;clear hW aC aB aA hM h hl;go_in;go_wp2_with fail;refine HW.o.mono ?_;rintro e w1⟨A1,c1,rfl,aJ,bO,aN⟩;go_wp2;go_loopw [9,10,12,20] (fun s9 aY _ s wr=>∃ i:Nat,i<=m/\s=.int .i64 i/\s9=.bool (E6 q (W.take i))/\aY=.bool (E6 p (W.take i))/\wr=w1) (fun _ _ _ s _=>m - (intOf s).toNat)
 case atStart=>exact⟨0,by omega,rfl,rfl,rfl,rfl⟩
 obtain⟨i,hi,rfl,rfl,rfl,hw⟩:=hrel;have aE:=hw.symm;clear hw;subst aE;by_cases aL:i < m
 ·obtain⟨ad,x,rfl,bF,hx,c0⟩:=aJ.at_ aL;have e1:=Qg q hx;have e2:=Qg p hx;have E1:=hid e1;have E2:=hid e2;clear e1 e2 hx;generalize E6 q (W.take i)=b1 at E1 |-;generalize E6 p (W.take i)=b2 at E2 |-;have f1:(x == q)=decide (x=q):=rfl;have f2:(x == p)=decide (x=p):=rfl;cases b1 <;> cases b2 <;>
   (go_wp2_with fail
    go_roundw
    case rel=>exact⟨i+1,by omega,by go_num,by rw[E1.o];simp,by rw[E2.o];simp,trivial⟩
    simp[intOf];omega)
 have bE:m<=i:=by omega
 have e:W.take i=W:=Bd (by rw[HM.o];exact bE);rw[e];clear e;cases hp:E6 p W with
 | false =>
  have e:=aV.o hp;subst e;go_wp2;go_ret;exact⟨rfl,aN⟩
 | true =>
  cases hq:E6 q W with
  | false =>
   have e:=aU.o hp hq;subst e;go_wp2;go_ret;exact⟨rfl,aN⟩
  | true =>
   have e:=aT.o hp hq;have HE:=hid e;have bH:=hid fun t=>Ri hq t;clear e hp hq aV aU aT;go_wp2;go_loopw [8,13,14,15,43] (fun s8 _ _ _ s wr=>∃ t k:Nat,t<=m/\s=.int .i64 t/\s8=.int .i64 k/\k=Gb W p q t/\k<=m/\wr=w1) (fun _ _ _ _ s _=>m - (intOf s).toNat)
   case atStart=>exact⟨0,0,by omega,rfl,rfl,rfl,by omega,rfl⟩
   obtain⟨t,k,ht,rfl,rfl,hk,bD,hw⟩:=hrel;have aE:=hw.symm;clear hw;subst aE;have HK:=hid hk;clear hk;by_cases aL:t < m
   ·obtain⟨ad,x,rfl,bF,hx,c0⟩:=aJ.at_ aL;have HX:=hid hx;clear hx;by_cases aH:x=p
    ·subst aH;have bB:(x != x)=false:=by simp
     go_wp2;go_loopw [15] (fun s wr=>∃ d f:Nat,1<=d/\d+f=m+1/\s=.int .i64 d/\Kg W q t f d=Ph W q t/\(∃ e,d<=e/\e<=m/\W[(t+e) % m]? = some q)/\wr=w1) (fun s _=>m+1 - (intOf s).toNat)
     case atStart =>
      obtain⟨e,h1,h2,h3⟩:=bH.o t;rw[HM.o] at h2 h3;exact⟨1,m,by omega,by omega,rfl,by unfold Ph;rw[HM.o],⟨e,h1,h2,h3⟩,rfl⟩
     obtain⟨d,f,bN,bM,rfl,aD,aM,hw⟩:=hrel;have aE:=hw.symm;clear hw;subst aE;have bL:d<=m:=by obtain⟨e,h1,h2,_⟩:=aM;omega
     obtain⟨r,hr⟩:∃ r,r=(t+d) % m:=⟨_,rfl⟩;have aZ:r < m:=by rw[hr];exact Nat.mod_lt _ (by omega)
     obtain⟨bP,y,e2,_,hy,d0⟩:=aJ.at_ aZ;injection e2 with e2;subst e2;have bA:((t:Int)+(d:Int)) % (m:Int)=(r:Int):=by rw[hr,Di];rfl
     have bJ:((t:Int)+(d:Int)).tmod (m:Int)=(r:Int):=by rw[Ce (by omega)];exact bA
     have HD:=hid aD;have aQ:=hid aM;have HY:=hid hy;have aR:=hid hr;have bK:¬ m=0:=by omega
     clear aD aM hy hr;by_cases aG:y=q
     ·subst aG;have aK:(y != y)=false:=by simp
      have aP:Kg W y t f d=d:=Qm (by rw[HM.o,<- aR.o];exact HY.o);have hD:=HD.o;rw[aP] at hD;have aX:=hid hD;have bI:max (k:Int) (d:Int)=((max k d:Nat):Int):=by omega
      have aO:Hd (max k d=Gb W x y (t+1)):=hid (by simp only[Gb];rw[if_pos HX.o,HK.o,hD]);have bC:max k d<=m:=by omega
      clear hD aP HD;go_wp2;go_roundw
      case rel=>exact⟨t+1,max k d,by omega,by go_num,by first | (congr 1;done) | (congr 1;first | omega | (split <;> omega)),aO.o,bC,trivial⟩
      simp[intOf];omega
     have aK:(y != q)=true:=Bz.2 aG;have aF:¬ W[(t+d) % W.length]? = some q:=by
      rw[HM.o,<- aR.o,HY.o];intro e;injection e with e;exact aG e
     have aI:∃ e,d+1<=e/\e<=m/\W[(t+e) % m]? = some q:=by
      obtain⟨e,h1,h2,h3⟩:=aQ.o;refine⟨e,?_,h2,h3⟩;rcases Bk d e with h4 | h4
      ·exact h4
      have:e=d:=by omega
      subst this;rw[HM.o] at aF;exact absurd h3 aF
     obtain⟨f',rfl⟩:∃ f',f=f'+1:=⟨f - 1,by obtain⟨e,h1,h2,_⟩:=aI;omega⟩;have hD:=HD.o;rw[Te aF] at hD;have aX:=hid hD;have bG:=hid aI;clear hD HD aF aI aQ;go_wp2;go_roundw
     case rel=>exact⟨d+1,f',by omega,by omega,by go_num,aX.o,bG.o,trivial⟩
     simp[intOf];omega
    have bB:(x != p)=true:=Bz.2 aH;have aO:Hd (k=Gb W p q (t+1)):=hid (by
     simp only[Gb];rw[if_neg (by rw[HX.o];intro e;injection e with e;exact aH e)];exact HK.o)
    go_wp2;go_roundw
    case rel=>exact⟨t+1,k,by omega,by go_num,rfl,aO.o,bD,trivial⟩
    simp[intOf];omega
   obtain rfl:t=m:=by omega
   have hR:R=(k:Int):=by rw[HE.o,HK.o]
   have HR:=hid hR;clear hR;go_wp2;go_ret;exact⟨by rw[HR.o];rfl,aN⟩
theorem Pu(A:Option Addr)(n cap:Nat)(L:List Rn)(w:World)(h:RdR w w.heap.size A n L)(hc:n<=cap)(hn:n<=1048576)(ht:ticks L<=1099511627776):
  Calls Tryz.prog 52 #[.slice A n cap] w (Ans (.int .i64 (ticks L:Nat)) w):=by
 generalize hT:ticks L=T at ht;have HT:=hid hT;clear hT;go_in;go_wp2;go_loopw [3,5,8] (fun q _ s wr=>∃ i k:Nat,i<=n/\s=.int .i64 i/\q=.int .i64 k/\k=ticks (L.take i)/\Below w.heap.size w wr) (fun _ _ s _=>n - (intOf s).toNat)
 case atStart=>exact⟨0,0,by omega,rfl,rfl,by simp[ticks],Aj _ _⟩
 obtain⟨i,k,hi,rfl,rfl,hk,hb⟩:=hrel;have HK:=hid hk;clear hk;by_cases aF:i < n
 ·obtain⟨ad,r,rfl,aI,hr,c0,c1⟩:=(h.on hb).at_ aF;have aA:=L0 hr;have aB:=Gg L (i+1);rw[HT.o] at aB;have aC:k+r.n=ticks (L.take (i+1)):=by rw[aA,HK.o]
  have aG:k+r.n<=1099511627776:=by omega
  have aE:=hid aC;have aD:=bl1 wr (.cells #[.int .i64 r.p,.int .i64 (r.n:Int)] 129);have HB:=hid (hb.trans (aD.mono hb.size));obtain⟨rp,rn⟩:=r;dsimp only at c0 c1 aG aE HB;have HS:=hid fun W=>Wf (k:Int) (rn:Int) (k:Int) (rn:Int) W (by omega) (by omega) (by omega) rfl rfl;clear hr aA aB aC aD;go_wp2_with fail;refine(HS.o _).mono ?_;rintro e w5⟨rfl,rfl⟩;go_wp2;go_roundw
  case rel=>exact⟨i+1,k+rn,by omega,by go_num,by go_num,aE.o,HB.o⟩
  simp[intOf];omega
 have aH:n<=i:=by omega
 have e:L.take i=L:=Bd (by rw[h.len];exact aH);have hk:=HK.o;rw[e,HT.o] at hk;subst hk;clear e HK;go_wp2;go_ret;exact Ans.mk rfl hb
def Gt(p:Int):List Int->Nat
 | []=>0
 | x::l=>(if x=p then 1 else 0)+Gt p l
theorem Mv(p:Int)(a b:List Int):Gt p (a++b)=Gt p a+Gt p b:=by
 induction a with
 | nil=>simp[Gt]
 | cons x a ih=>simp only[Bo,Gt,ih];omega
theorem jf(p:Int)(a:List Int):Gt p a<=a.length:=by
 induction a with
 | nil=>simp[Gt]
 | cons x a ih=>simp only[Gt,Ad];split <;> omega
theorem Zd{W:List Int}{i:Nat}{x:Int}(p:Int)(h:W[i]? = some x):Gt p (W.take (i+1))=Gt p (W.take i)+if x=p then 1 else 0:=by
 obtain⟨hi,e⟩:=Af.1 h;rw[Cb hi,Mv,e];simp[Gt]
def My(W:List Int)(p:Int)(P:Nat):Nat->Nat
 | 0=>P+1
 | k+1=>min (My W p P k) (Gt p ((W.drop (k*P)).take P))
def Fr(W:List Int)(p z:Int):Int:=if z < 1 then -1 else if W.length=0 then -1 else if W.length % z.toNat≠0 then -1 else (My W p z.toNat (W.length / z.toNat):Int)
theorem Oo(A:Option Addr)(n cap:Nat)(L:List Rn)(p z:Int)(w:World)(h:RdR w w.heap.size A n L)(hc:n<=cap)(hn:n<=1048576)(ht:ticks L<=8192)(hz:Ef z):
  Calls Tryz.prog 54 #[.slice A n cap,.int .i64 p,.int .i64 z] w (Ans (.int .i64 (Fr (Dx L) p z)) w):=by
 have hW:=Pn A n cap L w h hc hn ht;have hl:=Gc L;unfold mj at hW;generalize Dx L=W at hW hl |-;have hm:W.length<=8192:=by omega
 have aN:z < 1->Fr W p z=-1:=fun e=>if_pos e;have aC:¬ z < 1->W.length=0->Fr W p z=-1:=fun e e2=>by unfold Fr;rw[if_neg e,if_pos e2]
 have aB:¬ z < 1->¬ W.length=0->W.length % z.toNat≠0->Fr W p z=-1:=fun e e2 e3=>by unfold Fr;rw[if_neg e,if_neg e2,if_pos e3]
 have aA:¬ z < 1->¬ W.length=0->W.length % z.toNat=0->Fr W p z=(My W p z.toNat (W.length / z.toNat):Int):=fun e e2 e3=>by unfold Fr;rw[if_neg e,if_neg e2,if_neg (by simpa using e3)]
 generalize Fr W p z=R at aN aC aB aA |-;generalize hM:W.length=m at hW hm aC aB aA;have HM:=hid hM;have HW:=hid hW;have H0:=hid aN;have H1:=hid aC;have H2:=hid aB;have H3:=hid aA;unfold Ef at hz;clear hW aN aC aB aA hM h hl;go_in;go_wp2_with fail;refine HW.o.mono ?_;rintro e w1⟨A1,c1,rfl,aU,bN,aI⟩;by_cases aZ:z < 1
 ·have e:=H0.o aZ;subst e;go_wp2;go_ret;exact⟨rfl,aI⟩
 obtain⟨P,rfl⟩:=Ax (show 0<=z by omega);have bP:1<=P:=by omega
 by_cases aG:m=0
 ·have e:=H1.o (by omega) aG;have bE:((m:Int) == 0)=true:=Ck.2 (by omega);subst e;subst aG;go_wp2;go_ret;exact⟨rfl,aI⟩
 have bE:((m:Int) == 0)=false:=Ak.2 (by omega);have bQ:¬ P=0:=by omega
 by_cases aE:m % P=0
 ·have e:=H3.o (by omega) aG aE;rw[Bx] at e;have h1:(m:Int) % (P:Int)=0:=by rw[<- Di,aE];rfl
  have h2:(m:Int).tmod (P:Int)=0:=by rw[Ce (C5 _)];exact h1
  have h3:((m:Int).tmod (P:Int) != 0)=false:=by rw[h2];rfl
  have h4:((m:Int) % (P:Int) != 0)=false:=by rw[h1];rfl
  obtain⟨K,hK⟩:∃ K,K=m / P:=⟨_,rfl⟩;have aO:K*P=m:=by rw[hK];exact Nat.div_mul_cancel (Nat.dvd_of_mod_eq_zero aE)
  rw[<- hK] at e;have HE:=hid e;have aP:=hid aO;have bO:P<=m:=by
   rcases Dm K with h0 | h0
   ·rw[h0] at aO;omega
   have:=Nat.le_mul_of_pos_left P h0;omega
  clear e aO hK aE H0 H1 H2 H3;go_wp2;go_loopw [8,9,10,12] (fun s8 s9 _ _ wr=>∃ k t l:Nat,k<=K/\t=k*P/\l=My W p P k/\s9=.int .i64 t/\s8=.int .i64 l/\t<=m/\l<=8193/\wr=w1) (fun _ s9 _ _ _=>m - (intOf s9).toNat)
  case atStart=>exact⟨0,0,P+1,by omega,by omega,rfl,rfl,by go_num,by omega,by omega,rfl⟩
  obtain⟨k,t,l,hk,aT,aV,rfl,rfl,bJ,bL,hw⟩:=hrel;have aL:=hw.symm;clear hw;subst aL;have aF:=hid aT;have aX:=hid aV;clear aT aV;by_cases bF:t < m
  ·have aH:k < K:=by
    rcases Bk k K with h5 | h5
    ·exact h5
    have:=Cd P h5;rw[aP.o,<- aF.o] at this;omega
   have bB:t+P<=m:=by
    have:=Cd P (show k+1<=K from aH);rw[aP.o,Db,<- aF.o] at this;exact this
   obtain⟨ad,x0,rfl,_⟩:=aU.at_ bF;have bM:¬ c1=t:=by omega
   go_wp2;go_loopw [10,12,45] (fun aY _ s wr=>∃ j q:Nat,j<=P/\s=.int .i64 j/\aY=.int .i64 q/\q=Gt p (((W.drop t).take P).take j)/\q<=j/\wr=w1) (fun _ _ s _=>P - (intOf s).toNat)
   case atStart=>exact⟨0,0,by omega,rfl,rfl,by simp[Gt],by omega,rfl⟩
   obtain⟨j,q,hj,rfl,rfl,hq,bK,hw⟩:=hrel;have aL:=hw.symm;clear hw;subst aL;have HQ:=hid hq;clear hq;by_cases bG:j < P
   ·obtain⟨bR,x,e2,_,hx,d0⟩:=aU.at_ (i:=t+j) (by omega);injection e2 with e2;subst e2;rw[<- Ka] at d0;have aR:((W.drop t).take P)[j]? = some x:=by rw[List.getElem?_take,if_pos bG,List.getElem?_drop];exact hx
    have aM:=Zd p aR;rw[<- HQ.o] at aM;have aJ:=hid aM;clear aM aR hx;by_cases aK:x=p
    ·subst aK;have bC:(x == x)=true:=by simp
     have aD:=aJ.o;rw[if_pos rfl] at aD;have aQ:=hid aD;clear aD aJ;go_wp2;go_roundw
     case rel=>exact⟨j+1,q+1,by omega,by go_num,by go_num,aQ.o.symm,by omega,trivial⟩
     simp[intOf];omega
    have bC:(x == p)=false:=Ak.2 aK;have aD:=aJ.o;rw[if_neg aK] at aD;have aQ:=hid aD;clear aD aJ;go_wp2;go_roundw
    case rel=>exact⟨j+1,q,by omega,by go_num,by go_num,aQ.o.symm,by omega,trivial⟩
    simp[intOf];omega
   have e:((W.drop t).take P).take j=(W.drop t).take P:=Bd (by rw[Cl];omega);have hq:=HQ.o;rw[e] at hq;have bI:Hd (min l q=My W p P (k+1)):=hid (by simp only[My];rw[<- aX.o,<- aF.o,<- hq]);have bH:Hd (t+P=(k+1)*P):=hid (by rw[Db,<- aF.o]);have bD:min l q<=8193:=by omega
   clear hq e HQ;go_wp2;go_roundw
   case rel=>exact⟨k+1,t+P,min l q,by omega,bH.o,bI.o,by go_num,by first | (congr 1;done) | (congr 1;first | omega | (split <;> omega)),bB,bD,trivial⟩
   simp[intOf];omega
  have aH:k=K:=by
   rcases Bk k K with h5 | h5
   ·have:=Cd P (show k+1<=K from h5);rw[aP.o,Db,<- aF.o] at this;omega
   omega
  have hR:R=(l:Int):=by rw[HE.o,aX.o,aH]
  have HR:=hid hR;have bA:¬ (t:Int) < (m:Int):=by omega
  clear hR aH;go_wp2;go_ret;exact⟨by rw[HR.o];rfl,aI⟩
 have e:=H2.o (by omega) aG (by rw[Bx];exact aE);have h1:¬ (m:Int) % (P:Int)=0:=by rw[<- Di];omega
 have h2:¬ (m:Int).tmod (P:Int)=0:=by rw[Ce (C5 _)];exact h1
 have h3:((m:Int).tmod (P:Int) != 0)=true:=Bz.2 h2;have h4:((m:Int) % (P:Int) != 0)=true:=Bz.2 h1;subst e;go_wp2;go_ret;exact⟨rfl,aI⟩
