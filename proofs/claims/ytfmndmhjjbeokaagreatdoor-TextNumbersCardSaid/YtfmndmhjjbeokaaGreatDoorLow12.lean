import Derived.Test.YtfmndmhjjbeokaaGreatDoorLow11
import Derived.Great.BuildSlice
import Derived.StillTailTactics
import Derived.Laws.OwnMore
set_option maxHeartbeats 4000000
set_option maxRecDepth 100000
set_option linter.unusedSimpArgs false
set_option linter.unusedVariables false
namespace Go.Proofs.YtfmndmhjjbeokaaGreatDoor
open Go.RowKit Tab
def Qan(l:List Nd)(w:World)(e:Ending)(w':World):Prop:=∃ A n c,e=.returned (.slice A n c)/\Ft w' w.heap.size A n c l/\Below w.heap.size w w'
theorem Ze(ad:Addr)(n cap:Nat)(l:List Nd)(w:World)(h:RdN w w.heap.size (some ad) n l)(hn:n<=1048576):
  Calls Tryz.prog 160 #[.slice (some ad) n cap] w (Qan l w):=by
 have he:∀ w:World,(binOp .eql 34 (.slice (some ad) n cap) (.slice none 0 0)).run Tryz.prog w=.ok (.bool false) w:=fun _=>rfl;have hs:∀ w:World,(Instr.buildSlice 34 0 #[]).run Tryz.prog w=.ok (.slice (some ⟨w.heap.size,0,none⟩) 0 0) (w.alloc (.cells #[] 54)):=fun _=>by
  obtain⟨i,hi,_⟩:=info_parts elN.hi;simp[Instr.buildSlice,run_underlying elN.ht,sizeOf,typeInfo,hi,newRow,Instr.fill];congr 2;apply Array.ext <;> simp
 have aA:=bl1 w (.cells #[] 54);have ho:=D7 w 54 3 w.heap.size #[] 0 rfl (Ag _) (by unfold maxLen;omega);have hr:=h.on aA;go_in;go_wp2_with (at_builtin;go_loud (refine Ej elN rfl (.tmp 5) (.tmp 6) rfl rfl w.heap.size (some ⟨w.heap.size,0,none⟩) 0 0 _ rfl ho (some ad) n cap _ _ rfl hr.rd (by rw[Fy,h.len]) (Je _) (by omega) (by unfold maxLen;omega) aA.size n (by omega) (ns l) (by simp) ?_;intro A2 c2 w2 aB aC _));go_ret;exact⟨A2,n,c2,rfl,⟨h.len,aB,h.bd⟩,aA.trans aC⟩
def Qay(A:Option Addr)(n cap:Nat):Nat->Value:=fun j=>if j=0 then .slice A n cap else .int .i64 0
theorem jv(w:World)(A:Option Addr)(n cap:Nat):Blk (w.alloc (.cells (Value.slice A n cap::List.replicate 36 (.int .i64 0)).toArray 203)) w.heap.size (Qay A n cap):=fun o ho=>by
 refine⟨?_,by simp⟩
 rw[Ab,List.getElem?_toArray]
 cases o with
 | zero=>rfl
 | succ j=>rw[C9,List.getElem?_replicate,if_pos (by omega)];rfl
def Qau(x:Nd)(k:F)(w:World)(e:Ending)(w':World):Prop :=
 ∃(b:Nat) (A:Option Addr) (n cap:Nat),e=.returned (.pointer (some ⟨b,0,none⟩))/\Cur w' b A n cap (x::k.flat) (one x k.lvs) 0 0/\w.heap.size<=b/\Below w.heap.size w w'
theorem Yl(A:Option Addr)(n cap:Nat)(x:Nd)(k:F)(w:World)(h:RdN w w.heap.size A n (x::k.flat))(hc:n<=cap)(aA:(F.cons x k .nil).ok)(hn:n<=128)(hd:k.dep+1<=16)(hl:F.tick x k.len<=4096):
  Calls Tryz.prog 153 #[.slice A n cap] w (Qau x k w):=by
 have hR:=Ij A n cap _ x k w h hc (by omega) aA rfl;have e0:rt n (k.dep+1) (F.tick x k.len)=0:=by unfold rt;rw[if_neg (by omega),if_neg (by omega),if_neg (by omega)]
 rw[e0] at hR;have aI:ticks (one x k.lvs)<=1048576:=by rw[one_ticks,lvs_ticks];omega
 have aF:0 < n:=by rw[<- h.len];simp
 obtain⟨ad,_,rfl,_⟩:=h.at_ aF;have HR:=hid hR;have HO:=hid aA;clear hR e0 aA;go_in;go_wp2_with fail;refine HR.o.mono ?_;rintro e w1⟨rfl,aD⟩;go_wp2_with fail;refine(Ze ad n cap _ w1 (h.on aD) (by omega)).mono ?_;rintro e w2⟨A2,n2,c2,rfl,ho,aK⟩;have e2:n2=n:=by rw[<- ho.len,h.len]
 subst e2;go_wp2_with fail;have aB:∀ aE,A2=some aE->aE.block < w2.heap.size:=fun aE e=>by
  obtain⟨g,hg,_,aJ⟩:=ho.own.block aF;rw[e] at hg;injection hg with hg;rw[hg];exact aJ
 have hT:Tb (w2.alloc (.cells (Value.slice A2 n2 c2::List.replicate 36 (.int .i64 0)).toArray 203)) w2.heap.size A2 n2 c2 (x::k.flat):=⟨⟨ho.len,(ho.rdn).rd.keep fun p hp=>Dd w2 _ p hp,ho.bd⟩,ho.cap,hn⟩;have hB:=jv w2 A2 n2 c2;have aC:=aD.trans (aK.mono aD.size);refine(Yb w2.heap.size A2 n2 c2 x k _ _ hB hT rfl HO.o hd aI).mono ?_;rintro e w3⟨rfl,hC,hG⟩;have hs:w2.heap.size < (w2.alloc (.cells (Value.slice A2 n2 c2::List.replicate 36 (.int .i64 0)).toArray 203)).heap.size:=by simp
 have aH:Below w2.heap.size w2 w3:=by
  have h1:=bl1 w2 (.cells (Value.slice A2 n2 c2::List.replicate 36 (.int .i64 0)).toArray 203);exact⟨hG.os.trans h1.os,hG.tape.trans h1.tape,hG.output.trans h1.output,Ai h1.size hG.size,fun j hj=>(hG.block j (by omega) (fun e=>by injection e with e;omega)).trans (h1.block j hj)⟩
 have HC:=hid hC;have aL:=hid (aC.trans (aH.mono aC.size));have aG:=aC.size;clear hC hG aH hB hT aB ho;generalize w2.heap.size=b at HC aG |-;go_wp2;go_ret;exact⟨b,A2,n2,c2,rfl,HC.o,aG,aL.o⟩
theorem ej{B b:Nat}{w w1 w2:World}(h:Below B w w1)(hG:w1.grownBy w2 (some b))(hB:B<=b)(hs:B<=w1.heap.size):Below B w w2 :=
 ⟨hG.os.trans h.os,hG.tape.trans h.tape,hG.output.trans h.output,Ai h.size hG.size,fun j hj=>(hG.block j (by omega) (fun e=>by injection e with e;omega)).trans (h.block j hj)⟩
theorem L0{L:List Rn}{i:Nat}{r:Rn}(h:L[i]? = some r):ticks (L.take (i+1))=ticks (L.take i)+r.n:=by
 obtain⟨hi,e⟩:=Af.1 h;rw[Cb hi,ticks_append,e];simp[ticks]
theorem Y9{L:List Rn}{i:Nat}{r:Rn}(h:L[i]? = some r):L.drop i=r::L.drop (i+1):=by
 obtain⟨hi,e⟩:=Af.1 h;rw[List.drop_eq_getElem_cons hi,e]
theorem Gg(L:List Rn)(i:Nat):ticks (L.take i)<=ticks L:=by
 have:=ticks_append (L.take i) (L.drop i);rw[Dl] at this;omega
theorem Mx(L:List Rn)(i:Nat):ticks (tidy (L.take i))<=ticks L:=by rw[ticks_tidy];exact Gg L i
theorem Ry{L:List Rn}{i:Nat}{o:List Rn}{y r:Rn}(hr:L[i]? = some r)(ho:tidy (L.take i)=o++[y]):y.n+r.n<=ticks L:=by
 have h1:=Mx L (i+1);rw[tidy_more hr,ho,ticks_push,ticks_append] at h1;simp only[ticks] at h1;omega
structure Hq(W:World)(B:Nat)(ad:Addr)(k c:Nat)(o:List Rn)(y:Rn):Prop where
 g:∃ g,ad=⟨g,0,none⟩/\OwnV 129 2 W B (some ⟨g,0,none⟩) (k+1) c (rs (o++[y]))
 len:o.length=k
 c0:W.cell? (ad.add (k*2))=some (.int .i64 y.p)
 c1:W.cell? ⟨(ad.add (k*2)).block,(ad.add (k*2)).off+1,none⟩=some (.int .i64 (y.n:Int))
 f1:W.frozen? ⟨(ad.add (k*2)).block,(ad.add (k*2)).off+1,none⟩=false
 lt:ad.block < W.heap.size
theorem Rm(g k:Nat):(⟨((⟨g,0,none⟩:Addr).add (k*2)).block,((⟨g,0,none⟩:Addr).add (k*2)).off+1,none⟩:Addr)=⟨g,k*2+1,none⟩:=by
 unfold Addr.add;split
 ·rename_i h;rw[h]
 simp
theorem ew(g k:Nat):(⟨g,0,none⟩:Addr).add k=⟨g,k,none⟩:=by
 unfold Addr.add;split
 ·rename_i h;rw[h]
 simp
theorem Hq.of{W:World}{B m c:Nat}{A:Option Addr}{o:List Rn}{y:Rn}(h:OwnV 129 2 W B A m c (rs (o++[y]))):∃(ad:Addr) (k:Nat),A=some ad/\m=k+1/\Hq W B ad k c o y:=by
 have hl:=h.len;rw[Gi,Aa,List.length_singleton] at hl;obtain⟨k,hk⟩:∃ k,o.length=k:=⟨_,rfl⟩;have hm:m=k+1:=by omega
 subst hm;obtain⟨g,rfl,hg,aB⟩:=h.block (by omega);have aA:(o++[y])[k]'(by simp;omega)=y:=by
  simp[<- hk]
 obtain⟨e0,e1⟩:=af (o++[y]) k (by simp;omega);rw[aA] at e0 e1;refine⟨_,k,rfl,rfl,⟨g,rfl,h⟩,hk,?_,?_,?_,aB⟩
 ·rw[ew];exact(Ah h (k*2) (by omega)).trans e0
 ·rw[Rm];exact(Ah h (k*2+1) (by omega)).trans e1
 rw[Rm];exact Aq h _
theorem Hq.stored{W:World}{B k c:Nat}{ad:Addr}{o:List Rn}{y:Rn}(h:Hq W B ad k c o y)(N:Nat):
  OwnV 129 2 (W.setCell ⟨(ad.add (k*2)).block,(ad.add (k*2)).off+1,none⟩ (.int .i64 (N:Int))) B (some ad) (k+1) c (rs (o++[⟨y.p,N⟩]))/\
   ∀ V,Below B V W->Below B V (W.setCell ⟨(ad.add (k*2)).block,(ad.add (k*2)).off+1,none⟩ (.int .i64 (N:Int))):=by
 obtain⟨g,rfl,hw⟩:=h.g;rw[Rm];have h1:=(World.ownsRow.stored hw (k*2+1) (.int .i64 (N:Int))).1;have e:(rs (o++[y])).set (k*2+1) (.int .i64 (N:Int))=rs (o++[⟨y.p,N⟩]):=by
  rw[Fp,Fp,List.set_append_right _ _ (by rw[Gi,h.len];omega),Gi,h.len];have:k*2+1 - k*2=1:=by omega
  rw[this];rfl
 rw[e] at h1;refine⟨h1,fun V hV=>?_⟩;have aA:B<=g:=by
  obtain⟨g',e',hb,_⟩:=OwnV.block hw (by omega);injection e' with e';injection e' with e';omega
 exact hV.setCell (p:=⟨g,k*2+1,none⟩) aA _
theorem Hq.drewN{W:World}{B k c:Nat}{ad:Addr}{o:List Rn}{y:Rn}(h:Hq W B ad k c o y)(q:Nat):Hq (W.drewN q) B ad k c o y:=⟨h.g,h.len,h.c0,h.c1,h.f1,h.lt⟩
theorem Hq.drew{W:World}{B k c:Nat}{ad:Addr}{o:List Rn}{y:Rn}(h:Hq W B ad k c o y):Hq W.drew B ad k c o y:=⟨h.g,h.len,h.c0,h.c1,h.f1,h.lt⟩
theorem Nm(A:Option Addr)(n cap:Nat)(L:List Rn)(w:World)(h:RdR w w.heap.size A n L)(hc:n<=cap)(hn:n<=1048576)(ht:ticks L<=1099511627776):
  Calls Tryz.prog 140 #[.slice A n cap] w (Qp (tidy L) w):=by
 go_in;go_wp2;go_loopw [3,9] (fun q s wr=>∃(i m c':Nat) (A':Option Addr),i<=n/\s=.int .i64 i/\q=.slice A' m c'/\m<=i/\OwnV 129 2 wr w.heap.size A' m c' (rs (tidy (L.take i)))/\Below w.heap.size w wr) (fun _ s _=>n - (intOf s).toNat)
 case atStart=>exact⟨0,0,0,none,by omega,rfl,rfl,by omega,by simpa [tidy,tidyOn,rs] using OwnV.nil _ _ _ _,Aj _ _⟩
 obtain⟨i,m,c',A',hi,rfl,rfl,hm,aX,hb⟩:=hrel;have aI:=hid aX;clear aX;by_cases bH:i < n
 ·obtain⟨ad,r,rfl,bN,hr,c0,c1⟩:=(h.on hb).at_ bH;have aE:=tidy_more hr;have aL:=tpush_cases (tidy (L.take i)) r;rw[<- aE] at aL;have aR:=bl1 wr (.cells #[.int .i64 r.p,.int .i64 (r.n:Int)] 129);have aZ:=hb.trans (aR.mono hb.size);have bI:=tidy_take_le L (i+1);have aB:=aI.o.below rfl aR;have aC:∀ o y,tidy (L.take i)=o++[y]->y.n+r.n<=ticks L:=fun o y e=>Ry hr e;generalize tidy (L.take i)=T at aI aL aB aC;generalize bA:tidy (L.take (i+1))=T1 at aL bI;have aM:=hid bA;have bC:=hid aZ;clear bA aE hr aR aZ aI;rcases aL with ⟨h0,e⟩ | ⟨h0,e0,e⟩ | ⟨o,y,h0,e0,hp,e⟩ | ⟨o,y,h0,e0,hp,e⟩
  ·have aK:(r.n:Int) < 1:=by omega
   subst e;have aV:=hid aB;clear aB aC h0;go_wp2;go_roundw
   case rel=>exact⟨i+1,m,c',A',by omega,by go_num,rfl,by omega,by rw[aM.o];exact aV.o,bC.o⟩
   simp[intOf];omega
  ·subst e0;have bG:m=0:=by have:=aB.len;simp[rs] at this;omega
   subst bG;have aK:¬ (r.n:Int) < 1:=by omega
   subst e;clear aC h0;go_wp2_with fail;go_quiet (fail);have aH:Below wr.heap.size wr ((wr.alloc (.cells #[.int .i64 r.p,.int .i64 (r.n:Int)] 129)).drewN nq):=Below.drewN (bl1 wr _) nq;have aP:wr.heap.size < ((wr.alloc (.cells #[.int .i64 r.p,.int .i64 (r.n:Int)] 129)).drewN nq).heap.size:=by simp
   have b0:((wr.alloc (.cells #[.int .i64 r.p,.int .i64 (r.n:Int)] 129)).drewN nq).cell? ⟨wr.heap.size,0,none⟩=some (.int .i64 r.p):=Ab _ _ _ _ _;have b1:((wr.alloc (.cells #[.int .i64 r.p,.int .i64 (r.n:Int)] 129)).drewN nq).cell? ⟨wr.heap.size,1,none⟩=some (.int .i64 (r.n:Int)):=Ab _ _ _ _ _;have aA:OwnV 129 2 ((wr.alloc (.cells #[.int .i64 r.p,.int .i64 (r.n:Int)] 129)).drewN nq) w.heap.size A' 0 c' (rs []):=aB.keep fun _ _ _=>rfl;generalize (wr.alloc (.cells #[.int .i64 r.p,.int .i64 (r.n:Int)] 129)).drewN nq=W at aH aP b0 b1 aA |-;have aG:=aA.below rfl (bl1 W (.cells #[.int .i64 r.p,.int .i64 (r.n:Int)] 129));have aQ:=rdV_new W #[.int .i64 r.p,.int .i64 (r.n:Int)] 129 (rs [r]) rfl;have aF:=(hb.trans (aH.mono hb.size)).alloc (by have:=hb.size;omega) (.cells #[.int .i64 r.p,.int .i64 (r.n:Int)] 129);have bE:0+1<=1048577:=by omega
   clear aB aA c0 c1;go_wp2_with (at_builtin;go_loud (refine Ej elR rfl (.tmp 43) (.tmp 45) rfl rfl w.heap.size _ _ c' _ rfl aG _ 1 1 _ _ rfl aQ rfl (Kl _) (by omega) (by unfold maxLen;omega) aF.size (0+1) rfl (rs ([]++[r])) (Fp _ _).symm ?_;intro A2 c2 w2 aO aT _));go_roundw
   case rel=>exact⟨i+1,_,c2,A2,by omega,by go_num,rfl,by omega,by rw[aM.o];exact aO,aF.trans aT⟩
   simp[intOf];omega
  ·subst e0;have aK:¬ (r.n:Int) < 1:=by omega
   have bD:=aC o y rfl;obtain⟨aU,k,rfl,rfl,hL⟩:=Hq.of aB;obtain⟨yp,yn⟩:=y;obtain⟨rp,rn⟩:=r;dsimp only at hp aK bD c0 c1 e h0 |-;subst hp;have HL:=hid hL;have d0:=hL.c0;have d1:=hL.c1;have d2:=hL.f1;have d3:=hL.lt;dsimp only at d0 d1 d2 d3;clear aC h0 hL aB;go_wp2_with fail;go_quiet (fail);go_wp2_with fail;have aF:=hb.trans ((Below.drewN (bl1 wr (.cells #[.int .i64 yp,.int .i64 (rn:Int)] 129)) nq).mono hb.size);have b1:((wr.alloc (.cells #[.int .i64 yp,.int .i64 (rn:Int)] 129)).drewN nq).cell? ⟨wr.heap.size,1,none⟩=some (.int .i64 (rn:Int)):=Ab _ _ _ _ _;have aJ:=hid (HL.o.drewN nq);have d1:=aJ.o.c1;have d2:=aJ.o.f1;have d3:=aJ.o.lt;dsimp only at d1 d2 d3;have bB:=hid aF;clear HL d0 c0 c1 aF bC;generalize (wr.alloc (.cells #[.int .i64 yp,.int .i64 (rn:Int)] 129)).drewN nq=W at b1 aJ d1 d2 d3 bB |-;generalize wr.heap.size=gx at b1 |-;have bF:=Od (yn:Int) (rn:Int) _ _ W.drew (by omega) (by omega) (by omega) rfl rfl;have bM:(k:Int) < (k:Int)+1:=by omega
   go_still_tail 12,(by kernel_rfl)
   still_call bF
   repeat still_step
   refine wpStill_nil ?_;change wpList _ _ _ _ _ W.drew;go_wp2_with fail;obtain⟨aN,aY⟩:=(aJ.o.drew).stored (yn+rn);rw[Int.natCast_add] at aN aY;rw[<- e] at aN;go_roundw
   case rel=>exact⟨i+1,_,c',some aU,by omega,by go_num,rfl,by omega,by rw[aM.o];exact aN,aY _ bB.o.drew⟩
   simp[intOf];omega
  subst e0;have aK:¬ (r.n:Int) < 1:=by omega
  obtain⟨aU,k,rfl,rfl,hL⟩:=Hq.of aB;have bL:(y.p == r.p)=false:=Ak.2 hp;have d0:=hL.c0;have d3:=hL.lt;subst e;clear aC h0 hL hp;go_wp2_with fail;go_quiet (fail);have aH:Below wr.heap.size wr ((wr.alloc (.cells #[.int .i64 r.p,.int .i64 (r.n:Int)] 129)).drewN nq):=Below.drewN (bl1 wr _) nq;have aP:wr.heap.size < ((wr.alloc (.cells #[.int .i64 r.p,.int .i64 (r.n:Int)] 129)).drewN nq).heap.size:=by simp
  have b0:((wr.alloc (.cells #[.int .i64 r.p,.int .i64 (r.n:Int)] 129)).drewN nq).cell? ⟨wr.heap.size,0,none⟩=some (.int .i64 r.p):=Ab _ _ _ _ _;have b1:((wr.alloc (.cells #[.int .i64 r.p,.int .i64 (r.n:Int)] 129)).drewN nq).cell? ⟨wr.heap.size,1,none⟩=some (.int .i64 (r.n:Int)):=Ab _ _ _ _ _;have aA:OwnV 129 2 ((wr.alloc (.cells #[.int .i64 r.p,.int .i64 (r.n:Int)] 129)).drewN nq) w.heap.size (some aU) (k+1) c' (rs (o++[y])):=aB.keep fun _ _ _=>rfl;generalize (wr.alloc (.cells #[.int .i64 r.p,.int .i64 (r.n:Int)] 129)).drewN nq=W at aH aP b0 b1 aA |-;have aG:=aA.below rfl (bl1 W (.cells #[.int .i64 r.p,.int .i64 (r.n:Int)] 129));have aQ:=rdV_new W #[.int .i64 r.p,.int .i64 (r.n:Int)] 129 (rs [r]) rfl;have aF:=(hb.trans (aH.mono hb.size)).alloc (by have:=hb.size;omega) (.cells #[.int .i64 r.p,.int .i64 (r.n:Int)] 129);have bE:(k+1)+1<=1048577:=by omega
  clear aB aA c0 c1;go_wp2_with (at_builtin;go_loud (refine Ej elR rfl (.tmp 43) (.tmp 45) rfl rfl w.heap.size _ _ c' _ rfl aG _ 1 1 _ _ rfl aQ rfl (Kl _) (by omega) (by unfold maxLen;omega) aF.size ((k+1)+1) rfl (rs ((o++[y])++[r])) (Fp _ _).symm ?_;intro A2 c2 w2 aO aT _));go_roundw
  case rel=>exact⟨i+1,_,c2,A2,by omega,by go_num,rfl,by omega,by rw[aM.o];exact aO,aF.trans aT⟩
  simp[intOf];omega
 have bK:n<=i:=by omega
 have e:L.take i=L:=Bd (by rw[h.len];exact bK);have aA:=aI.o;rw[e] at aA;have aD:=hid aA;clear e aA aI;go_wp2;go_ret;have hl:=aD.o.len;rw[Gi] at hl;have bJ:m=(tidy L).length:=by omega
 subst bJ;exact⟨A',c',rfl,aD.o.rdr,aD.o.cap,hb,aD.o.newer⟩
