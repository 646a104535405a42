import Derived.Test.YtfmndmhjjbeokaaGreatDoorLow15
import Derived.Test.YtfmndmhjjbeokaaGreatDoorLow14
set_option maxHeartbeats 4000000
set_option maxRecDepth 100000
set_option linter.unusedSimpArgs false
set_option linter.unusedVariables false
namespace Go.Proofs.YtfmndmhjjbeokaaGreatDoor
open Go.RowKit Tab
theorem Cur.belowB{w w':World}{b B:Nat}{A:Option Addr}{n cap:Nat}{l:List Nd}{td:List Rn}{tk gn:Nat}(h:Cur w b A n cap l td tk gn)(hb:Below B w w')(aA:b < B):Cur w' b A n cap l td tk gn:=by
 obtain⟨c,st,p,hB,r⟩:=h.ex;exact⟨⟨⟨h.tb.rd.len,h.tb.rd.rd.keep fun q hq=>Bf (hb.block q.block (by omega)),h.tb.rd.bd⟩,h.tb.cap,h.tb.hn⟩,⟨c,st,p,hB.keep (hb.block b aA),r⟩,h.low,h.low0,h.sum,h.pos⟩
theorem Si(A:Option Addr)(n cap:Nat)(x:Nd)(k:F)(w:World)(h:RdN w w.heap.size A n (x::k.flat))(hc:n<=cap)(aO:(F.cons x k .nil).ok)(hn:n<=128)(hd:k.dep+1<=16)(hl:F.tick x k.len<=4096):
  Calls Tryz.prog 141 #[.slice A n cap] w (Qp (one x k.lvs) w):=by
 have hN:=Yl A n cap x k w h hc aO hn hd hl;have aH:∀ r∈one x k.lvs,1<=r.n:=fun r hr=>lvs_pos aO r (by simpa [F.lvs] using hr);have aC:=length_le_ticks aH;rw[one_ticks,lvs_ticks] at aC;unfold Qau at hN;generalize x::k.flat=l at hN h;generalize one x k.lvs=L at hN aC |-;have bJ:L.length<=4096:=by omega
 have HN:=hid hN;clear hN aH aC aO h;go_in;go_wp2_with fail;refine HN.o.mono ?_;rintro e w1⟨b,A2,n2,c2,rfl,hC,bI,aQ⟩;have HC:=hid hC;have aK:=hC.lt;clear hC HN;go_wp2;go_loopw [3] (fun q wr=>∃(i c' gn:Nat) (A':Option Addr),i<=L.length/\q=.slice A' i c'/\OwnV 129 2 wr w1.heap.size A' i c' (rs (L.take i))/\Cur wr b A2 n2 c2 l (L.drop i) 0 gn/\Below w.heap.size w wr/\w1.heap.size<=wr.heap.size) (fun q _=>L.length - Qc q)
 case atStart=>exact⟨0,0,0,none,by omega,rfl,by simpa [rs] using OwnV.nil _ _ _ _,by simpa using HC.o,aQ,Ag _⟩
 obtain⟨i,c',gn,A',hi,rfl,aE,hC,hb,bO⟩:=hrel;have aM:=hid aE;have aD:=hid hC;clear aE hC HC;by_cases bF:i < L.length
 ·obtain⟨r,hr⟩:∃ r,L[i]? = some r:=⟨_,Am bF⟩;have hC:=aD.o;rw[Y9 hr] at hC;have aF:=Yk b A2 n2 c2 l r _ 0 gn wr hC;rw[Nat.sub_zero] at aF;have aT:rs (L.take (i+1))=rs (L.take i)++rs [r]:=by
   obtain⟨bH,e⟩:=Af.1 hr;rw[Cb bH,Fp,e]
  have aG:=hid aF;have bK:=hid aT;clear hC aF aT hr aD;generalize aV:r.p=rp at aG;generalize aX:r.n=rn at aG;have aU:rs [r]=[.int .i64 rp,.int .i64 (rn:Int)]:=by rw[<- aV,<- aX];rfl
  have bL:=hid aU;clear aU aV aX;go_wp2_with fail;refine aG.o.mono ?_;rintro e w4⟨rfl,bC,aL⟩;have aI:=aM.o.gb aL aK;have k4:=ej hb aL bI hb.size;have aD:=hid bC;have bQ:=aL.size;clear bC aL aM aG;have hl4:=bl1 w4 (.cells #[.int .i64 rp,.int .i64 (rn:Int)] 129);have aA:=aI.below rfl hl4;have k5:=k4.trans (hl4.mono k4.size);have bB:=aD.o.below hl4;have bP:=hl4.size;have b0:(w4.alloc (.cells #[.int .i64 rp,.int .i64 (rn:Int)] 129)).cell? ⟨w4.heap.size,0,none⟩=some (.int .i64 rp):=Ab _ _ _ _ _;have b1:(w4.alloc (.cells #[.int .i64 rp,.int .i64 (rn:Int)] 129)).cell? ⟨w4.heap.size,1,none⟩=some (.int .i64 (rn:Int)):=Ab _ _ _ _ _;have bN:=hid bB;have bM:=hid aA;have bD:=hid k5;clear bB aA k5 aI k4 hl4 aD;have aJ:=fun W:World=>bl1 W (.cells #[.int .i64 rp,.int .i64 (rn:Int)] 129);have aB:=hid aJ;have aY:=rdV_new (w4.alloc (.cells #[.int .i64 rp,.int .i64 (rn:Int)] 129)) #[.int .i64 rp,.int .i64 (rn:Int)] 129 (rs [r]) bL.o.symm;have aN:=bM.o.below rfl (aB.o (w4.alloc (.cells #[.int .i64 rp,.int .i64 (rn:Int)] 129)));have bR:=(aB.o (w4.alloc (.cells #[.int .i64 rp,.int .i64 (rn:Int)] 129))).size;rw[show (w4.alloc (.cells #[.int .i64 rp,.int .i64 (rn:Int)] 129)).heap.size=w4.heap.size+1 by simp] at aY;clear aJ;go_wp2_with (at_builtin;go_loud (refine Ej elR rfl (.tmp 17) (.tmp 19) rfl rfl w1.heap.size A' i c' _ rfl aN _ 1 1 _ _ rfl aY rfl (Kl _) (by omega) (by unfold maxLen;omega) (by omega) (i+1) rfl (rs (L.take (i+1))) bK.o.symm ?_;intro A2 c2 w2 bE aP _));go_roundw
  case rel =>
   have k6:=bD.o.trans ((aB.o _).mono bD.o.size);exact⟨i+1,c2,_,A2,by omega,rfl,bE,((bN.o.below (aB.o _)).belowB aP aK),k6.trans (aP.mono aQ.size),by have:=aP.size;omega⟩
  simp[Qc];omega
 have e:L.drop i=[]:=Cq (by omega);have e2:L.take i=L:=Bd (by omega);have hC:=aD.o;rw[e] at hC;have aE:=aM.o;rw[e2] at aE;have aR:=hid aE;have bG:i=L.length:=by omega
 have aF:=cg b A2 n2 c2 l 0 gn wr hC;have aG:=hid aF;clear e e2 hC aE aM aD aF;subst bG;generalize hq:L.length=q at *;have HQ:=hid hq;clear hq;go_wp2_with fail;refine aG.o.mono ?_;rintro e w4⟨rfl,bA⟩;go_wp2;go_ret;have hl4:=bl1 w4 (.cells #[.int .i64 0,.int .i64 0] 129);have aZ:=bA.trans (hl4.mono bA.size);have aA:=aR.o.below rfl aZ;exact⟨A',c',by rw[HQ.o];rfl,by rw[HQ.o];exact aA.rdr,by rw[HQ.o];exact aA.cap,hb.trans (aZ.mono hb.size),(aA.weak aQ.size).newer⟩
def OfR(T:List Rn)(w:World)(e:Ending)(w':World):Prop :=
 if 96 < T.length then Ans (.tuple #[.slice none 0 0,.int .i64 3]) w e w' else
  ∃ A c,e=.returned (.tuple #[.slice A T.length c,.int .i64 0])/\RdR w' w'.heap.size A T.length T/\T.length<=c/\Below w.heap.size w w'/\∀ ad,A=some ad->w.heap.size<=ad.block
theorem Oa(A:Option Addr)(n cap:Nat)(w:World)(R:Int)(hR:Calls Tryz.prog 36 #[.slice A n cap] w (Ans (.int .i64 R) w))(h:¬ R=0):
  Calls Tryz.prog 125 #[.slice A n cap] w (Ans (.tuple #[.slice none 0 0,.int .i64 R]) w):=by
 have HR:=hid hR;have aC:(R != 0)=true:=Bz.2 h;have aA:(R == 0)=false:=Ak.2 h;clear hR;go_in;go_wp2_with fail;refine HR.o.mono ?_;rintro e w1⟨rfl,aB⟩;go_wp2;go_ret2;exact⟨rfl,aB⟩
theorem ie(A:Option Addr)(n cap:Nat)(x:Nd)(k:F)(w:World)(h:RdN w w.heap.size A n (x::k.flat))(hc:n<=cap)(aI:(F.cons x k .nil).ok)(hn:n<=128)(hd:k.dep+1<=16)(hl:F.tick x k.len<=4096)
  (hR:Calls Tryz.prog 36 #[.slice A n cap] w (Ans (.int .i64 0) w)) :
  Calls Tryz.prog 125 #[.slice A n cap] w (OfR (tidy (one x k.lvs)) w):=by
 have aB:∀ r∈one x k.lvs,1<=r.n:=fun r hr=>lvs_pos aI r (by simpa [F.lvs] using hr);have aJ:=length_le_ticks aB;have aP:ticks (one x k.lvs)<=4096:=by rw[one_ticks,lvs_ticks];exact hl
 have HL:=hid fun w' (h':RdN w' w'.heap.size A n (x::k.flat))=>Si A n cap x k w' h' hc aI hn hd hl;generalize one x k.lvs=L at HL aJ aP |-;have HT:=hid fun A2 c2 w2 (aC:RdR w2 w2.heap.size A2 L.length L) (aD:L.length<=c2)=>Nm A2 L.length c2 L w2 aC aD (by omega) (by omega);generalize tidy L=T at HT |-;generalize x::k.flat=l at h HL;unfold Qp at HL HT;have HR:=hid hR;clear hR aB aI;go_in;go_wp2_with fail;refine HR.o.mono ?_;rintro e w1⟨rfl,aE⟩;go_wp2_with fail;refine(HL.o w1 (h.on aE)).mono ?_;rintro e w2⟨A2,c2,rfl,aC,aD,aN,_⟩;have k2:=aE.trans (aN.mono aE.size);have aG:=hid (HT.o A2 c2 w2 aC aD);clear HT aC HL HR aE aN;generalize L.length=q at aD aG |-;go_wp2_with fail;refine aG.o.mono ?_;rintro e w3⟨A3,c3,rfl,aH,aK,aQ,aM⟩;have k3:=k2.trans (aQ.mono k2.size);have HW:=hid fun ad e=>Ai k2.size (aM ad e);clear aM;by_cases aF:96 < T.length
 ·have aL:=hid aF;have aA:(96:Int) < (T.length:Int):=by omega
  generalize T.length=m at aA aK aH |-;clear aG aF;go_wp2;go_ret2;unfold OfR;rw[if_pos aL.o];exact⟨rfl,k3⟩
 have aL:=hid aF;have aA:¬ (96:Int) < (T.length:Int):=by omega
 have aO:=hid aH;clear aH aG aF;generalize hm:T.length=m at aA aK aO |-;have HM:=hid hm;clear hm;go_wp2;go_ret2;unfold OfR;rw[if_neg aL.o];exact⟨A3,c3,by rw[HM.o];rfl,by rw[HM.o];exact aO.o,by rw[HM.o];exact aK,k3,HW.o⟩
theorem L5(A:Option Addr)(n cap:Nat)(w:World)(R:Int)(hR:Calls Tryz.prog 18 #[.slice A n cap] w (Ans (.int .i64 R) w))(h:¬ R=0):
  Calls Tryz.prog 51 #[.slice A n cap] w (Ans (.tuple #[.slice none 0 0,.int .i64 R]) w):=by
 have HR:=hid hR;have aC:(R != 0)=true:=Bz.2 h;have aA:(R == 0)=false:=Ak.2 h;clear hR;go_in;go_wp2_with fail;refine HR.o.mono ?_;rintro e w1⟨rfl,aB⟩;go_wp2;go_ret2;exact⟨rfl,aB⟩
theorem R8(A:Option Addr)(n cap:Nat)(x:Nd)(k:F)(w:World)(h:RdN w w.heap.size A n (x::k.flat))(hc:n<=cap)(aI:(F.cons x k .nil).ok)(hn:n<=128)(hd:k.dep+1<=16)(hl:F.tick x k.len<=4096)
  (hR:Calls Tryz.prog 18 #[.slice A n cap] w (Ans (.int .i64 0) w)) :
  Calls Tryz.prog 51 #[.slice A n cap] w (OfR (tidy (one x k.lvs)) w):=by
 have aB:∀ r∈one x k.lvs,1<=r.n:=fun r hr=>lvs_pos aI r (by simpa [F.lvs] using hr);have aJ:=length_le_ticks aB;have aP:ticks (one x k.lvs)<=4096:=by rw[one_ticks,lvs_ticks];exact hl
 have HL:=hid fun w' (h':RdN w' w'.heap.size A n (x::k.flat))=>Pd A n cap x k w' h' hc aI hn hl;generalize one x k.lvs=L at HL aJ aP |-;have HT:=hid fun A2 c2 w2 (aC:RdR w2 w2.heap.size A2 L.length L) (aD:L.length<=c2)=>Xz A2 L.length c2 L w2 aC aD (by omega) (by omega);generalize tidy L=T at HT |-;generalize x::k.flat=l at h HL;unfold Qp at HL HT;have HR:=hid hR;clear hR aB aI;go_in;go_wp2_with fail;refine HR.o.mono ?_;rintro e w1⟨rfl,aE⟩;go_wp2_with fail;refine(HL.o w1 (h.on aE)).mono ?_;rintro e w2⟨A2,c2,rfl,aC,aD,aN,_⟩;have k2:=aE.trans (aN.mono aE.size);have aG:=hid (HT.o A2 c2 w2 aC aD);clear HT aC HL HR aE aN;generalize L.length=q at aD aG |-;go_wp2_with fail;refine aG.o.mono ?_;rintro e w3⟨A3,c3,rfl,aH,aK,aQ,aM⟩;have k3:=k2.trans (aQ.mono k2.size);have HW:=hid fun ad e=>Ai k2.size (aM ad e);clear aM;by_cases aF:96 < T.length
 ·have aL:=hid aF;have aA:(96:Int) < (T.length:Int):=by omega
  generalize T.length=m at aA aK aH |-;clear aG aF;go_wp2;go_ret2;unfold OfR;rw[if_pos aL.o];exact⟨rfl,k3⟩
 have aL:=hid aF;have aA:¬ (96:Int) < (T.length:Int):=by omega
 have aO:=hid aH;clear aH aG aF;generalize hm:T.length=m at aA aK aO |-;have HM:=hid hm;clear hm;go_wp2;go_ret2;unfold OfR;rw[if_neg aL.o];exact⟨A3,c3,by rw[HM.o];rfl,by rw[HM.o];exact aO.o,by rw[HM.o];exact aK,k3,HW.o⟩
def ofz(n D:Nat)(L:List Rn):Int:=if rt n D (ticks L)=0 then (if 96 < (tidy L).length then 3 else 0) else rt n D (ticks L)
theorem L9{n D:Nat}{L:List Rn}(h:ofz n D L=0):n<=128/\D<=16/\ticks L<=4096/\(tidy L).length<=96:=by
 unfold ofz at h;rcases Nw n D (ticks L) with ⟨h0,h1,h2,h3⟩ | h0
 ·rw[if_pos h0] at h;split at h
  ·omega
  exact⟨h1,h2,h3,by omega⟩
 rw[if_neg h0] at h;exact absurd h h0
def OfG(z:Int)(T:List Rn)(w:World)(e:Ending)(w':World):Prop :=
 ∃(A:Option Addr) (m c:Nat),e=.returned (.tuple #[.slice A m c,.int .i64 z])/\m<=c/\(z=0->RdR w' w'.heap.size A m T)/\Below w.heap.size w w'
theorem bt{n D:Nat}{L:List Rn}{w w':World}{e:Ending}(h0:rt n D (ticks L)=0)(h:OfR (tidy L) w e w'):OfG (ofz n D L) (tidy L) w e w':=by
 unfold OfR at h;unfold OfG ofz;rw[if_pos h0];split at h
 ·rename_i h1;rw[if_pos h1];exact⟨none,0,0,h.1,Ag _,fun h=>by omega,h.2⟩
 rename_i h1;rw[if_neg h1];obtain⟨A,c,rfl,hr,hc,hb,_⟩:=h;exact⟨A,_,c,rfl,hc,fun _=>hr,hb⟩
theorem P8{n D:Nat}{L:List Rn}{w w':World}{e:Ending}(h0:¬ rt n D (ticks L)=0)(h:Ans (.tuple #[.slice none 0 0,.int .i64 (rt n D (ticks L))]) w e w'):OfG (ofz n D L) (tidy L) w e w':=by
 unfold OfG ofz;rw[if_neg h0];exact⟨none,0,0,h.1,Ag _,fun h=>absurd h h0,h.2⟩
theorem li(A:Option Addr)(n cap:Nat)(x:Nd)(k:F)(w:World)(h:RdN w w.heap.size A n (x::k.flat))(hc:n<=cap)(aA:(F.cons x k .nil).ok)(hn:n<=1048576):
  Calls Tryz.prog 125 #[.slice A n cap] w (OfG (ofz n (k.dep+1) (one x k.lvs)) (tidy (one x k.lvs)) w):=by
 have hR:=Ij A n cap _ x k w h hc hn aA rfl;have e:F.tick x k.len=ticks (one x k.lvs):=by rw[one_ticks,lvs_ticks]
 rcases Nw n (k.dep+1) (F.tick x k.len) with ⟨h0,h1,h2,h3⟩ | h0
 ·rw[h0] at hR;rw[e] at h0;exact(ie A n cap x k w h hc aA h1 h2 h3 hR).mono fun _ _ h=>bt h0 h
 rw[e] at h0 hR;exact(Oa A n cap w _ hR h0).mono fun _ _ h=>P8 h0 h
theorem Wi(A:Option Addr)(n cap:Nat)(x:Nd)(k:F)(w:World)(h:RdN w w.heap.size A n (x::k.flat))(hc:n<=cap)(aA:(F.cons x k .nil).ok)(hn:n<=1048576):
  Calls Tryz.prog 51 #[.slice A n cap] w (OfG (ofz n (k.dep+1) (one x k.lvs)) (tidy (one x k.lvs)) w):=by
 have hR:=Jb A n cap _ x k w h hc hn aA rfl;have e:F.tick x k.len=ticks (one x k.lvs):=by rw[one_ticks,lvs_ticks]
 rcases Nw n (k.dep+1) (F.tick x k.len) with ⟨h0,h1,h2,h3⟩ | h0
 ·rw[h0] at hR;rw[e] at h0;exact(R8 A n cap x k w h hc aA h1 h2 h3 hR).mono fun _ _ h=>bt h0 h
 rw[e] at h0 hR;exact(L5 A n cap w _ hR h0).mono fun _ _ h=>P8 h0 h
theorem bq{x:Nd}{k:F}(aA:(F.cons x k .nil).ok):0 < (tidy (one x k.lvs)).length/\∀ r∈tidy (one x k.lvs),1<=r.n/\-1<=r.p/\r.p<=5:=by
 constructor
 ·have h1:=F.len_pos aA (by simp[F.cnt]);have h2:ticks (tidy (one x k.lvs))=F.tick x k.len:=by rw[ticks_tidy,one_ticks,lvs_ticks]
  rcases Dm (tidy (one x k.lvs)).length with h | h
  ·have e:=List.eq_nil_of_length_eq_zero h;rw[e] at h2;simp only[ticks,F.len] at h1 h2;omega
  exact h
 intro r hr;refine⟨(tidy_apart _).pos r hr,?_⟩;obtain⟨q,hq,e⟩:=tidy_part hr;have:=lvs_parts aA q (by simpa [F.lvs] using hq);rw[e] at this;exact this
structure TbV where
 A:Option Addr
 n:Nat
 c:Nat
 x:Nd
 k:F
def tcl(t:TbV):List Value:=[.slice t.A t.n t.c]
theorem fm(t:TbV):(tcl t).length=1:=rfl
structure Mg(w:World)(B:Nat)(t:TbV):Prop where
 rd:RdN w B t.A t.n (t.x::t.k.flat)
 cap:t.n<=t.c
 ok:(F.cons t.x t.k .nil).ok
 few:t.n<=1048576
structure Ov(w:World)(B:Nat)(x:PtV):Prop where
 per:Ef x.per
 name:x.name.size<=1048576
 few:x.pn<=1048576
 procs:F9 w B x.pa x.pn
