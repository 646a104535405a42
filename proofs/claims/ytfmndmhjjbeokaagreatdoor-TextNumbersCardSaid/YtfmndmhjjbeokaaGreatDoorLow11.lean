import Derived.Test.YtfmndmhjjbeokaaGreatDoorLow10
import Derived.Deep.RegionWith
set_option maxHeartbeats 3200000
set_option maxRecDepth 100000
set_option linter.unusedSimpArgs false
set_option linter.unusedVariables false
namespace Go.Proofs.YtfmndmhjjbeokaaGreatDoor
open Go.RowKit Tab
def Qp(L:List Rn)(w:World)(e:Ending)(w':World):Prop:=∃ A c,e=.returned (.slice A L.length c)/\RdR w' w'.heap.size A L.length L/\L.length<=c/\Below w.heap.size w w'/\∀ ad,A=some ad->w.heap.size<=ad.block
theorem OwnV.rdr{w:World}{B n c:Nat}{A:Option Addr}{L:List Rn}(h:OwnV 129 2 w B A n c (rs L)):RdR w w.heap.size A n L:=⟨by have:=h.len;rw[Gi] at this;omega,h.rd⟩
theorem Pd(A:Option Addr)(n cap:Nat)(x:Nd)(k:F)(w:World)(h:RdN w w.heap.size A n (x::k.flat))(hc:n<=cap)(aC:(F.cons x k .nil).ok)(hn:n<=128)(hl:F.tick x k.len<=4096):
  Calls Tryz.prog 86 #[.slice A n cap] w (Qp (one x k.lvs) w):=by
 have aA:∀ r∈one x k.lvs,1<=r.n:=fun r hr=>lvs_pos aC r (by simpa [F.lvs] using hr);have aB:=length_le_ticks aA;rw[one_ticks,lvs_ticks] at aB;have aD:(x::k.flat).drop 0=(F.cons x k .nil).flat++[]:=by simp[F.flat]
 have hL:Calls Tryz.prog 117 #[.slice A n cap,.int .i64 0,.slice none 0 0] w (Lt w.heap.size none (one x k.lvs) w):=by
  have:=Sb w.heap.size A n cap _ hc (by omega) (k.sz+1) 0 x k .nil [] w none 0 0 [] (by omega) h aC aD (Ag _) rfl (OwnV.nil _ _ _ _) (by omega);simpa using this
 have HL:=hid hL;clear hL aA aB aD aC;generalize one x k.lvs=L at HL |-;go_in;go_wp2_with fail;refine HL.o.mono ?_;rintro e w1⟨A1,c1,rfl,ho,hb,_⟩;have HO:=hid ho;clear ho;generalize hq:L.length=q;have HQ:=hid hq;clear hq;go_wp2;go_ret;refine⟨A1,c1,by rw[HQ.o];rfl,HO.o.rdr,HO.o.cap,hb,HO.o.newer⟩
def Jg:List Rn->Nat->Nat->List Rn×Nat
 | [],tk,_=>([],tk)
 | r::s,tk,m=>if tk+m < r.n then (r::s,tk+m) else (s,0)
def ml(b:Nat)(A:Option Addr)(n cap:Nat)(l:List Nd)(td:List Rn)(tk gn:Nat)(v:Value)(w:World)(e:Ending)(w':World):Prop :=
 e=.returned v/\Cur w' b A n cap l td tk gn/\w.grownBy w' (some b)
theorem Zk{l:List Nd}{st:List (Nat×Nat)}{p:Nat}{td:List Rn}(h:Beh l st p td)(hl:l.length<=128):∀ e∈st,1<=e.1/\e.1<=9223372036854775807/\e.2<=1048576:=fun e he=>by
 have:=h.bound e he
 omega
theorem Zv(b:Nat)(A:Option Addr)(n cap:Nat)(l:List Nd)(r:Rn)(s:List Rn)(tk gn m:Nat)(w:World)(h:Cur w b A n cap l (r::s) tk gn)(hm:1<=m)(bZ:tk+m<=r.n):
  Calls Tryz.prog 163 #[.pointer (some ⟨b,0,none⟩),.int .i64 (m:Int)] w (ml b A n cap l (Jg (r::s) tk m).1 (Jg (r::s) tk m).2 (gn+m) (.tuple #[]) w):=by
 obtain⟨c,st,p,hB,hP,e0,aI,aQ,aP,hA⟩:=h.ex;have bI:=hB.lt;have c0:=(hB 0 (by omega)).1;have cQ:=(hB 34 (by omega)).1;have cP:=(hB 35 (by omega)).1;have cO:=(hB 36 (by omega)).1;have dG:=(hB 34 (by omega)).2;have dF:=(hB 35 (by omega)).2;have dE:=(hB 36 (by omega)).2;rw[e0] at c0;rw[aI] at cQ;rw[aQ] at cP;rw[aP] at cO;have aM:=h.tb.rd.len;have hn:=h.tb.hn;have cE:=h.tb.cap;have aJ:=h.sum;simp only[ticks] at aJ;rcases hA with ⟨_,_,h0⟩ | ⟨x,u,hf,h3,h4,hx,bE,aC,bW⟩
 ·cases h0
 obtain⟨xk,xp,xn⟩:=x;have bG:p < n:=by rw[<- aM];exact(Af.1 hx).1
 obtain⟨ad,y,rfl,dC,hy,bJ,d0,d1,d2⟩:=h.tb.rd.at_ bG;rw[hx] at hy;injection hy with hy;subst hy;have bH:=fine_one hf;obtain⟨N,rfl⟩:=Ax (show 0<=xn by dsimp only at bH;omega);injection bW with hr hs;subst hs;have hN:r.n=N:=by rw[hr];simp
 have dD:(N:Int)<=9223372036854775807:=bJ.2.2.2;rw[hN] at bZ aJ;have dB:gn+m<=1048576:=by omega
 have cC:(p:Int) < (n:Int):=by omega
 have cA:0<=(p:Int):=by omega
 have bY:¬ ad.block=b:=by omega
 have HB:=hid hB;have HH:=hid h;have HP:=hid hP;have HN:=hid hN;have HE:=hid (And.intro e0 (And.intro aI (And.intro aQ aP)));have HA:Hd (AtL l st p (r::s)):=hid (.inr ⟨_,s,hf,h3,h4,hx,bE,aC,by rw[hr]⟩);have bS:=hid aC;have bX:¬ (ad.add (p*3)).block=b:=by rw[Eh];exact bY
 have aB:Blk ((w.setCell ⟨b,35,none⟩ (.int .i64 ((tk:Int)+(m:Int)))).setCell ⟨b,36,none⟩ (.int .i64 ((gn:Int)+(m:Int)))) b (upd (upd c 35 (.int .i64 ((tk:Int)+(m:Int)))) 36 (.int .i64 ((gn:Int)+(m:Int)))):=(hB.set (by omega) _).set (by omega) _;have aT:w.grownBy ((w.setCell ⟨b,35,none⟩ (.int .i64 ((tk:Int)+(m:Int)))).setCell ⟨b,36,none⟩ (.int .i64 ((gn:Int)+(m:Int)))) (some b):=Fn (Fn (Iv _ _) _ _) _ _;obtain⟨W,hW⟩:∃ W,W=(w.setCell ⟨b,35,none⟩ (.int .i64 ((tk:Int)+(m:Int)))).setCell ⟨b,36,none⟩ (.int .i64 ((gn:Int)+(m:Int))):=⟨_,rfl⟩;rw[<- hW] at aB aT;have k0:=(aB 0 (by omega)).1;have bD:=(aB 34 (by omega)).1;have bC:=(aB 35 (by omega)).1;have cM:=(aB 34 (by omega)).2;have cL:=(aB 35 (by omega)).2;rw[Dy (by omega),Dy (by omega),e0] at k0;rw[Dy (by omega),Dy (by omega),aI] at bD;rw[Dy (by omega),Ed] at bC;have aY:=h.tb.gb (Nat.le_of_lt bI) aT;obtain⟨dH,y',e,_,aR,_,_,_,k2⟩:=aY.rd.at_ bG;injection e with e;subst e;rw[hx] at aR;injection aR with aR;subst aR;have bT:=hid aB;have bQ:=hid aT;have HT:=hid aY;have HW:=hid hW;clear h hB hP e0 aI aQ aP hf h3 h4 hx bE aC hr aB aT aY hW d0 d1 d2 bJ aM hN bH;by_cases aA:tk+m < N
 ·have aV:(tk:Int)+(m:Int) < (N:Int):=by omega
  have aL:Jg (r::s) tk m=(r::s,tk+m):=by simp only[Jg];rw[HN.o,if_pos aA]
  rw[aL];have HL:=hid aA;clear aL;go_in;go_wp2_with fail;rw[<- HW.o];go_quiet (fail);go_wp2_with fail;refine Be (Cn rfl _ _ _) rfl ⟨rfl,⟨HT.o.drewN _,⟨_,st,p,bT.o.drewN _,⟨(HP.o.1.put (by have:=HP.o.2.2;omega) _).put (by have:=HP.o.2.2;omega) _,?_,HP.o.2.2⟩,?_,?_,?_,?_,HA.o⟩,?_,fun h=>by(cases h),?_,HH.o.pos⟩,Jk bQ.o _⟩
  ·rw[Dy (by omega),Dy (by omega)];exact HP.o.2.1
  ·rw[Dy (by omega),Dy (by omega)];exact HE.o.1
  ·rw[Dy (by omega),Dy (by omega)];exact HE.o.2.1
  ·rw[Dy (by omega),Ed];rfl
  ·rw[Ed];rfl
  ·rintro r' s' e;injection e with e1 e2;subst e1;rw[HN.o];exact HL.o
  simp only[ticks];rw[HN.o];omega
 have aV:¬ (tk:Int)+(m:Int) < (N:Int):=by omega
 have aL:Jg (r::s) tk m=(s,0):=by simp only[Jg];rw[HN.o,if_neg aA]
 rw[aL];have bL:∀ q,Blk ((W.drewN q).setCell ⟨b,35,none⟩ (.int .i64 0)) b (upd (upd (upd c 35 (.int .i64 ((tk:Int)+(m:Int)))) 36 (.int .i64 ((gn:Int)+(m:Int)))) 35 (.int .i64 0)):=fun q=>(bT.o.drewN q).set (by omega) _;have bK:∀ q,w.grownBy ((W.drewN q).setCell ⟨b,35,none⟩ (.int .i64 0)) (some b):=fun q=>Fn (Jk bQ.o q) _ _;have aU:Hk (upd (upd (upd c 35 (.int .i64 ((tk:Int)+(m:Int)))) 36 (.int .i64 ((gn:Int)+(m:Int)))) 35 (.int .i64 0)) st:=by
  have cK:=HP.o.2.2;refine⟨((HP.o.1.put (by omega) _).put (by omega) _).put (by omega) _,?_,cK⟩;rw[Dy (by omega),Dy (by omega),Dy (by omega)];exact HP.o.2.1
 have aG:(upd (upd (upd c 35 (.int .i64 ((tk:Int)+(m:Int)))) 36 (.int .i64 ((gn:Int)+(m:Int)))) 35 (.int .i64 0)) 34=.int .i64 (p:Int):=by
  rw[Dy (by omega),Dy (by omega),Dy (by omega)];exact HE.o.2.1
 have bB:(upd (upd (upd c 35 (.int .i64 ((tk:Int)+(m:Int)))) 36 (.int .i64 ((gn:Int)+(m:Int)))) 35 (.int .i64 0)) 0=.slice (some ad) n cap:=by
  rw[Dy (by omega),Dy (by omega),Dy (by omega)];exact HE.o.1
 have aF:(upd (upd (upd c 35 (.int .i64 ((tk:Int)+(m:Int)))) 36 (.int .i64 ((gn:Int)+(m:Int)))) 35 (.int .i64 0)) 35=.int .i64 ((0:Nat):Int):=by
  rw[Ed];rfl
 have aE:(upd (upd (upd c 35 (.int .i64 ((tk:Int)+(m:Int)))) 36 (.int .i64 ((gn:Int)+(m:Int)))) 35 (.int .i64 0)) 36=.int .i64 ((gn+m:Nat):Int):=by
  rw[Dy (by omega),Ed];rfl
 have bR:=hid bL;have cX:=hid bK;clear aL bL bK;generalize upd (upd (upd c 35 (.int .i64 ((tk:Int)+(m:Int)))) 36 (.int .i64 ((gn:Int)+(m:Int)))) 35 (.int .i64 0)=c2 at bR aU aG bB aF aE;have H2:=hid (And.intro bB (And.intro aG (And.intro aF aE)));have cU:=hid aU;have HL:=hid aA;clear aU aG bB aF aE aA;go_in;go_wp2_with fail;rw[<- HW.o];go_quiet (fail);go_wp2_with fail;have aO:=bR.o nq;have bA:=cX.o nq;generalize (W.drewN nq).setCell ⟨b,35,none⟩ (.int .i64 0)=W2 at aO bA |-;have bV:=(aO 34 (by omega)).1;rw[H2.o.2.1] at bV;have dA:=(aO 34 (by omega)).2;have cZ:=hid aO;have cV:=hid bA;clear aO bA k0 bD bC cM cL k2;have aX:Calls Tryz.prog 169 #[.pointer (some ⟨b,1,none⟩),.int .i64 (p:Int)] W2.drew fun e w3=>e=.returned (.int .i64 ((popm st (p+1)).2:Nat))/\w3.cell? ⟨b,34,none⟩=some (.int .i64 (p:Int))/\w3.frozen? ⟨b,34,none⟩=false/\∃ c3,Blk w3 b c3/\Hk c3 (popm st (p+1)).1/\Pj c2 c3/\W2.drew.grownBy w3 (some b):=by
  refine(Ti b c2 st p W2.drew cZ.o cU.o (Zk bS.o (by rw[HH.o.tb.rd.len];omega)) (by omega)).mono ?_;rintro e w3⟨rfl,c3,aN,aH,aD,aZ⟩;exact⟨rfl,by rw[(aN 34 (by omega)).1,aD.2 34 (by omega),H2.o.2.1],(aN 34 (by omega)).2,c3,aN,aH,aD,aZ⟩
 generalize bF:(popm st (p+1)).2=p2 at aX;have cR:=hid bF;clear bF;have cY:=hid aX;clear aX;go_region_with (go_at_call 169;refine cY.o.mono ?_;rintro e w3⟨rfl,q3,r3,cD⟩);go_wp2_with fail;obtain⟨c3,aN,aH,aD,aZ⟩:=cD;have aK:=bS.o.pop;rw[cR.o] at aK;have cH:=D8 (Lm cV.o) aZ;have bP:=aN.set (i:=34) (by omega) (.int .i64 (p2:Int));have bO:=Fn cH 34 (.int .i64 (p2:Int));have bM:=HH.o.tb.gb (Nat.le_of_lt bI) bO;have cG:Hk (upd c3 34 (.int .i64 (p2:Int))) (popm st (p+1)).1:=⟨aH.1.put (by have:=aH.2.2;omega) _,by rw[Dy (by omega)];exact aH.2.1,aH.2.2⟩;refine(Ql b (some ad) n cap l _ (popm st (p+1)).1 p2 s _ bP bM cG (by rw[Dy (by omega),aD.1,H2.o.1]) (Ed _ _ _) aK).mono ?_;rintro e w5⟨rfl,c5,bU,p5,cI,cF,aI,e0,aQ,aP,cJ,bN⟩;go_wp2_with fail;go_end0;refine⟨rfl,⟨bM.gb (Nat.le_of_lt bP.lt) bN,⟨c5,bU,p5,cI,cF,?_,aI,?_,?_,cJ⟩,fun r' s' e=>?_,fun _=>rfl,?_,fun q hq=>HH.o.pos q (List.mem_cons_of_mem _ hq)⟩,D8 bO bN⟩
 ·rw[e0,Dy (by omega),aD.1,H2.o.1]
 ·rw[aQ,Dy (by omega),aD.2 35 (by omega),H2.o.2.2.1]
 ·rw[aP,Dy (by omega),aD.2 36 (by omega),H2.o.2.2.2]
 ·exact HH.o.pos r' (List.mem_cons_of_mem _ (by rw[e];exact List.mem_cons_self))
 have:=HL.o;omega
def zr(c:Nat->Value)(o m:Nat):Nat->Value:=fun j=>if o<=j/\j < o+m then .int .i64 0 else c j
theorem V8{c:Nat->Value}{o m j:Nat}(h:o<=j/\j < o+m):zr c o m j=.int .i64 0:=if_pos h
theorem Qq{c:Nat->Value}{o m j:Nat}(h:¬ (o<=j/\j < o+m)):zr c o m j=c j:=if_neg h
theorem fe(c:Nat->Value)(o m:Nat):zr (upd c o (.int .i64 0)) (o+1) m=zr c o (m+1):=by
 funext j;by_cases h1:o+1<=j/\j < o+1+m
 ·rw[V8 h1,V8 (by omega)]
 rw[Qq h1];by_cases h2:j=o
 ·subst h2;rw[Ed,V8 (by omega)]
 rw[Dy h2,Qq (by omega)]
theorem Xw(b m:Nat):∀(i:Nat) (c:Nat->Value) (a w:World),Blk w b c->1+i+m<=37->a.grownBy w (some b)->∃ w',(storeCells ⟨b,1,none⟩ (List.replicate m (.int .i64 0)) i).run Tryz.prog w=.ok () w'/\Blk w' b (zr c (1+i) m)/\a.grownBy w' (some b):=by
 induction m with
 | zero =>
  intro i c a w h hi hg;refine⟨w,rfl,?_,hg⟩;have:zr c (1+i) 0=c:=by
   funext j;exact Qq (by omega)
  rw[this];exact h
 | succ m ih =>
  intro i c a w h hi hg;have aA:(⟨b,1,none⟩:Addr).add i=⟨b,1+i,none⟩:=by unfold Addr.add;split <;> simp_all
  obtain⟨w',h1,h2,h3⟩:=ih (i+1) _ a _ (h.set (i:=1+i) (by omega) (.int .i64 0)) (by omega) (Fn hg _ _);refine⟨w',?_,?_,h3⟩
  ·rw[Dp];have aB:(store ((⟨b,1,none⟩:Addr).add i) (.int .i64 0)).run Tryz.prog w=.ok () (w.setCell ⟨b,1+i,none⟩ (.int .i64 0)):=by
    rw[aA,run_store Tryz.prog w _ _ _ rfl,(h (1+i) (by omega)).1,(h (1+i) (by omega)).2];rfl
   simp only[storeCells,Sem.run_bind,aB,At];exact h1
  rw[<- fe,show 1+i+1=1+(i+1) by omega];exact h2
theorem Xx(b:Nat)(c:Nat->Value)(a w:World)(h:Blk w b c)(hg:a.grownBy w (some b)):∃ w',(storeVar 201 ⟨b,1,none⟩ (.agg (List.replicate 33 (.int .i64 0)).toArray)).run Tryz.prog w=.ok () w'/\Blk w' b (zr c 1 33)/\a.grownBy w' (some b):=by
 obtain⟨w',h1,h2,h3⟩:=Xw b 33 0 c a w h (by omega) hg;refine⟨w',?_,h2,h3⟩;have e2:(sizeOf 201).run Tryz.prog w=.ok 33 w:=by go_simp
 unfold storeVar;rw[Sem.run_bind,e2,At];simp only[Value.cells];exact h1
theorem Qr{ops:Array Oper}{aA:List Oper}{o:Oper}{a:Act}{Q:Exit->Act->World->Prop}{w w0:World}(aC:o.guard=none)(x y:Operand)
  (ho:o.op=.store 201 x y) (b:Nat) (c:Nat->Value) (hx:a.eval x=.pointer (some ⟨b,1,none⟩)) (hy:a.eval y=.agg (List.replicate 33 (.int .i64 0)).toArray) (h:Blk w b c) (hg:w0.grownBy w (some b))
  (hK:∀ w',Blk w' b (zr c 1 33)->w0.grownBy w' (some b)->wpList Tryz.prog ops Q aA (a.put o.dst undef) w'):wpList Tryz.prog ops Q (o::aA) a w:=by
 refine wpList_plain aC fun K hk=>?_;obtain⟨w',aB,h1,h2⟩:=Xx b c w0 w h hg;unfold Oper.wp execOp;simp only[ho,Instr.storeAt,Instr.sureAddr,Sem.run_bind,Sem.run_pure,At,hx,hy,aB];exact hk _ _ (hK w' h1 h2)
theorem Yb(b:Nat)(A:Option Addr)(n cap:Nat)(x:Nd)(k:F)(c:Nat->Value)(w:World)(h:Blk w b c)(hT:Tb w b A n cap (x::k.flat))(h0:c 0=.slice A n cap)(aC:(F.cons x k .nil).ok)(hd:k.dep+1<=16)(hl:ticks (one x k.lvs)<=1048576):
  Calls Tryz.prog 161 #[.pointer (some ⟨b,0,none⟩)] w (ml b A n cap (x::k.flat) (one x k.lvs) 0 0 (.tuple #[]) w):=by
 have H:=hid h;have HT:=hid hT;have H0:=hid h0;clear h hT h0;go_in;go_wp2_with (refine Qr (w0:=w) rfl (.tmp 8) (.tmp 6) rfl b c rfl rfl H.o (Iv _ _) ?_;intro w1 aA aQ;have aK:=(aA 34 (by omega)).1;have aJ:=(aA 35 (by omega)).1;have aI:=(aA 36 (by omega)).1;have aN:=(aA 34 (by omega)).2;have aM:=(aA 35 (by omega)).2;have aL:=(aA 36 (by omega)).2);have aG:=((aA.set (i:=34) (by omega) (.int .i64 0)).set (i:=35) (by omega) (.int .i64 0)).set (i:=36) (by omega) (.int .i64 0);have aF:=Fn (Fn (Fn aQ 34 (.int .i64 0)) 35 (.int .i64 0)) 36 (.int .i64 0);have aD:=HT.o.gb (Nat.le_of_lt H.o.lt) aF;have hA:Ats (x::k.flat) [] 0 (one x k.lvs):=Ats.start aC hd;have aB:∀ r∈one x k.lvs,1<=r.n:=fun r hr=>lvs_pos aC r (by simpa [F.lvs] using hr);have aH:(upd (upd (upd (zr c 1 33) 34 (.int .i64 0)) 35 (.int .i64 0)) 36 (.int .i64 0)) 0=.slice A n cap:=by
  rw[Dy (by omega),Dy (by omega),Dy (by omega),Qq (by omega)];exact H0.o
 refine(Ql b A n cap _ _ [] 0 _ _ aG aD ⟨trivial,by rw[Dy (by omega),Dy (by omega),Dy (by omega),V8 (by omega)];rfl,by simp⟩ aH (by rw[Dy (by omega),Dy (by omega),Ed];rfl) hA).mono ?_;rintro e w5⟨rfl,c5,aO,p5,aR,aP,aX,e0,aV,aU,aT,aE⟩;clear aK aJ aI aN aM aL;go_wp2_with fail;go_end0;refine⟨rfl,⟨aD.gb (Nat.le_of_lt aG.lt) aE,⟨c5,aO,p5,aR,aP,by rw[e0];exact aH,aX,?_,?_,aT⟩,fun r' s' e=>?_,fun _=>rfl,by omega,aB⟩,D8 aF aE⟩
 ·rw[aV,Dy (by omega),Ed];rfl
 ·rw[aU,Ed];rfl
 exact aB r' (by rw[e];exact List.mem_cons_self)
theorem Cur.gb{w w':World}{b b':Nat}{A:Option Addr}{n cap:Nat}{l:List Nd}{td:List Rn}{tk gn:Nat}(h:Cur w b A n cap l td tk gn)(hg:w.grownBy w' (some b'))(hb:b < b'):Cur w' b A n cap l td tk gn:=by
 obtain⟨c,st,p,hB,r⟩:=h.ex;have aA:=hB.lt;exact⟨⟨⟨h.tb.rd.len,h.tb.rd.rd.keep fun q hq=>Bf (hg.block q.block (by omega) (fun e=>by injection e with e;omega)),h.tb.rd.bd⟩,h.tb.cap,h.tb.hn⟩,⟨c,st,p,hB.keep (hg.block b aA (fun e=>by injection e with e;omega)),r⟩,h.low,h.low0,h.sum,h.pos⟩
theorem Qbo{a w w':World}{x:Option Nat}(h:a.grownBy w x)(k:Below w.heap.size w w'):a.grownBy w' x:=F8 h k h.size
theorem Ps{w:World}{g:Nat}{x y u v:Value}{o:Obj}(h0:w.cell? ⟨g,0,none⟩=some u)(h1:w.cell? ⟨g,1,none⟩=some v)(hg:g < w.heap.size):
  (((w.setCell ⟨g,0,none⟩ x).setCell ⟨g,1,none⟩ y).alloc o).cell? ⟨g,0,none⟩=some x/\(((w.setCell ⟨g,0,none⟩ x).setCell ⟨g,1,none⟩ y).alloc o).cell? ⟨g,1,none⟩=some y:=by
 have hs:g < ((w.setCell ⟨g,0,none⟩ x).setCell ⟨g,1,none⟩ y).heap.size:=by simpa [World.setCell] using hg
 constructor
 ·rw[Dd _ _ _ hs,Cg _ _ _ _ (by simp)];exact Ci _ _ _ h0
 rw[Dd _ _ _ hs];exact Ci _ _ _ ((Cg _ _ _ _ (by simp)).trans h1)
theorem Nk{w:World}{g:Nat}{x y u v:Value}(h0:w.cell? ⟨g,0,none⟩=some u)(h1:w.cell? ⟨g,1,none⟩=some v):
  ((w.setCell ⟨g,0,none⟩ x).setCell ⟨g,1,none⟩ y).cell? ⟨g,0,none⟩=some x/\((w.setCell ⟨g,0,none⟩ x).setCell ⟨g,1,none⟩ y).cell? ⟨g,1,none⟩=some y:=by
 constructor
 ·rw[Cg _ _ _ _ (by simp)];exact Ci _ _ _ h0
 exact Ci _ _ _ ((Cg _ _ _ _ (by simp)).trans h1)
theorem Wq{w w1:World}{x y:Int}{t:TypeId}(hb:Below (w.alloc (.cells #[.int .i64 x,.int .i64 y] t)).heap.size (w.alloc (.cells #[.int .i64 x,.int .i64 y] t)) w1):
  w1.cell? ⟨w.heap.size,0,none⟩=some (.int .i64 x)/\w1.cell? ⟨w.heap.size,1,none⟩=some (.int .i64 y)/\w1.frozen? ⟨w.heap.size,0,none⟩=false/\w1.frozen? ⟨w.heap.size,1,none⟩=false/\w.heap.size < w1.heap.size:=by
 have aA:w.heap.size < (w.alloc (.cells #[.int .i64 x,.int .i64 y] t)).heap.size:=by simp
 exact⟨(hb.cell (p:=⟨w.heap.size,0,none⟩) aA).trans (Ab _ _ _ _ _),(hb.cell (p:=⟨w.heap.size,1,none⟩) aA).trans (Ab _ _ _ _ _),
  (C4 (a:=⟨w.heap.size,0,none⟩) (hb.block _ aA)).trans (by simp),(C4 (a:=⟨w.heap.size,1,none⟩) (hb.block _ aA)).trans (by simp),Bc aA hb.size⟩
theorem U9{w w1:World}{x y:Int}{t:TypeId}{b:Nat}(hg:(w.alloc (.cells #[.int .i64 x,.int .i64 y] t)).grownBy w1 (some b))(hb:b < w.heap.size):
  w1.cell? ⟨w.heap.size,0,none⟩=some (.int .i64 x)/\w1.cell? ⟨w.heap.size,1,none⟩=some (.int .i64 y)/\w1.frozen? ⟨w.heap.size,0,none⟩=false/\w1.frozen? ⟨w.heap.size,1,none⟩=false/\w.heap.size < w1.heap.size:=by
 have aA:w.heap.size < (w.alloc (.cells #[.int .i64 x,.int .i64 y] t)).heap.size:=by simp
 have hk:=hg.block w.heap.size aA (fun e=>by injection e with e;omega);exact⟨(Bf (a:=⟨w.heap.size,0,none⟩) hk).trans (Ab _ _ _ _ _),(Bf (a:=⟨w.heap.size,1,none⟩) hk).trans (Ab _ _ _ _ _),
  (C4 (a:=⟨w.heap.size,0,none⟩) hk).trans (by simp),(C4 (a:=⟨w.heap.size,1,none⟩) hk).trans (by simp),Bc aA hg.size⟩
theorem cg(b:Nat)(A:Option Addr)(n cap:Nat)(l:List Nd)(tk gn:Nat)(w:World)(h:Cur w b A n cap l [] tk gn):
  Calls Tryz.prog 154 #[.pointer (some ⟨b,0,none⟩)] w (Ans (.tuple #[rv 0 0,.bool false]) w):=by
 have aA:=bl1 w (.cells #[.int .i64 0,.int .i64 0] 129);have hL:Calls Tryz.prog 162 #[.pointer (some ⟨b,0,none⟩)] (w.alloc (.cells #[.int .i64 0,.int .i64 0] 129)) (Ans (rv (-1) 0) (w.alloc (.cells #[.int .i64 0,.int .i64 0] 129))):=Sz b A n cap l [] tk gn _ (h.below aA);have HL:=hid hL;clear hL h;go_in;go_wp2_with fail;refine HL.o.mono ?_;rintro e w1⟨rfl,aC⟩;have hk:=aA.trans (aC.mono aA.size);obtain⟨m0,m1,f0,f1,aB⟩:=Wq aC;clear aA aC HL;generalize hg:w.heap.size=g at m0 m1 f0 f1 aB hk |-;have HG:=hid hg;clear hg;go_wp2_with fail;refine Be (La rfl rfl (Ps m0 m1 aB).1 (Ps m0 m1 aB).2) rfl ⟨rfl,?_⟩;rw[HG.o];exact((hk.setCell (p:=⟨g,0,none⟩) (Ag _) _).setCell (p:=⟨g,1,none⟩) (Ag _) _).alloc (by have:=hk.size;rw[HG.o] at this;simpa [World.setCell] using this) _
theorem U8(r:Rn)(s:List Rn)(tk:Nat)(h:tk < r.n):Jg (r::s) tk (r.n - tk)=(s,0):=by simp only[Jg];rw[if_neg (by omega)]
theorem Oh{a w:World}{g b:Nat}{x:Value}{i:Nat}(h:a.grownBy w (some b))(hg:a.heap.size<=g):a.grownBy (w.setCell ⟨g,i,none⟩ x) (some b) :=
 ⟨h.os,h.tape,h.output,by have:=h.size;simpa [World.setCell] using this,fun k hk aA=>(Bn w ⟨g,i,none⟩ x k (fun e=>by dsimp only at e;omega)).trans (h.block k hk aA)⟩
theorem Yk(b:Nat)(A:Option Addr)(n cap:Nat)(l:List Nd)(r:Rn)(s:List Rn)(tk gn:Nat)(w:World)(h:Cur w b A n cap l (r::s) tk gn):
  Calls Tryz.prog 154 #[.pointer (some ⟨b,0,none⟩)] w (ml b A n cap l s 0 (gn+(r.n - tk)) (.tuple #[rv r.p ((r.n - tk:Nat):Int),.bool true]) w):=by
 have aG:=h.lt;have aF:=h.low r s rfl;have aC:=bl1 w (.cells #[.int .i64 0,.int .i64 0] 129);have hL:Calls Tryz.prog 162 #[.pointer (some ⟨b,0,none⟩)] (w.alloc (.cells #[.int .i64 0,.int .i64 0] 129)) (Ans (rv r.p ((r.n - tk:Nat):Int)) (w.alloc (.cells #[.int .i64 0,.int .i64 0] 129))):=Sz b A n cap l (r::s) tk gn _ (h.below aC);have hK:=fun w' (hc:Cur w' b A n cap l (r::s) tk gn)=>Zv b A n cap l r s tk gn (r.n - tk) w' hc (by omega) (by omega);rw[U8 r s tk aF] at hK;have HL:=hid hL;have HK:=hid hK;have HC:=hid h;have aK:0 < r.n - tk:=by omega
 clear hL h hK aF;generalize r.n - tk=m at HL HK aK |-;generalize r.p=q at HL |-;have aT:((m:Int) == 0)=false:=Ak.2 (by omega);go_in;go_wp2_with fail;refine HL.o.mono ?_;rintro e w1⟨rfl,aE⟩;have hk:=aC.trans (aE.mono aC.size);obtain⟨m0,m1,f0,f1,aH⟩:=Wq aE;have aJ:=HC.o.below hk;have aR:=hid aJ;clear aC aE HL aJ;generalize hg:w.heap.size=g at m0 m1 f0 f1 aH hk aG |-;have HG:=hid hg;clear hg;go_wp2_with fail;have aO:=bl1 w1 (.cells #[.int .i64 q,.int .i64 (m:Int)] 129);refine(HK.o _ (aR.o.below aO)).mono ?_;rintro e w2⟨rfl,aI,aD⟩;have aN:b < w1.heap.size:=by omega
 obtain⟨p0,p1,_,_,aM⟩:=U9 aD aN;have aB:=aD.block g (by simp;omega) (fun e=>by injection e with e;omega);have aA:(w1.alloc (.cells #[.int .i64 q,.int .i64 (m:Int)] 129)).heap[g]? = w1.heap[g]?:=C3 w1 _ g aH;have n0:w2.cell? ⟨g,0,none⟩=some (.int .i64 0):=(Bf (a:=⟨g,0,none⟩) (aB.trans aA)).trans m0;have n1:w2.cell? ⟨g,1,none⟩=some (.int .i64 0):=(Bf (a:=⟨g,1,none⟩) (aB.trans aA)).trans m1;have e0:w2.frozen? ⟨g,0,none⟩=false:=(C4 (a:=⟨g,0,none⟩) (aB.trans aA)).trans f0;have e1:w2.frozen? ⟨g,1,none⟩=false:=(C4 (a:=⟨g,1,none⟩) (aB.trans aA)).trans f1;have aQ:=hid aI;have aP:=hid aD;clear m0 m1 f0 f1 aI aD;generalize w1.heap.size=g2 at p0 p1 |-;go_wp2_with fail;have aL:w.grownBy w2 (some b):=D8 (Es (F8 (Iv w _) hk (by rw[HG.o];exact Ag _)) _) aP.o;refine Be (La rfl rfl (Nk n0 n1).1 (Nk n0 n1).2) rfl ⟨rfl,aQ.o.gb (Fn (Fn (Iv _ _) 0 _) 1 _) aG,Oh (Oh aL (by rw[HG.o];exact Ag _)) (by rw[HG.o];exact Ag _)⟩
