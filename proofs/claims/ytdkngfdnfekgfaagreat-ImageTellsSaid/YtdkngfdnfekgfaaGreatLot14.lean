import Derived.Test.YtdkngfdnfekgfaaGreatLot13
import Derived.Deep.RegionWith
set_option maxHeartbeats 3200000
set_option maxRecDepth 100000
set_option linter.unusedSimpArgs false
set_option linter.unusedVariables false
namespace Go.Proofs.YtdkngfdnfekgfaaGreat
open Go.RowKit Tab
def nextTd:List Rn→Nat→Nat→List Rn×Nat
 | [],tk,_=>([],tk)
 | r::s,tk,m=>if tk+m < r.n then (r::s,tk+m) else (s,0)
def CurN(b:Nat)(A:Option Addr)(n cap:Nat)(l:List Nd)(td:List Rn)(tk gn:Nat)(v:Value)(w:World)(e:Ending)(w':World):Prop :=
 e=.returned v∧Cur w' b A n cap l td tk gn∧w.grownBy w' (some b)
theorem beh_small{l:List Nd}{st:List (Nat×Nat)}{p:Nat}{td:List Rn}(h:Beh l st p td)(hl:l.length≤128):∀ e∈st,1≤e.1∧e.1≤9223372036854775807∧e.2≤1048576:=fun e he=>by
 have:=h.bound e he
 omega
theorem take_any(b:Nat)(A:Option Addr)(n cap:Nat)(l:List Nd)(r:Rn)(s:List Rn)(tk gn m:Nat)(w:World)(h:Cur w b A n cap l (r::s) tk gn)(hm:1≤m)(hm2:tk+m≤r.n):
  Calls Tryz.prog 137 #[.pointer (some ⟨b,0,none⟩),.int .i64 (m:Int)] w (CurN b A n cap l (nextTd (r::s) tk m).1 (nextTd (r::s) tk m).2 (gn+m) (.tuple #[]) w):=by
 obtain⟨c,st,p,hB,hP,e0,e34,e35,e36,hA⟩:=h.ex;have hlt:=hB.lt;have c0:=(hB 0 (by omega)).1;have c34:=(hB 34 (by omega)).1;have c35:=(hB 35 (by omega)).1;have c36:=(hB 36 (by omega)).1;have f34:=(hB 34 (by omega)).2;have f35:=(hB 35 (by omega)).2;have f36:=(hB 36 (by omega)).2;rw[e0] at c0;rw[e34] at c34;rw[e35] at c35;rw[e36] at c36;have hlen:=h.tb.rd.len;have hn:=h.tb.hn;have hcap:=h.tb.cap;have hsum:=h.sum;simp only[ticks] at hsum;rcases hA with ⟨_,_,h0⟩ | ⟨x,u,hf,h3,h4,hx,hst,hbeh,hxe⟩
 ·cases h0
 obtain⟨xk,xp,xn⟩:=x;have hpl:p < n:=by rw[← hlen];exact(List.getElem?_eq_some_iff.1 hx).1
 obtain⟨ad,y,rfl,hab,hy,hin,d0,d1,d2⟩:=h.tb.rd.at_ hpl;rw[hx] at hy;injection hy with hy;subst hy;have hn1:=fine_one hf;obtain⟨N,rfl⟩:=Int.eq_ofNat_of_zero_le (show 0≤xn by dsimp only at hn1;omega);injection hxe with hr hs;subst hs;have hN:r.n=N:=by rw[hr];simp
 have hN2:(N:Int)≤9223372036854775807:=hin.2.2.2;rw[hN] at hm2 hsum;have hgn:gn+m≤1048576:=by omega
 have hlt0:(p:Int) < (n:Int):=by omega
 have hlt1:0≤(p:Int):=by omega
 have hne:¬ ad.block=b:=by omega
 have HB:=hid hB;have HH:=hid h;have HP:=hid hP;have HN:=hid hN;have HE:=hid (And.intro e0 (And.intro e34 (And.intro e35 e36)));have HA:Hid (AtL l st p (r::s)):=hid (.inr ⟨_,s,hf,h3,h4,hx,hst,hbeh,by rw[hr]⟩);have HBE:=hid hbeh;have hne2:¬ (ad.add (p*3)).block=b:=by rw[add_block];exact hne
 have hB1:Blk ((w.setCell ⟨b,35,none⟩ (.int .i64 ((tk:Int)+(m:Int)))).setCell ⟨b,36,none⟩ (.int .i64 ((gn:Int)+(m:Int)))) b (upd (upd c 35 (.int .i64 ((tk:Int)+(m:Int)))) 36 (.int .i64 ((gn:Int)+(m:Int)))):=(hB.set (by omega) _).set (by omega) _;have hG1:w.grownBy ((w.setCell ⟨b,35,none⟩ (.int .i64 ((tk:Int)+(m:Int)))).setCell ⟨b,36,none⟩ (.int .i64 ((gn:Int)+(m:Int)))) (some b):=gb_set (gb_set (gb_refl _ _) _ _) _ _;obtain⟨W,hW⟩:∃ W,W=(w.setCell ⟨b,35,none⟩ (.int .i64 ((tk:Int)+(m:Int)))).setCell ⟨b,36,none⟩ (.int .i64 ((gn:Int)+(m:Int))):=⟨_,rfl⟩;rw[← hW] at hB1 hG1;have k0:=(hB1 0 (by omega)).1;have k34:=(hB1 34 (by omega)).1;have k35:=(hB1 35 (by omega)).1;have g34:=(hB1 34 (by omega)).2;have g35:=(hB1 35 (by omega)).2;rw[upd_other (by omega),upd_other (by omega),e0] at k0;rw[upd_other (by omega),upd_other (by omega),e34] at k34;rw[upd_other (by omega),upd_same] at k35;have hTW:=h.tb.gb (Nat.le_of_lt hlt) hG1;obtain⟨ad',y',e,_,hy',_,_,_,k2⟩:=hTW.rd.at_ hpl;injection e with e;subst e;rw[hx] at hy';injection hy' with hy';subst hy';have HB1:=hid hB1;have HG1:=hid hG1;have HT:=hid hTW;have HW:=hid hW;clear h hB hP e0 e34 e35 e36 hf h3 h4 hx hst hbeh hr hB1 hG1 hTW hW d0 d1 d2 hin hlen hN hn1;by_cases hlt2:tk+m < N
 ·have hlt3:(tk:Int)+(m:Int) < (N:Int):=by omega
  have hnx:nextTd (r::s) tk m=(r::s,tk+m):=by simp only[nextTd];rw[HN.out,if_pos hlt2]
  rw[hnx];have HL:=hid hlt2;clear hnx;go_enter Tryz.func137,Tryz.ntmps137;go_wp2_with fail;rw[← HW.out];go_quiet (fail);go_wp2_with fail;refine bodyPost_ret (results_none rfl _ _ _) rfl ⟨rfl,⟨HT.out.drewN _,⟨_,st,p,HB1.out.drewN _,⟨(HP.out.1.put (by have:=HP.out.2.2;omega) _).put (by have:=HP.out.2.2;omega) _,?_,HP.out.2.2⟩,?_,?_,?_,?_,HA.out⟩,?_,fun h=>by(cases h),?_,HH.out.pos⟩,gb_drewN HG1.out _⟩
  ·rw[upd_other (by omega),upd_other (by omega)];exact HP.out.2.1
  ·rw[upd_other (by omega),upd_other (by omega)];exact HE.out.1
  ·rw[upd_other (by omega),upd_other (by omega)];exact HE.out.2.1
  ·rw[upd_other (by omega),upd_same];rfl
  ·rw[upd_same];rfl
  ·rintro r' s' e;injection e with e1 e2;subst e1;rw[HN.out];exact HL.out
  simp only[ticks];rw[HN.out];omega
 have hlt3:¬ (tk:Int)+(m:Int) < (N:Int):=by omega
 have hnx:nextTd (r::s) tk m=(s,0):=by simp only[nextTd];rw[HN.out,if_neg hlt2]
 rw[hnx];have hc2:∀ q,Blk ((W.drewN q).setCell ⟨b,35,none⟩ (.int .i64 0)) b (upd (upd (upd c 35 (.int .i64 ((tk:Int)+(m:Int)))) 36 (.int .i64 ((gn:Int)+(m:Int)))) 35 (.int .i64 0)):=fun q=>(HB1.out.drewN q).set (by omega) _;have hg2:∀ q,w.grownBy ((W.drewN q).setCell ⟨b,35,none⟩ (.int .i64 0)) (some b):=fun q=>gb_set (gb_drewN HG1.out q) _ _;have hp2:PathC (upd (upd (upd c 35 (.int .i64 ((tk:Int)+(m:Int)))) 36 (.int .i64 ((gn:Int)+(m:Int)))) 35 (.int .i64 0)) st:=by
  have h16:=HP.out.2.2;refine⟨((HP.out.1.put (by omega) _).put (by omega) _).put (by omega) _,?_,h16⟩;rw[upd_other (by omega),upd_other (by omega),upd_other (by omega)];exact HP.out.2.1
 have h234:(upd (upd (upd c 35 (.int .i64 ((tk:Int)+(m:Int)))) 36 (.int .i64 ((gn:Int)+(m:Int)))) 35 (.int .i64 0)) 34=.int .i64 (p:Int):=by
  rw[upd_other (by omega),upd_other (by omega),upd_other (by omega)];exact HE.out.2.1
 have h20:(upd (upd (upd c 35 (.int .i64 ((tk:Int)+(m:Int)))) 36 (.int .i64 ((gn:Int)+(m:Int)))) 35 (.int .i64 0)) 0=.slice (some ad) n cap:=by
  rw[upd_other (by omega),upd_other (by omega),upd_other (by omega)];exact HE.out.1
 have h235:(upd (upd (upd c 35 (.int .i64 ((tk:Int)+(m:Int)))) 36 (.int .i64 ((gn:Int)+(m:Int)))) 35 (.int .i64 0)) 35=.int .i64 ((0:Nat):Int):=by
  rw[upd_same];rfl
 have h236:(upd (upd (upd c 35 (.int .i64 ((tk:Int)+(m:Int)))) 36 (.int .i64 ((gn:Int)+(m:Int)))) 35 (.int .i64 0)) 36=.int .i64 ((gn+m:Nat):Int):=by
  rw[upd_other (by omega),upd_same];rfl
 have HC2:=hid hc2;have HG2:=hid hg2;clear hnx hc2 hg2;generalize upd (upd (upd c 35 (.int .i64 ((tk:Int)+(m:Int)))) 36 (.int .i64 ((gn:Int)+(m:Int)))) 35 (.int .i64 0)=c2 at HC2 hp2 h234 h20 h235 h236;have H2:=hid (And.intro h20 (And.intro h234 (And.intro h235 h236)));have HP2:=hid hp2;have HL:=hid hlt2;clear hp2 h234 h20 h235 h236 hlt2;go_enter Tryz.func137,Tryz.ntmps137;go_wp2_with fail;rw[← HW.out];go_quiet (fail);go_wp2_with fail;have hB2:=HC2.out nq;have hG2:=HG2.out nq;generalize (W.drewN nq).setCell ⟨b,35,none⟩ (.int .i64 0)=W2 at hB2 hG2 ⊢;have q34:=(hB2 34 (by omega)).1;rw[H2.out.2.1] at q34;have r34:=(hB2 34 (by omega)).2;have HB2:=hid hB2;have HGG:=hid hG2;clear hB2 hG2 k0 k34 k35 g34 g35 k2;have hbh:Calls Tryz.prog 144 #[.pointer (some ⟨b,1,none⟩),.int .i64 (p:Int)] W2.drew fun e w3=>e=.returned (.int .i64 ((popm st (p+1)).2:Nat))∧w3.cell? ⟨b,34,none⟩=some (.int .i64 (p:Int))∧w3.frozen? ⟨b,34,none⟩=false∧∃ c3,Blk w3 b c3∧PathC c3 (popm st (p+1)).1∧Rest c2 c3∧W2.drew.grownBy w3 (some b):=by
  refine(behind1_any b c2 st p W2.drew HB2.out HP2.out (beh_small HBE.out (by rw[HH.out.tb.rd.len];omega)) (by omega)).mono ?_;rintro e w3⟨rfl,c3,hB3,hP3,hR3,hG3⟩;exact⟨rfl,by rw[(hB3 34 (by omega)).1,hR3.2 34 (by omega),H2.out.2.1],(hB3 34 (by omega)).2,c3,hB3,hP3,hR3,hG3⟩
 generalize hpq:(popm st (p+1)).2=p2 at hbh;have HPQ:=hid hpq;clear hpq;have HBH:=hid hbh;clear hbh;go_region_with (go_at_call 144;refine HBH.out.mono ?_;rintro e w3⟨rfl,q3,r3,hex⟩);go_wp2_with fail;obtain⟨c3,hB3,hP3,hR3,hG3⟩:=hex;have hpop:=HBE.out.pop;rw[HPQ.out] at hpop;have hG4:=gb_trans (gb_drew HGG.out) hG3;have hB4:=hB3.set (i:=34) (by omega) (.int .i64 (p2:Int));have hG5:=gb_set hG4 34 (.int .i64 (p2:Int));have hT5:=HH.out.tb.gb (Nat.le_of_lt hlt) hG5;have hP4:PathC (upd c3 34 (.int .i64 (p2:Int))) (popm st (p+1)).1:=⟨hP3.1.put (by have:=hP3.2.2;omega) _,by rw[upd_other (by omega)];exact hP3.2.1,hP3.2.2⟩;refine(enter_any b (some ad) n cap l _ (popm st (p+1)).1 p2 s _ hB4 hT5 hP4 (by rw[upd_other (by omega),hR3.1,H2.out.1]) (upd_same _ _ _) hpop).mono ?_;rintro e w5⟨rfl,c5,st5,p5,hB5,hP5,e34,e0,e35,e36,hA5,hG6⟩;go_wp2_with fail;go_end0;refine⟨rfl,⟨hT5.gb (Nat.le_of_lt hB4.lt) hG6,⟨c5,st5,p5,hB5,hP5,?_,e34,?_,?_,hA5⟩,fun r' s' e=>?_,fun _=>rfl,?_,fun q hq=>HH.out.pos q (List.mem_cons_of_mem _ hq)⟩,gb_trans hG5 hG6⟩
 ·rw[e0,upd_other (by omega),hR3.1,H2.out.1]
 ·rw[e35,upd_other (by omega),hR3.2 35 (by omega),H2.out.2.2.1]
 ·rw[e36,upd_other (by omega),hR3.2 36 (by omega),H2.out.2.2.2]
 ·exact HH.out.pos r' (List.mem_cons_of_mem _ (by rw[e];exact List.mem_cons_self))
 have:=HL.out;omega
def zr(c:Nat→Value)(o m:Nat):Nat→Value:=fun j=>if o≤j∧j < o+m then .int .i64 0 else c j
theorem zr_in{c:Nat→Value}{o m j:Nat}(h:o≤j∧j < o+m):zr c o m j=.int .i64 0:=if_pos h
theorem zr_out{c:Nat→Value}{o m j:Nat}(h:¬ (o≤j∧j < o+m)):zr c o m j=c j:=if_neg h
theorem zr_step(c:Nat→Value)(o m:Nat):zr (upd c o (.int .i64 0)) (o+1) m=zr c o (m+1):=by
 funext j;by_cases h1:o+1≤j∧j < o+1+m
 ·rw[zr_in h1,zr_in (by omega)]
 rw[zr_out h1];by_cases h2:j=o
 ·subst h2;rw[upd_same,zr_in (by omega)]
 rw[upd_other h2,zr_out (by omega)]
theorem run_zeros(b m:Nat):∀(i:Nat) (c:Nat→Value) (a w:World),Blk w b c→1+i+m≤37→a.grownBy w (some b)→∃ w',(storeCells ⟨b,1,none⟩ (List.replicate m (.int .i64 0)) i).run Tryz.prog w=.ok () w'∧Blk w' b (zr c (1+i) m)∧a.grownBy w' (some b):=by
 induction m with
 | zero =>
  intro i c a w h hi hg;refine⟨w,rfl,?_,hg⟩;have:zr c (1+i) 0=c:=by
   funext j;exact zr_out (by omega)
  rw[this];exact h
 | succ m ih =>
  intro i c a w h hi hg;have hadd:(⟨b,1,none⟩:Addr).add i=⟨b,1+i,none⟩:=by unfold Addr.add;split <;> simp_all
  obtain⟨w',h1,h2,h3⟩:=ih (i+1) _ a _ (h.set (i:=1+i) (by omega) (.int .i64 0)) (by omega) (gb_set hg _ _);refine⟨w',?_,?_,h3⟩
  ·rw[List.replicate_succ];have hst:(store ((⟨b,1,none⟩:Addr).add i) (.int .i64 0)).run Tryz.prog w=.ok () (w.setCell ⟨b,1+i,none⟩ (.int .i64 0)):=by
    rw[hadd,run_store Tryz.prog w _ _ _ rfl,(h (1+i) (by omega)).1,(h (1+i) (by omega)).2];rfl
   simp only[storeCells,Sem.run_bind,hst,Result.andThen_ok];exact h1
  rw[← zr_step,show 1+i+1=1+(i+1) by omega];exact h2
theorem run_path0(b:Nat)(c:Nat→Value)(a w:World)(h:Blk w b c)(hg:a.grownBy w (some b)):∃ w',(storeVar 166 ⟨b,1,none⟩ (.agg (List.replicate 33 (.int .i64 0)).toArray)).run Tryz.prog w=.ok () w'∧Blk w' b (zr c 1 33)∧a.grownBy w' (some b):=by
 obtain⟨w',h1,h2,h3⟩:=run_zeros b 33 0 c a w h (by omega) hg;refine⟨w',?_,h2,h3⟩;have e2:(sizeOf 166).run Tryz.prog w=.ok 33 w:=by go_simp
 unfold storeVar;rw[Sem.run_bind,e2,Result.andThen_ok];simp only[Value.cells];exact h1
theorem wpList_path0{ops:Array Oper}{rest:List Oper}{o:Oper}{a:Act}{Q:Exit→Act→World→Prop}{w w0:World}(hgd:o.guard=none)(x y:Operand)
  (ho:o.op=.store 166 x y) (b:Nat) (c:Nat→Value) (hx:a.eval x=.pointer (some ⟨b,1,none⟩)) (hy:a.eval y=.agg (List.replicate 33 (.int .i64 0)).toArray) (h:Blk w b c) (hg:w0.grownBy w (some b))
  (hK:∀ w',Blk w' b (zr c 1 33)→w0.grownBy w' (some b)→wpList Tryz.prog ops Q rest (a.put o.dst undef) w'):wpList Tryz.prog ops Q (o::rest) a w:=by
 refine wpList_plain hgd fun K hk=>?_
 obtain⟨w',hrun,h1,h2⟩:=run_path0 b c w0 w h hg
 unfold Oper.wp execOp
 simp only[ho,Instr.storeAt,Instr.sureAddr,Sem.run_bind,Sem.run_pure,Result.andThen_ok,hx,hy,hrun]
 exact hk _ _ (hK w' h1 h2)
theorem reset_any(b:Nat)(A:Option Addr)(n cap:Nat)(x:Nd)(k:F)(c:Nat→Value)(w:World)(h:Blk w b c)(hT:Tb w b A n cap (x::k.flat))(h0:c 0=.slice A n cap)(hok:(F.cons x k .nil).ok)(hd:k.dep+1≤16)(hl:ticks (one x k.lvs)≤1048576):
  Calls Tryz.prog 135 #[.pointer (some ⟨b,0,none⟩)] w (CurN b A n cap (x::k.flat) (one x k.lvs) 0 0 (.tuple #[]) w):=by
 have H:=hid h;have HT:=hid hT;have H0:=hid h0;clear h hT h0;go_enter Tryz.func135,Tryz.ntmps135;go_wp2_with (refine wpList_path0 (w0:=w) rfl (.tmp 8) (.tmp 6) rfl b c rfl rfl H.out (gb_refl _ _) ?_;intro w1 hB1 hG1;have z34:=(hB1 34 (by omega)).1;have z35:=(hB1 35 (by omega)).1;have z36:=(hB1 36 (by omega)).1;have y34:=(hB1 34 (by omega)).2;have y35:=(hB1 35 (by omega)).2;have y36:=(hB1 36 (by omega)).2);have hB2:=((hB1.set (i:=34) (by omega) (.int .i64 0)).set (i:=35) (by omega) (.int .i64 0)).set (i:=36) (by omega) (.int .i64 0);have hG2:=gb_set (gb_set (gb_set hG1 34 (.int .i64 0)) 35 (.int .i64 0)) 36 (.int .i64 0);have hT2:=HT.out.gb (Nat.le_of_lt H.out.lt) hG2;have hA:Ats (x::k.flat) [] 0 (one x k.lvs):=Ats.start hok hd;have hpos:∀ r∈one x k.lvs,1≤r.n:=fun r hr=>lvs_pos hok r (by simpa [F.lvs] using hr);have h00:(upd (upd (upd (zr c 1 33) 34 (.int .i64 0)) 35 (.int .i64 0)) 36 (.int .i64 0)) 0=.slice A n cap:=by
  rw[upd_other (by omega),upd_other (by omega),upd_other (by omega),zr_out (by omega)];exact H0.out
 refine(enter_any b A n cap _ _ [] 0 _ _ hB2 hT2 ⟨trivial,by rw[upd_other (by omega),upd_other (by omega),upd_other (by omega),zr_in (by omega)];rfl,by simp⟩ h00 (by rw[upd_other (by omega),upd_other (by omega),upd_same];rfl) hA).mono ?_;rintro e w5⟨rfl,c5,st5,p5,hB5,hP5,e34,e0,e35,e36,hA5,hG6⟩;clear z34 z35 z36 y34 y35 y36;go_wp2_with fail;go_end0;refine⟨rfl,⟨hT2.gb (Nat.le_of_lt hB2.lt) hG6,⟨c5,st5,p5,hB5,hP5,by rw[e0];exact h00,e34,?_,?_,hA5⟩,fun r' s' e=>?_,fun _=>rfl,by omega,hpos⟩,gb_trans hG2 hG6⟩
 ·rw[e35,upd_other (by omega),upd_same];rfl
 ·rw[e36,upd_same];rfl
 exact hpos r' (by rw[e];exact List.mem_cons_self)
theorem Cur.gb{w w':World}{b b':Nat}{A:Option Addr}{n cap:Nat}{l:List Nd}{td:List Rn}{tk gn:Nat}(h:Cur w b A n cap l td tk gn)(hg:w.grownBy w' (some b'))(hb:b < b'):Cur w' b A n cap l td tk gn:=by
 obtain⟨c,st,p,hB,r⟩:=h.ex;have hlt:=hB.lt;exact⟨⟨⟨h.tb.rd.len,h.tb.rd.rd.keep fun q hq=>World.cell?_of_block (hg.block q.block (by omega) (fun e=>by injection e with e;omega)),h.tb.rd.bd⟩,h.tb.cap,h.tb.hn⟩,⟨c,st,p,hB.keep (hg.block b hlt (fun e=>by injection e with e;omega)),r⟩,h.low,h.low0,h.sum,h.pos⟩
theorem gb_bl{a w w':World}{x:Option Nat}(h:a.grownBy w x)(k:Below w.heap.size w w'):a.grownBy w' x:=gb_below h k h.size
theorem two_cells{w:World}{g:Nat}{x y u v:Value}{o:Obj}(h0:w.cell? ⟨g,0,none⟩=some u)(h1:w.cell? ⟨g,1,none⟩=some v)(hg:g < w.heap.size):
  (((w.setCell ⟨g,0,none⟩ x).setCell ⟨g,1,none⟩ y).alloc o).cell? ⟨g,0,none⟩=some x∧(((w.setCell ⟨g,0,none⟩ x).setCell ⟨g,1,none⟩ y).alloc o).cell? ⟨g,1,none⟩=some y:=by
 have hs:g < ((w.setCell ⟨g,0,none⟩ x).setCell ⟨g,1,none⟩ y).heap.size:=by simpa [World.setCell] using hg
 constructor
 ·rw[World.cell?_alloc_lt _ _ _ hs,World.cell?_setCell_other _ _ _ _ (by simp)];exact World.cell?_setCell_same _ _ _ h0
 rw[World.cell?_alloc_lt _ _ _ hs];exact World.cell?_setCell_same _ _ _ ((World.cell?_setCell_other _ _ _ _ (by simp)).trans h1)
theorem two_cells0{w:World}{g:Nat}{x y u v:Value}(h0:w.cell? ⟨g,0,none⟩=some u)(h1:w.cell? ⟨g,1,none⟩=some v):
  ((w.setCell ⟨g,0,none⟩ x).setCell ⟨g,1,none⟩ y).cell? ⟨g,0,none⟩=some x∧((w.setCell ⟨g,0,none⟩ x).setCell ⟨g,1,none⟩ y).cell? ⟨g,1,none⟩=some y:=by
 constructor
 ·rw[World.cell?_setCell_other _ _ _ _ (by simp)];exact World.cell?_setCell_same _ _ _ h0
 exact World.cell?_setCell_same _ _ _ ((World.cell?_setCell_other _ _ _ _ (by simp)).trans h1)
theorem new_two{w w1:World}{x y:Int}{t:TypeId}(hb:Below (w.alloc (.cells #[.int .i64 x,.int .i64 y] t)).heap.size (w.alloc (.cells #[.int .i64 x,.int .i64 y] t)) w1):
  w1.cell? ⟨w.heap.size,0,none⟩=some (.int .i64 x)∧w1.cell? ⟨w.heap.size,1,none⟩=some (.int .i64 y)∧w1.frozen? ⟨w.heap.size,0,none⟩=false∧w1.frozen? ⟨w.heap.size,1,none⟩=false∧w.heap.size < w1.heap.size:=by
 have lt0:w.heap.size < (w.alloc (.cells #[.int .i64 x,.int .i64 y] t)).heap.size:=by simp
 exact⟨(hb.cell (p:=⟨w.heap.size,0,none⟩) lt0).trans (World.cell?_alloc_mark _ _ _ _ _),(hb.cell (p:=⟨w.heap.size,1,none⟩) lt0).trans (World.cell?_alloc_mark _ _ _ _ _),
  (World.frozen?_of_block (a:=⟨w.heap.size,0,none⟩) (hb.block _ lt0)).trans (by simp),(World.frozen?_of_block (a:=⟨w.heap.size,1,none⟩) (hb.block _ lt0)).trans (by simp),Nat.lt_of_lt_of_le lt0 hb.size⟩
theorem new_two_gb{w w1:World}{x y:Int}{t:TypeId}{b:Nat}(hg:(w.alloc (.cells #[.int .i64 x,.int .i64 y] t)).grownBy w1 (some b))(hb:b < w.heap.size):
  w1.cell? ⟨w.heap.size,0,none⟩=some (.int .i64 x)∧w1.cell? ⟨w.heap.size,1,none⟩=some (.int .i64 y)∧w1.frozen? ⟨w.heap.size,0,none⟩=false∧w1.frozen? ⟨w.heap.size,1,none⟩=false∧w.heap.size < w1.heap.size:=by
 have lt0:w.heap.size < (w.alloc (.cells #[.int .i64 x,.int .i64 y] t)).heap.size:=by simp
 have hk:=hg.block w.heap.size lt0 (fun e=>by injection e with e;omega);exact⟨(World.cell?_of_block (a:=⟨w.heap.size,0,none⟩) hk).trans (World.cell?_alloc_mark _ _ _ _ _),(World.cell?_of_block (a:=⟨w.heap.size,1,none⟩) hk).trans (World.cell?_alloc_mark _ _ _ _ _),
  (World.frozen?_of_block (a:=⟨w.heap.size,0,none⟩) hk).trans (by simp),(World.frozen?_of_block (a:=⟨w.heap.size,1,none⟩) hk).trans (by simp),Nat.lt_of_lt_of_le lt0 hg.size⟩
theorem next_end(b:Nat)(A:Option Addr)(n cap:Nat)(l:List Nd)(tk gn:Nat)(w:World)(h:Cur w b A n cap l [] tk gn):
  Calls Tryz.prog 125 #[.pointer (some ⟨b,0,none⟩)] w (Ans (.tuple #[rv 0 0,.bool false]) w):=by
 have hb1:=bl1 w (.cells #[.int .i64 0,.int .i64 0] 114);have hL:Calls Tryz.prog 136 #[.pointer (some ⟨b,0,none⟩)] (w.alloc (.cells #[.int .i64 0,.int .i64 0] 114)) (Ans (rv (-1) 0) (w.alloc (.cells #[.int .i64 0,.int .i64 0] 114))):=left_any b A n cap l [] tk gn _ (h.below hb1);have HL:=hid hL;clear hL h;go_enter Tryz.func125,Tryz.ntmps125;go_wp2_with fail;refine HL.out.mono ?_;rintro e w1⟨rfl,hb2⟩;have hk:=hb1.trans (hb2.mono hb1.size);obtain⟨m0,m1,f0,f1,hgl⟩:=new_two hb2;clear hb1 hb2 HL;generalize hg:w.heap.size=g at m0 m1 f0 f1 hgl hk ⊢;have HG:=hid hg;clear hg;go_wp2_with fail;refine bodyPost_ret (results_run2 rfl rfl (two_cells m0 m1 hgl).1 (two_cells m0 m1 hgl).2) rfl ⟨rfl,?_⟩;rw[HG.out];exact((hk.setCell (p:=⟨g,0,none⟩) (Nat.le_refl _) _).setCell (p:=⟨g,1,none⟩) (Nat.le_refl _) _).alloc (by have:=hk.size;rw[HG.out] at this;simpa [World.setCell] using this) _
theorem nextTd_all(r:Rn)(s:List Rn)(tk:Nat)(h:tk < r.n):nextTd (r::s) tk (r.n - tk)=(s,0):=by simp only[nextTd];rw[if_neg (by omega)]
theorem gb_set_new{a w:World}{g b:Nat}{x:Value}{i:Nat}(h:a.grownBy w (some b))(hg:a.heap.size≤g):a.grownBy (w.setCell ⟨g,i,none⟩ x) (some b) :=
 ⟨h.os,h.tape,h.output,by have:=h.size;simpa [World.setCell] using this,fun k hk hne=>(Below.heap_setCell w ⟨g,i,none⟩ x k (fun e=>by dsimp only at e;omega)).trans (h.block k hk hne)⟩
theorem next_some(b:Nat)(A:Option Addr)(n cap:Nat)(l:List Nd)(r:Rn)(s:List Rn)(tk gn:Nat)(w:World)(h:Cur w b A n cap l (r::s) tk gn):
  Calls Tryz.prog 125 #[.pointer (some ⟨b,0,none⟩)] w (CurN b A n cap l s 0 (gn+(r.n - tk)) (.tuple #[rv r.p ((r.n - tk:Nat):Int),.bool true]) w):=by
 have hlt:=h.lt;have htk:=h.low r s rfl;have hb1:=bl1 w (.cells #[.int .i64 0,.int .i64 0] 114);have hL:Calls Tryz.prog 136 #[.pointer (some ⟨b,0,none⟩)] (w.alloc (.cells #[.int .i64 0,.int .i64 0] 114)) (Ans (rv r.p ((r.n - tk:Nat):Int)) (w.alloc (.cells #[.int .i64 0,.int .i64 0] 114))):=left_any b A n cap l (r::s) tk gn _ (h.below hb1);have hK:=fun w' (hc:Cur w' b A n cap l (r::s) tk gn)=>take_any b A n cap l r s tk gn (r.n - tk) w' hc (by omega) (by omega);rw[nextTd_all r s tk htk] at hK;have HL:=hid hL;have HK:=hid hK;have HC:=hid h;have hm0:0 < r.n - tk:=by omega
 clear hL h hK htk;generalize r.n - tk=m at HL HK hm0 ⊢;generalize r.p=q at HL ⊢;have hne:((m:Int) == 0)=false:=beq_eq_false_iff_ne.2 (by omega);go_enter Tryz.func125,Tryz.ntmps125;go_wp2_with fail;refine HL.out.mono ?_;rintro e w1⟨rfl,hb2⟩;have hk:=hb1.trans (hb2.mono hb1.size);obtain⟨m0,m1,f0,f1,hgl⟩:=new_two hb2;have hC1:=HC.out.below hk;have HC1:=hid hC1;clear hb1 hb2 HL hC1;generalize hg:w.heap.size=g at m0 m1 f0 f1 hgl hk hlt ⊢;have HG:=hid hg;clear hg;go_wp2_with fail;have hb3:=bl1 w1 (.cells #[.int .i64 q,.int .i64 (m:Int)] 114);refine(HK.out _ (HC1.out.below hb3)).mono ?_;rintro e w2⟨rfl,hC2,hG2⟩;have hbl:b < w1.heap.size:=by omega
 obtain⟨p0,p1,_,_,hgl2⟩:=new_two_gb hG2 hbl;have hk2:=hG2.block g (by simp;omega) (fun e=>by injection e with e;omega);have hk3:(w1.alloc (.cells #[.int .i64 q,.int .i64 (m:Int)] 114)).heap[g]? = w1.heap[g]?:=Below.heap_alloc w1 _ g hgl;have n0:w2.cell? ⟨g,0,none⟩=some (.int .i64 0):=(World.cell?_of_block (a:=⟨g,0,none⟩) (hk2.trans hk3)).trans m0;have n1:w2.cell? ⟨g,1,none⟩=some (.int .i64 0):=(World.cell?_of_block (a:=⟨g,1,none⟩) (hk2.trans hk3)).trans m1;have e0:w2.frozen? ⟨g,0,none⟩=false:=(World.frozen?_of_block (a:=⟨g,0,none⟩) (hk2.trans hk3)).trans f0;have e1:w2.frozen? ⟨g,1,none⟩=false:=(World.frozen?_of_block (a:=⟨g,1,none⟩) (hk2.trans hk3)).trans f1;have HC2:=hid hC2;have HG2:=hid hG2;clear m0 m1 f0 f1 hC2 hG2;generalize w1.heap.size=g2 at p0 p1 ⊢;go_wp2_with fail;have hgw:w.grownBy w2 (some b):=gb_trans (gb_alloc (gb_below (gb_refl w _) hk (by rw[HG.out];exact Nat.le_refl _)) _) HG2.out;refine bodyPost_ret (results_run2 rfl rfl (two_cells0 n0 n1).1 (two_cells0 n0 n1).2) rfl ⟨rfl,HC2.out.gb (gb_set (gb_set (gb_refl _ _) 0 _) 1 _) hlt,gb_set_new (gb_set_new hgw (by rw[HG.out];exact Nat.le_refl _)) (by rw[HG.out];exact Nat.le_refl _)⟩
end Go.Proofs.YtdkngfdnfekgfaaGreat
