import Derived.Test.YtdkngfdnfekgfaaGreatLon10
import Derived.Laws.ResultCell
import Derived.Deep.RegionWith
set_option maxHeartbeats 3200000
set_option maxRecDepth 100000
set_option linter.unusedSimpArgs false
set_option linter.unusedVariables false
namespace Go.Proofs.YtdkngfdnfekgfaaGreat
open Go.RowKit Tab
structure Cur(w:World)(b:Nat)(A:Option Addr)(n cap:Nat)(l:List Nd)(td:List Rn)(tk gn:Nat):Prop where
 tb:Tb w b A n cap l
 ex:∃(c:Nat→Value) (st:List (Nat×Nat)) (p:Nat),Blk w b c∧PathC c st∧c 0=.slice A n cap∧c 34=.int .i64 (p:Int)∧c 35=.int .i64 (tk:Int)∧c 36=.int .i64 (gn:Int)∧AtL l st p td
 low:∀ r s,td=r::s→tk < r.n
 low0:td=[]→tk=0
 sum:gn+ticks td≤1048576+tk
 pos:∀ r∈td,1≤r.n
theorem Cur.lt{w:World}{b:Nat}{A:Option Addr}{n cap:Nat}{l:List Nd}{td:List Rn}{tk gn:Nat}(h:Cur w b A n cap l td tk gn):b < w.heap.size:=by
 obtain⟨c,st,p,hB,_⟩:=h.ex;exact hB.lt
theorem Cur.below{w w':World}{b:Nat}{A:Option Addr}{n cap:Nat}{l:List Nd}{td:List Rn}{tk gn:Nat}(h:Cur w b A n cap l td tk gn)(hb:Below w.heap.size w w'):Cur w' b A n cap l td tk gn:=by
 obtain⟨c,st,p,hB,r⟩:=h.ex;have hlt:=hB.lt;exact⟨⟨⟨h.tb.rd.len,h.tb.rd.rd.keep fun q hq=>World.cell?_of_block (hb.block q.block (by omega)),h.tb.rd.bd⟩,h.tb.cap,h.tb.hn⟩,⟨c,st,p,hB.keep (hb.block b hlt),r⟩,h.low,h.low0,h.sum,h.pos⟩
theorem Below.drewN{B:Nat}{w w':World}(h:Below B w w')(q:Nat):Below B w (w'.drewN q):=⟨h.os,h.tape,h.output,h.size,h.block⟩
def leftR:List Rn→Nat→Rn
 | [],_=>⟨-1,0⟩
 | r::_,tk=>⟨r.p,r.n - tk⟩
abbrev rv(p n:Int):Value:=.agg #[.int .i64 p,.int .i64 n]
theorem loadVar_run{w:World}{g:Nat}{x y:Int}(h0:w.cell? ⟨g,0,none⟩=some (.int .i64 x))(h1:w.cell? ⟨g,1,none⟩=some (.int .i64 y)):(loadVar 114 ⟨g,0,none⟩).run Tryz.prog w=.ok (rv x y) w:=by
 have e:(isAgg 114).run Tryz.prog w=.ok true w:=by go_simp
 have e2:(sizeOf 114).run Tryz.prog w=.ok 2 w:=by go_simp
 unfold loadVar;rw[Sem.run_bind,e,Result.andThen_ok];simp only[if_true];rw[Sem.run_bind,e2,Result.andThen_ok,Sem.run_bind];have:=run_loadCells_list (P:=Tryz.prog) (w:=w) ⟨g,0,none⟩ [.int .i64 x,.int .i64 y] (fun j v hj=>by
  match j with
  | 0=>simp at hj;subst hj;simpa [Addr.add] using h0
  | 1=>simp at hj;subst hj;simpa [Addr.add] using h1
  | j+2=>simp at hj)
 simp only[List.length_cons,List.length_nil] at this;rw[this,Result.andThen_ok];rfl
theorem results_cell1{fn:Func}{p:Tmp}{ty:TypeId}(h:fn.results=#[.cell p ty])(tmps:Array Value)(P:Program)(w:World):
  (results fn tmps).run P w=((asAddr (tmps.getD p undef)).run P w).andThen fun a w₁=>(loadVar ty a).run P w₁:=by
 simp only[results,h];simp[Sem.run_bind,Result.andThen]
theorem results_run{fn:Func}{p:Tmp}(h:fn.results=#[.cell p 114]){tmps:Array Value}{w:World}{g:Nat}{x y:Int}(hp:tmps.getD p undef=.pointer (some ⟨g,0,none⟩))(h0:w.cell? ⟨g,0,none⟩=some (.int .i64 x))(h1:w.cell? ⟨g,1,none⟩=some (.int .i64 y)):
  (results fn tmps).run Tryz.prog w=.ok (rv x y) w:=by
 have e:(asAddr (.pointer (some ⟨g,0,none⟩))).run Tryz.prog w=.ok ⟨g,0,none⟩ w:=rfl;rw[results_cell1 h,hp,e,Result.andThen_ok,loadVar_run h0 h1]
theorem results_run2{fn:Func}{p q:Tmp}(h:fn.results=#[.cell p 114,.tmp q]){tmps:Array Value}{w:World}{g:Nat}{x y:Int}(hp:tmps.getD p undef=.pointer (some ⟨g,0,none⟩))(h0:w.cell? ⟨g,0,none⟩=some (.int .i64 x))(h1:w.cell? ⟨g,1,none⟩=some (.int .i64 y)):
  (results fn tmps).run Tryz.prog w=.ok (.tuple #[rv x y,tmps.getD q undef]) w:=by
 have e:(asAddr (.pointer (some ⟨g,0,none⟩))).run Tryz.prog w=.ok ⟨g,0,none⟩ w:=rfl;rw[results_cell_tmp h,hp,e,Result.andThen_ok,loadVar_run h0 h1,Result.andThen_ok]
theorem left_any(b:Nat)(A:Option Addr)(n cap:Nat)(l:List Nd)(td:List Rn)(tk gn:Nat)(w:World)(h:Cur w b A n cap l td tk gn):
  Calls Tryz.prog 136 #[.pointer (some ⟨b,0,none⟩)] w (Ans (rv (leftR td tk).p ((leftR td tk).n:Int)) w):=by
 obtain⟨c,st,p,hB,hP,e0,e34,e35,e36,hA⟩:=h.ex;have hlt:=hB.lt;obtain⟨W,hW⟩:∃ W,W=w.alloc (.cells #[.int .i64 0,.int .i64 0] 114):=⟨_,rfl⟩;have hBW:Blk W b c:=hB.keep (by rw[hW];exact Below.heap_alloc w _ b hlt);have hTW:Tb W b A n cap l:=⟨⟨h.tb.rd.len,h.tb.rd.rd.keep fun q hq=>by rw[hW];exact World.cell?_alloc_lt w _ q (by omega),h.tb.rd.bd⟩,h.tb.cap,h.tb.hn⟩;have n0:W.cell? ⟨w.heap.size,0,none⟩=some (.int .i64 0):=by rw[hW];exact World.cell?_alloc_mark _ _ _ _ _
 have n1:W.cell? ⟨w.heap.size,1,none⟩=some (.int .i64 0):=by rw[hW];exact World.cell?_alloc_mark _ _ _ _ _
 have g0:W.frozen? ⟨w.heap.size,0,none⟩=false:=by rw[hW];simp
 have g1:W.frozen? ⟨w.heap.size,1,none⟩=false:=by rw[hW];simp
 have hbW:Below w.heap.size w W:=by rw[hW];exact bl1 _ _
 have hgs:w.heap.size < W.heap.size:=by rw[hW];simp
 have c0:=(hBW 0 (by omega)).1;have c34:=(hBW 34 (by omega)).1;have c35:=(hBW 35 (by omega)).1;rw[e0] at c0;rw[e34] at c34;rw[e35] at c35;have HW:=hid hW;have hlen:=h.tb.rd.len;have hn:=h.tb.hn;have hcap:=h.tb.cap;rcases hA with ⟨_,hp,rfl⟩ | ⟨x,u,hf,h3,h4,hx,_,_,rfl⟩
 ·rw[hlen] at hp;subst hp;clear h hB hBW hTW hP e0 e34 e35 e36 hlen hW;go_enter Tryz.func136,Tryz.ntmps136;go_wp2_with fail;rw[← HW.out];clear HW;generalize hg:w.heap.size=g at n0 n1 g0 g1 hbW hgs ⊢;have HGS:=hid hg;clear hg;go_quiet (fail);go_wp2_with fail;refine bodyPost_ret (results_run rfl rfl (x:=-1) (y:=0) ?_ ?_) rfl ⟨rfl,?_⟩
  ·rw[World.cell?_setCell_other _ _ _ _ (by simp)];exact World.cell?_setCell_same _ _ _ (u:=.int .i64 0) n0
  ·exact World.cell?_setCell_same _ _ _ (u:=.int .i64 0) ((World.cell?_setCell_other _ _ _ _ (by simp)).trans n1)
  rw[HGS.out];exact((Below.drewN hbW nq).setCell (p:=⟨g,0,none⟩) (Nat.le_refl _) _).setCell (p:=⟨g,1,none⟩) (Nat.le_refl _) _
 obtain⟨xk,xp,xn⟩:=x;have hpl:p < n:=by rw[← hlen];exact(List.getElem?_eq_some_iff.1 hx).1
 obtain⟨ad,y,rfl,hab,hy,hin,d0,d1,d2⟩:=hTW.rd.at_ hpl;rw[hx] at hy;injection hy with hy;subst hy;have hn1:=fine_one hf;obtain⟨N,rfl⟩:=Int.eq_ofNat_of_zero_le (show 0≤xn by dsimp only at hn1;omega);have hn2:(N:Int)≤9223372036854775807:=hin.2.2.2;have htk:tk < N:=by have:=h.low _ _ rfl;simpa using this
 have hw1:IntKind.i64.wrap ((N:Int) - (tk:Int))=(N:Int) - (tk:Int):=IntWalk.i64_in _ (by omega);have HW1:=hid hw1;have hdne:((p:Int) == (n:Int))=false:=beq_eq_false_iff_ne.2 (by omega);have hlt0:(p:Int) < (n:Int):=by omega
 have hlt1:0≤(p:Int):=by omega
 have hal:(ad.add (p*3)).block < W.heap.size:=by rw[add_block];omega
 have hbl:b < W.heap.size:=by omega
 have hwho:(leftR (⟨whose ⟨xk,xp,(N:Int)⟩,(N:Int).toNat⟩::u) tk)=⟨if xk=2 then -1 else xp,N - tk⟩:=by
  simp only[leftR,whose,Int.toNat_natCast]
 generalize leftR (⟨whose ⟨xk,xp,(N:Int)⟩,(N:Int).toNat⟩::u) tk=R at hwho ⊢;have HR:=hid hwho;clear h hB hBW hTW hP e0 e34 e35 e36 hlen hW hf hx hin hwho hw1 h3 h4;go_enter Tryz.func136,Tryz.ntmps136;go_wp2_with fail;rw[← HW.out];clear HW;generalize hg:w.heap.size=g at n0 n1 g0 g1 hbW hgs ⊢;have HGS:=hid hg;clear hg;go_quiet (fail);go_wp2_with fail;obtain⟨W1,hW1⟩:∃ W1,W1=W.drewN nq:=⟨_,rfl⟩;have E0:W1.cell? ⟨b,0,none⟩=some (.slice (some ad) n cap):=by rw[hW1];exact c0
 have E34:W1.cell? ⟨b,34,none⟩=some (.int .i64 (p:Int)):=by rw[hW1];exact c34
 have E35:W1.cell? ⟨b,35,none⟩=some (.int .i64 (tk:Int)):=by rw[hW1];exact c35
 have F0:W1.cell? (ad.add (p*3))=some (.int .i64 xk):=by rw[hW1];exact d0
 have F1:W1.cell? ⟨(ad.add (p*3)).block,(ad.add (p*3)).off+1,none⟩=some (.int .i64 xp):=by rw[hW1];exact d1
 have F2:W1.cell? ⟨(ad.add (p*3)).block,(ad.add (p*3)).off+2,none⟩=some (.int .i64 (N:Int)):=by rw[hW1];exact d2
 have N0:W1.cell? ⟨g,0,none⟩=some (.int .i64 0):=by rw[hW1];exact n0
 have N1:W1.cell? ⟨g,1,none⟩=some (.int .i64 0):=by rw[hW1];exact n1
 have G0:W1.frozen? ⟨g,0,none⟩=false:=by rw[hW1];exact g0
 have G1:W1.frozen? ⟨g,1,none⟩=false:=by rw[hW1];exact g1
 have hbl':b < W1.heap.size:=by rw[hW1];exact hbl
 have hal':(ad.add (p*3)).block < W1.heap.size:=by rw[hW1];exact hal
 have hgs':g < W1.heap.size:=by rw[hW1];exact hgs
 have hbW1:Below g w W1:=by rw[hW1];exact Below.drewN hbW nq
 rw[← hW1];clear c0 c34 c35 d0 d1 d2 hW1 n0 n1 g0 g1 hbl hal hgs hbW;go_region;obtain⟨W2,hW2⟩:∃ W2,W2=(W1.alloc (.cells #[.int .i64 xk,.int .i64 xp,.int .i64 (N:Int)] 70)).drew:=⟨_,rfl⟩;have K35:W2.cell? ⟨b,35,none⟩=some (.int .i64 (tk:Int)):=by rw[hW2];exact(World.cell?_alloc_lt W1 _ ⟨b,35,none⟩ hbl').trans E35
 have Q0:W2.cell? ⟨W1.heap.size,0,none⟩=some (.int .i64 xk):=by rw[hW2];exact World.cell?_alloc_mark _ _ _ _ _
 have Q1:W2.cell? ⟨W1.heap.size,1,none⟩=some (.int .i64 xp):=by rw[hW2];exact World.cell?_alloc_mark _ _ _ _ _
 have Q2:W2.cell? ⟨W1.heap.size,2,none⟩=some (.int .i64 (N:Int)):=by rw[hW2];exact World.cell?_alloc_mark _ _ _ _ _
 have M0:W2.cell? ⟨g,0,none⟩=some (.int .i64 0):=by rw[hW2];exact(World.cell?_alloc_lt W1 _ ⟨g,0,none⟩ hgs').trans N0
 have M1:W2.cell? ⟨g,1,none⟩=some (.int .i64 0):=by rw[hW2];exact(World.cell?_alloc_lt W1 _ ⟨g,1,none⟩ hgs').trans N1
 have P0:W2.frozen? ⟨g,0,none⟩=false:=by rw[hW2];exact(World.frozen?_of_block (a:=⟨g,0,none⟩) (Below.heap_alloc W1 _ g hgs')).trans G0
 have P1:W2.frozen? ⟨g,1,none⟩=false:=by rw[hW2];exact(World.frozen?_of_block (a:=⟨g,1,none⟩) (Below.heap_alloc W1 _ g hgs')).trans G1
 have hbW2:Below g w W2:=by rw[hW2];exact(hbW1.alloc (Nat.le_of_lt hgs') _).drew
 rw[← hW2];clear hW2 E0 E34 E35 F0 F1 F2 N0 N1 G0 G1 hal' hbW1 hgs';generalize W1.heap.size=g2 at Q0 Q1 Q2 ⊢;have hfin:∀ v:Int,v=R.p→Ans (rv R.p (R.n:Int)) w (.returned (rv v ((N:Int) - (tk:Int)))) ((W2.drew.setCell ⟨g,0,none⟩ (.int .i64 v)).setCell ⟨g,1,none⟩ (.int .i64 ((N:Int) - (tk:Int)))):=fun v hv=>by
  refine⟨?_,?_⟩
  ·rw[hv,HR.out];dsimp only;rw[show ((N - tk:Nat):Int)=(N:Int) - (tk:Int) by omega]
  rw[HGS.out];exact((hbW2.drew).setCell (p:=⟨g,0,none⟩) (Nat.le_refl _) _).setCell (p:=⟨g,1,none⟩) (Nat.le_refl _) _
 have HF:=hid hfin
 clear hfin
 go_wp2_with fail
 all_goals
  have hw1:=HW1.out;go_still_tail 9,(by kernel_rfl);change wpList _ _ _ _ _ W2.drew;go_wp2_with fail;refine bodyPost_ret (results_run rfl rfl ?_ ?_) rfl (HF.out _ ?_)
  ·rw[World.cell?_drew,World.cell?_setCell_other _ _ _ _ (by simp)];exact World.cell?_setCell_same _ _ _ (u:=.int .i64 0) M0
  ·rw[World.cell?_drew];exact World.cell?_setCell_same _ _ _ (u:=.int .i64 0) ((World.cell?_setCell_other _ _ _ _ (by simp)).trans M1)
  rw[HR.out];simp only[beq_iff_eq,beq_eq_false_iff_ne,ne_eq] at *;simp[*]
def MadeR(L:List Rn)(w:World)(e:Ending)(w':World):Prop:=∃ A c,e=.returned (.slice A L.length c)∧RdR w' w'.heap.size A L.length L∧L.length≤c∧Below w.heap.size w w'∧∀ ad,A=some ad→w.heap.size≤ad.block
theorem OwnV.rdr{w:World}{B n c:Nat}{A:Option Addr}{L:List Rn}(h:OwnV 114 2 w B A n c (rs L)):RdR w w.heap.size A n L:=⟨by have:=h.len;rw[rs_length] at this;omega,h.rd⟩
theorem rLeaves_right(A:Option Addr)(n cap:Nat)(x:Nd)(k:F)(w:World)(h:RdN w w.heap.size A n (x::k.flat))(hc:n≤cap)(hok:(F.cons x k .nil).ok)(hn:n≤128)(hl:F.tick x k.len≤4096):
  Calls Tryz.prog 67 #[.slice A n cap] w (MadeR (one x k.lvs) w):=by
 have hpos:∀ r∈one x k.lvs,1≤r.n:=fun r hr=>lvs_pos hok r (by simpa [F.lvs] using hr);have hlen:=length_le_ticks hpos;rw[one_ticks,lvs_ticks] at hlen;have hdr:(x::k.flat).drop 0=(F.cons x k .nil).flat++[]:=by simp[F.flat]
 have hL:Calls Tryz.prog 91 #[.slice A n cap,.int .i64 0,.slice none 0 0] w (MoreR w.heap.size none (one x k.lvs) w):=by
  have:=rleaves_any w.heap.size A n cap _ hc (by omega) (k.sz+1) 0 x k .nil [] w none 0 0 [] (by omega) h hok hdr (Nat.le_refl _) rfl (OwnV.nil _ _ _ _) (by omega);simpa using this
 have HL:=hid hL;clear hL hpos hlen hdr hok;generalize one x k.lvs=L at HL ⊢;go_enter Tryz.func67,Tryz.ntmps67;go_wp2_with fail;refine HL.out.mono ?_;rintro e w1⟨A1,c1,rfl,ho,hb,_⟩;have HO:=hid ho;clear ho;generalize hq:L.length=q;have HQ:=hid hq;clear hq;go_wp2_with fail;go_ret;refine⟨A1,c1,by rw[HQ.out];rfl,HO.out.rdr,HO.out.cap,hb,HO.out.newer⟩
def nextTd:List Rn→Nat→Nat→List Rn×Nat
 | [],tk,_=>([],tk)
 | r::s,tk,m=>if tk+m < r.n then (r::s,tk+m) else (s,0)
def CurN(b:Nat)(A:Option Addr)(n cap:Nat)(l:List Nd)(td:List Rn)(tk gn:Nat)(v:Value)(w:World)(e:Ending)(w':World):Prop :=
 e=.returned v∧Cur w' b A n cap l td tk gn∧w.grownBy w' (some b)
theorem beh_small{l:List Nd}{st:List (Nat×Nat)}{p:Nat}{td:List Rn}(h:Beh l st p td)(hl:l.length≤128):∀ e∈st,1≤e.1∧e.1≤9223372036854775807∧e.2≤1048576:=fun e he=>by
 have:=h.bound e he
 omega
theorem take_any(b:Nat)(A:Option Addr)(n cap:Nat)(l:List Nd)(r:Rn)(s:List Rn)(tk gn m:Nat)(w:World)(h:Cur w b A n cap l (r::s) tk gn)(hm:1≤m)(hm2:tk+m≤r.n):
  Calls Tryz.prog 137 #[.pointer (some ⟨b,0,none⟩),.int .i64 (m:Int)] w (CurN b A n cap l (nextTd (r::s) tk m).1 (nextTd (r::s) tk m).2 (gn+m) (.tuple #[]) w):=by
 obtain⟨c,st,p,hB,hP,e0,e34,e35,e36,hA⟩:=h.ex;have hlt:=hB.lt;have c0:=(hB 0 (by omega)).1;have c34:=(hB 34 (by omega)).1;have c35:=(hB 35 (by omega)).1;have c36:=(hB 36 (by omega)).1;have f34:=(hB 34 (by omega)).2;have f35:=(hB 35 (by omega)).2;have f36:=(hB 36 (by omega)).2;rw[e0] at c0;rw[e34] at c34;rw[e35] at c35;rw[e36] at c36;have hlen:=h.tb.rd.len;have hn:=h.tb.hn;have hcap:=h.tb.cap;have hsum:=h.sum;simp only[ticks] at hsum;rcases hA with ⟨_,_,h0⟩ | ⟨x,u,hf,h3,h4,hx,hst,hbeh,hxe⟩
 ·cases h0
 obtain⟨xk,xp,xn⟩:=x;have hpl:p < n:=by rw[← hlen];exact(List.getElem?_eq_some_iff.1 hx).1
 obtain⟨ad,y,rfl,hab,hy,hin,d0,d1,d2⟩:=h.tb.rd.at_ hpl;rw[hx] at hy;injection hy with hy;subst hy;have hn1:=fine_one hf;obtain⟨N,rfl⟩:=Int.eq_ofNat_of_zero_le (show 0≤xn by dsimp only at hn1;omega);injection hxe with hr hs;subst hs;have hN:r.n=N:=by rw[hr];simp
 have hN2:(N:Int)≤9223372036854775807:=hin.2.2.2;rw[hN] at hm2 hsum;have hgn:gn+m≤1048576:=by omega
 have hlt0:(p:Int) < (n:Int):=by omega
 have hlt1:0≤(p:Int):=by omega
 have hne:¬ ad.block=b:=by omega
 have HB:=hid hB;have HH:=hid h;have HP:=hid hP;have HN:=hid hN;have HE:=hid (And.intro e0 (And.intro e34 (And.intro e35 e36)));have HA:Hid (AtL l st p (r::s)):=hid (.inr ⟨_,s,hf,h3,h4,hx,hst,hbeh,by rw[hr]⟩);have HBE:=hid hbeh;have hne2:¬ (ad.add (p*3)).block=b:=by rw[add_block];exact hne
 have hB1:Blk ((w.setCell ⟨b,35,none⟩ (.int .i64 ((tk:Int)+(m:Int)))).setCell ⟨b,36,none⟩ (.int .i64 ((gn:Int)+(m:Int)))) b (upd (upd c 35 (.int .i64 ((tk:Int)+(m:Int)))) 36 (.int .i64 ((gn:Int)+(m:Int)))):=(hB.set (by omega) _).set (by omega) _;have hG1:w.grownBy ((w.setCell ⟨b,35,none⟩ (.int .i64 ((tk:Int)+(m:Int)))).setCell ⟨b,36,none⟩ (.int .i64 ((gn:Int)+(m:Int)))) (some b):=gb_set (gb_set (gb_refl _ _) _ _) _ _;obtain⟨W,hW⟩:∃ W,W=(w.setCell ⟨b,35,none⟩ (.int .i64 ((tk:Int)+(m:Int)))).setCell ⟨b,36,none⟩ (.int .i64 ((gn:Int)+(m:Int))):=⟨_,rfl⟩;rw[← hW] at hB1 hG1;have k0:=(hB1 0 (by omega)).1;have k34:=(hB1 34 (by omega)).1;have k35:=(hB1 35 (by omega)).1;have g34:=(hB1 34 (by omega)).2;have g35:=(hB1 35 (by omega)).2;rw[upd_other (by omega),upd_other (by omega),e0] at k0;rw[upd_other (by omega),upd_other (by omega),e34] at k34;rw[upd_other (by omega),upd_same] at k35;have hTW:=h.tb.gb (Nat.le_of_lt hlt) hG1;obtain⟨ad',y',e,_,hy',_,_,_,k2⟩:=hTW.rd.at_ hpl;injection e with e;subst e;rw[hx] at hy';injection hy' with hy';subst hy';have HB1:=hid hB1;have HG1:=hid hG1;have HT:=hid hTW;have HW:=hid hW;clear h hB hP e0 e34 e35 e36 hf h3 h4 hx hst hbeh hr hB1 hG1 hTW hW d0 d1 d2 hin hlen hN hn1;by_cases hlt2:tk+m < N
 ·have hlt3:(tk:Int)+(m:Int) < (N:Int):=by omega
  have hnx:nextTd (r::s) tk m=(r::s,tk+m):=by simp only[nextTd];rw[HN.out,if_pos hlt2]
  rw[hnx];have HL:=hid hlt2;clear hnx;go_enter Tryz.func137,Tryz.ntmps137;go_wp2_with fail;rw[← HW.out];go_quiet (fail);go_wp2_with fail;refine bodyPost_ret (results_none rfl _ _ _) rfl ⟨rfl,⟨HT.out.drewN _,⟨_,st,p,HB1.out.drewN _,⟨(HP.out.1.put (by have:=HP.out.2.2;omega) _).put (by have:=HP.out.2.2;omega) _,?_,HP.out.2.2⟩,?_,?_,?_,?_,HA.out⟩,?_,fun h=>by(cases h),?_,HH.out.pos⟩,gb_drewN HG1.out _⟩
  ·rw[upd_other (by omega),upd_other (by omega)];exact HP.out.2.1
  ·rw[upd_other (by omega),upd_other (by omega)];exact HE.out.1
  ·rw[upd_other (by omega),upd_other (by omega)];exact HE.out.2.1
  ·rw[upd_other (by omega),upd_same];rfl
  ·rw[upd_same];rfl
  ·rintro r' s' e;injection e with e1 e2;subst e1;rw[HN.out];exact HL.out
  simp only[ticks];rw[HN.out];omega
 have hlt3:¬ (tk:Int)+(m:Int) < (N:Int):=by omega
 have hnx:nextTd (r::s) tk m=(s,0):=by simp only[nextTd];rw[HN.out,if_neg hlt2]
 rw[hnx];have hc2:∀ q,Blk ((W.drewN q).setCell ⟨b,35,none⟩ (.int .i64 0)) b (upd (upd (upd c 35 (.int .i64 ((tk:Int)+(m:Int)))) 36 (.int .i64 ((gn:Int)+(m:Int)))) 35 (.int .i64 0)):=fun q=>(HB1.out.drewN q).set (by omega) _;have hg2:∀ q,w.grownBy ((W.drewN q).setCell ⟨b,35,none⟩ (.int .i64 0)) (some b):=fun q=>gb_set (gb_drewN HG1.out q) _ _;have hp2:PathC (upd (upd (upd c 35 (.int .i64 ((tk:Int)+(m:Int)))) 36 (.int .i64 ((gn:Int)+(m:Int)))) 35 (.int .i64 0)) st:=by
  have h16:=HP.out.2.2;refine⟨((HP.out.1.put (by omega) _).put (by omega) _).put (by omega) _,?_,h16⟩;rw[upd_other (by omega),upd_other (by omega),upd_other (by omega)];exact HP.out.2.1
 have h234:(upd (upd (upd c 35 (.int .i64 ((tk:Int)+(m:Int)))) 36 (.int .i64 ((gn:Int)+(m:Int)))) 35 (.int .i64 0)) 34=.int .i64 (p:Int):=by
  rw[upd_other (by omega),upd_other (by omega),upd_other (by omega)];exact HE.out.2.1
 have h20:(upd (upd (upd c 35 (.int .i64 ((tk:Int)+(m:Int)))) 36 (.int .i64 ((gn:Int)+(m:Int)))) 35 (.int .i64 0)) 0=.slice (some ad) n cap:=by
  rw[upd_other (by omega),upd_other (by omega),upd_other (by omega)];exact HE.out.1
 have h235:(upd (upd (upd c 35 (.int .i64 ((tk:Int)+(m:Int)))) 36 (.int .i64 ((gn:Int)+(m:Int)))) 35 (.int .i64 0)) 35=.int .i64 ((0:Nat):Int):=by
  rw[upd_same];rfl
 have h236:(upd (upd (upd c 35 (.int .i64 ((tk:Int)+(m:Int)))) 36 (.int .i64 ((gn:Int)+(m:Int)))) 35 (.int .i64 0)) 36=.int .i64 ((gn+m:Nat):Int):=by
  rw[upd_other (by omega),upd_same];rfl
 have HC2:=hid hc2;have HG2:=hid hg2;clear hnx hc2 hg2;generalize upd (upd (upd c 35 (.int .i64 ((tk:Int)+(m:Int)))) 36 (.int .i64 ((gn:Int)+(m:Int)))) 35 (.int .i64 0)=c2 at HC2 hp2 h234 h20 h235 h236;have H2:=hid (And.intro h20 (And.intro h234 (And.intro h235 h236)));have HP2:=hid hp2;have HL:=hid hlt2;clear hp2 h234 h20 h235 h236 hlt2;go_enter Tryz.func137,Tryz.ntmps137;go_wp2_with fail;rw[← HW.out];go_quiet (fail);go_wp2_with fail;have hB2:=HC2.out nq;have hG2:=HG2.out nq;generalize (W.drewN nq).setCell ⟨b,35,none⟩ (.int .i64 0)=W2 at hB2 hG2 ⊢;have q34:=(hB2 34 (by omega)).1;rw[H2.out.2.1] at q34;have r34:=(hB2 34 (by omega)).2;have HB2:=hid hB2;have HGG:=hid hG2;clear hB2 hG2 k0 k34 k35 g34 g35 k2;have hbh:Calls Tryz.prog 144 #[.pointer (some ⟨b,1,none⟩),.int .i64 (p:Int)] W2.drew fun e w3=>e=.returned (.int .i64 ((popm st (p+1)).2:Nat))∧w3.cell? ⟨b,34,none⟩=some (.int .i64 (p:Int))∧w3.frozen? ⟨b,34,none⟩=false∧∃ c3,Blk w3 b c3∧PathC c3 (popm st (p+1)).1∧Rest c2 c3∧W2.drew.grownBy w3 (some b):=by
  refine(behind1_any b c2 st p W2.drew HB2.out HP2.out (beh_small HBE.out (by rw[HH.out.tb.rd.len];omega)) (by omega)).mono ?_;rintro e w3⟨rfl,c3,hB3,hP3,hR3,hG3⟩;exact⟨rfl,by rw[(hB3 34 (by omega)).1,hR3.2 34 (by omega),H2.out.2.1],(hB3 34 (by omega)).2,c3,hB3,hP3,hR3,hG3⟩
 generalize hpq:(popm st (p+1)).2=p2 at hbh;have HPQ:=hid hpq;clear hpq;have HBH:=hid hbh;clear hbh;go_region_with (go_at_call 144;refine HBH.out.mono ?_;rintro e w3⟨rfl,q3,r3,hex⟩);go_wp2_with fail;obtain⟨c3,hB3,hP3,hR3,hG3⟩:=hex;have hpop:=HBE.out.pop;rw[HPQ.out] at hpop;have hG4:=gb_trans (gb_drew HGG.out) hG3;have hB4:=hB3.set (i:=34) (by omega) (.int .i64 (p2:Int));have hG5:=gb_set hG4 34 (.int .i64 (p2:Int));have hT5:=HH.out.tb.gb (Nat.le_of_lt hlt) hG5;have hP4:PathC (upd c3 34 (.int .i64 (p2:Int))) (popm st (p+1)).1:=⟨hP3.1.put (by have:=hP3.2.2;omega) _,by rw[upd_other (by omega)];exact hP3.2.1,hP3.2.2⟩;refine(enter_any b (some ad) n cap l _ (popm st (p+1)).1 p2 s _ hB4 hT5 hP4 (by rw[upd_other (by omega),hR3.1,H2.out.1]) (upd_same _ _ _) hpop).mono ?_;rintro e w5⟨rfl,c5,st5,p5,hB5,hP5,e34,e0,e35,e36,hA5,hG6⟩;go_wp2_with fail;go_end0;refine⟨rfl,⟨hT5.gb (Nat.le_of_lt hB4.lt) hG6,⟨c5,st5,p5,hB5,hP5,?_,e34,?_,?_,hA5⟩,fun r' s' e=>?_,fun _=>rfl,?_,fun q hq=>HH.out.pos q (List.mem_cons_of_mem _ hq)⟩,gb_trans hG5 hG6⟩
 ·rw[e0,upd_other (by omega),hR3.1,H2.out.1]
 ·rw[e35,upd_other (by omega),hR3.2 35 (by omega),H2.out.2.2.1]
 ·rw[e36,upd_other (by omega),hR3.2 36 (by omega),H2.out.2.2.2]
 ·exact HH.out.pos r' (List.mem_cons_of_mem _ (by rw[e];exact List.mem_cons_self))
 have:=HL.out;omega
end Go.Proofs.YtdkngfdnfekgfaaGreat
