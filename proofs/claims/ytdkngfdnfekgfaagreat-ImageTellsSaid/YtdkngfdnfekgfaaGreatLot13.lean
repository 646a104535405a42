import Derived.Test.YtdkngfdnfekgfaaGreatLot12
import Derived.Laws.ResultCell
import Derived.Test.YtdkngfdnfekgfaaGreatLot11
set_option maxHeartbeats 3200000
set_option maxRecDepth 100000
set_option linter.unusedSimpArgs false
set_option linter.unusedVariables false
namespace Go.Proofs.YtdkngfdnfekgfaaGreat
open Go.RowKit Tab
structure Tb(w:World)(b:Nat)(A:Option Addr)(n cap:Nat)(l:List Nd):Prop where
 rd:RdN w b A n l
 cap:n≤cap
 hn:n≤128
theorem RdN.gb{w w':World}{b n:Nat}{A:Option Addr}{l:List Nd}(h:RdN w b A n l)(hb:b≤w.heap.size)(hg:w.grownBy w' (some b)):RdN w' b A n l :=
 ⟨h.len,h.rd.keep fun p hp=>World.cell?_of_block (hg.block p.block (by omega) (fun e=>by injection e with e;omega)),h.bd⟩
theorem Tb.gb{w w':World}{b n cap:Nat}{A:Option Addr}{l:List Nd}(h:Tb w b A n cap l)(hb:b≤w.heap.size)(hg:w.grownBy w' (some b)):Tb w' b A n cap l:=⟨h.rd.gb hb hg,h.cap,h.hn⟩
theorem Tb.drewN{w:World}{b n cap:Nat}{A:Option Addr}{l:List Nd}(h:Tb w b A n cap l)(q:Nat):Tb (w.drewN q) b A n cap l:=⟨⟨h.rd.len,h.rd.rd,h.rd.bd⟩,h.cap,h.hn⟩
def atOf(w:World)(b:Nat):Nat:=match w.cell? ⟨b,34,none⟩ with
 | some (.int _ z)=>z.toNat
 | _=>0
theorem atOf_eq{w:World}{b:Nat}{c:Nat→Value}{d:Nat}(h:Blk w b c)(e:c 34=.int .i64 (d:Int)):atOf w b=d:=by
 unfold atOf;rw[(h 34 (by omega)).1,e];simp
def Entd(b:Nat)(A:Option Addr)(n cap:Nat)(l:List Nd)(c:Nat→Value)(td:List Rn)(w:World)(e:Ending)(w':World):Prop :=
 e=.returned (.tuple #[])∧∃(c':Nat→Value) (st:List (Nat×Nat)) (p:Nat),Blk w' b c'∧PathC c' st∧c' 34=.int .i64 (p:Int)∧c' 0=c 0∧c' 35=c 35∧c' 36=c 36∧AtL l st p td∧w.grownBy w' (some b)
theorem enter_any(b:Nat)(A:Option Addr)(n cap:Nat)(l:List Nd)(c:Nat→Value)(st:List (Nat×Nat))(p:Nat)(td:List Rn)(w:World)(h:Blk w b c)(hT:Tb w b A n cap l)(hP:PathC c st)(h0:c 0=.slice A n cap)(h34:c 34=.int .i64 (p:Int))(hA:Ats l st p td):
  Calls Tryz.prog 143 #[.pointer (some ⟨b,0,none⟩)] w (Entd b A n cap l c td w):=by
 have H:=hid h;have HT:=hid hT;have HP:=hid hP;have H34:=hid h34;have HA:=hid hA;have hlen:=hT.rd.len;have HLEN:=hid hlen;have hn:=hT.hn;have hcap:=hT.cap;clear h hT hP h34 hA hlen;go_enter Tryz.func143,Tryz.ntmps143;go_wp2_with fail;go_loopw [] (fun wr=>∃(c':Nat→Value) (st':List (Nat×Nat)) (p':Nat),Blk wr b c'∧PathC c' st'∧c' 34=.int .i64 (p':Int)∧c' 0=c 0∧c' 35=c 35∧c' 36=c 36∧Ats l st' p' td∧w.grownBy wr (some b)) (fun wr=>n - atOf wr b)
 case atStart=>exact⟨c,st,p,H.out,HP.out,H34.out,rfl,rfl,rfl,HA.out,gb_refl _ _⟩
 obtain⟨c',st',p',hB,hP,e34,e0,e35,e36,hA,hG⟩:=hrel;have c0:=(hB 0 (by omega)).1;rw[e0,h0] at c0;have c34:=(hB 34 (by omega)).1;rw[e34] at c34;have f34:=(hB 34 (by omega)).2;have HB:=hid hB;have HPp:=hid hP;have HE:=hid (And.intro e34 (And.intro e0 (And.intro e35 e36)));have HAA:=hid hA;have hle:=hA.le;rw[HLEN.out] at hle;have hTr:=HT.out.gb (Nat.le_of_lt H.out.lt) hG;clear hB hP e34 e0 e35 e36 hA;by_cases hlt:p' < n
 ·obtain⟨ad,x,rfl,hab,hx,hin,d0,d1,d2⟩:=hTr.rd.at_ hlt;obtain⟨xk,xp,xn⟩:=x;have hlt0:(p':Int) < (n:Int):=by omega
  have hlt1:0≤(p':Int):=by omega
  have hfine:=HAA.out.fine hx;have hn1:1≤xn:=fine_one hfine;have hn2:xn≤9223372036854775807:=hin.2.2.2;have hshort:=HAA.out.short (by rw[HLEN.out];exact hlt);have HX:=hid hx;have hdec:decide (p' < n)=true:=decide_eq_true hlt;clear hfine hx hin
  go_wp2_with fail;go_quiet (fail);go_wp2_with fail;have hbl:=HB.out.lt;have hal:ad.block < wr.heap.size:=by omega
  have hal2:(ad.add (p'*3)).block < wr.heap.size:=by rw[add_block];exact hal
  obtain⟨W,hWe⟩:∃ W,W=wr.drewN nq:=⟨_,rfl⟩;have E0:W.cell? ⟨b,0,none⟩=some (.slice (some ad) n cap):=by rw[hWe];exact c0
  have E34:W.cell? ⟨b,34,none⟩=some (.int .i64 (p':Int)):=by rw[hWe];exact c34
  have F0:W.cell? (ad.add (p'*3))=some (.int .i64 xk):=by rw[hWe];exact d0
  have F1:W.cell? ⟨(ad.add (p'*3)).block,(ad.add (p'*3)).off+1,none⟩=some (.int .i64 xp):=by rw[hWe];exact d1
  have F2:W.cell? ⟨(ad.add (p'*3)).block,(ad.add (p'*3)).off+2,none⟩=some (.int .i64 xn):=by rw[hWe];exact d2
  have hbl':b < W.heap.size:=by rw[hWe];exact hbl
  have hal':(ad.add (p'*3)).block < W.heap.size:=by rw[hWe];exact hal2
  rw[← hWe];have HWE:=hid hWe;clear c0 c34 d0 d1 d2 hWe;go_region;obtain⟨W2,hW2⟩:∃ W2,W2=(W.alloc (.cells #[.int .i64 xk,.int .i64 xp,.int .i64 xn] 70)).drew:=⟨_,rfl⟩;have hGW:w.grownBy W (some b):=by rw[HWE.out];exact gb_drewN hG nq
  have hB2:Blk W2 b c':=by
   rw[hW2];have h1:Blk W b c':=by rw[HWE.out];exact HB.out.drewN nq
   exact Blk.keep h1 (Below.heap_alloc W _ b hbl')
  have hG2:w.grownBy W2 (some b):=by rw[hW2];exact gb_drew (gb_alloc hGW _)
  have n0:W2.cell? ⟨W.heap.size,0,none⟩=some (.int .i64 xk):=by rw[hW2];exact World.cell?_alloc_mark _ _ _ _ _
  have n1:W2.cell? ⟨W.heap.size,1,none⟩=some (.int .i64 xp):=by rw[hW2];exact World.cell?_alloc_mark _ _ _ _ _
  have n2:W2.cell? ⟨W.heap.size,2,none⟩=some (.int .i64 xn):=by rw[hW2];exact World.cell?_alloc_mark _ _ _ _ _
  rw[← hW2];clear hW2 E0 E34 F0 F1 F2 hal' hal2 hGW;have hne:b≠W.heap.size:=by omega
  generalize W.heap.size=g at n0 n1 n2 hne ⊢;have k34:=(hB2 34 (by omega)).1;rw[HE.out.1] at k34;have fk34:=(hB2 34 (by omega)).2;have hl2:=HPp.out.2.2;generalize hdd:st'.length=d at hshort hl2;have HDD:=hid hdd;have HB2:=hid hB2;have HG2:=hid hG2;clear hB2 hG2 hdd;by_cases h3:xk=3
  ·subst h3;obtain⟨N,rfl⟩:=Int.eq_ofNat_of_zero_le (show 0≤xn by omega);go_wp2_with fail;go_still_tail 6,(by kernel_rfl);change wpList _ _ _ _ _ W2.drew;go_wp2_with fail;refine(push_any b c' d (N:Int) 0 W2.drew HB2.out (by omega) (by rw[HPp.out.2.1,HDD.out])).mono ?_;rintro e w3⟨rfl,hB3,hG3⟩;have k34':=(hB3 34 (by omega)).1;rw[pushC_other _ _ _ _ hshort (by omega),HE.out.1] at k34';have fk34':=(hB3 34 (by omega)).2;clear n0 n1 n2 k34 fk34;go_wp2_with fail;go_roundw
   case rel =>
    have hp:=HPp.out.push (by rw[HDD.out];exact hshort) N 0;rw[HDD.out] at hp;refine⟨upd (pushC c' d (N:Int) 0) 34 (.int .i64 ((p':Int)+1)),(N,0)::st',p'+1,hB3.set (by omega) _,⟨?_,?_,hp.2.2⟩,by rw[upd_same];rfl,?_,?_,?_,?_,gb_set (gb_trans (gb_drew HG2.out) hG3) _ _⟩
    ·exact hp.1.put (by simp only[List.length_cons,HDD.out];omega) _
    ·rw[upd_other (by omega)];exact hp.2.1
    ·rw[upd_other (by omega),pushC_other _ _ _ _ hshort (by omega)];exact HE.out.2.1
    ·rw[upd_other (by omega),pushC_other _ _ _ _ hshort (by omega)];exact HE.out.2.2.1
    ·rw[upd_other (by omega),pushC_other _ _ _ _ hshort (by omega)];exact HE.out.2.2.2
    exact HAA.out.seq HX.out rfl
   show n - atOf _ b < n - atOf _ b;rw[atOf_eq (d:=p'+1) (hB3.set (i:=34) (by omega) (.int .i64 ((p':Int)+1))) (by rw[upd_same];rfl),atOf_eq HB.out HE.out.1];omega
  by_cases h4:xk=4
  ·subst h4;obtain⟨N,rfl⟩:=Int.eq_ofNat_of_zero_le (show 0≤xn by omega);go_wp2_with fail;have hw1:IntKind.i64.wrap ((p':Int)+1)=(p':Int)+1:=IntWalk.i64_in _ (by omega);go_still_tail 11,(by kernel_rfl);change wpList _ _ _ _ _ W2.drew;go_wp2_with fail;refine(push_any b c' d (N:Int) ((p'+1:Nat):Int) W2.drew HB2.out (by omega) (by rw[HPp.out.2.1,HDD.out])).mono ?_;rintro e w3⟨rfl,hB3,hG3⟩;have k34':=(hB3 34 (by omega)).1;rw[pushC_other _ _ _ _ hshort (by omega),HE.out.1] at k34';have fk34':=(hB3 34 (by omega)).2;clear n0 n1 n2 k34 fk34;go_wp2_with fail;go_roundw
   case rel =>
    have hp:=HPp.out.push (by rw[HDD.out];exact hshort) N (p'+1);rw[HDD.out] at hp;refine⟨upd (pushC c' d (N:Int) ((p'+1:Nat):Int)) 34 (.int .i64 ((p':Int)+1)),(N,p'+1)::st',p'+1,hB3.set (by omega) _,⟨?_,?_,hp.2.2⟩,by rw[upd_same];rfl,?_,?_,?_,?_,gb_set (gb_trans (gb_drew HG2.out) hG3) _ _⟩
    ·exact hp.1.put (by simp only[List.length_cons,HDD.out];omega) _
    ·rw[upd_other (by omega)];exact hp.2.1
    ·rw[upd_other (by omega),pushC_other _ _ _ _ hshort (by omega)];exact HE.out.2.1
    ·rw[upd_other (by omega),pushC_other _ _ _ _ hshort (by omega)];exact HE.out.2.2.1
    ·rw[upd_other (by omega),pushC_other _ _ _ _ hshort (by omega)];exact HE.out.2.2.2
    exact HAA.out.rep HX.out rfl hn2
   show n - atOf _ b < n - atOf _ b;rw[atOf_eq (d:=p'+1) (hB3.set (i:=34) (by omega) (.int .i64 ((p':Int)+1))) (by rw[upd_same];rfl),atOf_eq HB.out HE.out.1];omega
  have h3':(xk == 3)=false:=beq_eq_false_iff_ne.2 h3;have h4':(xk == 4)=false:=beq_eq_false_iff_ne.2 h4;have hL:=HAA.out.leaf HX.out h3 h4;have HL:=hid hL;clear h3 h4 hL;go_wp2_with fail;refine bodyPost_ret (results_none rfl _ _ _) rfl ?_;exact⟨rfl,c',st',p',HB2.out,HPp.out,HE.out.1,HE.out.2.1,HE.out.2.2.1,HE.out.2.2.2,HL.out,HG2.out⟩
 have hge:n≤p':=by omega
 have hdec:decide (p' < n)=false:=decide_eq_false hlt;go_wp2_with fail;go_quiet (fail);go_wp2_with fail;go_end0;exact⟨rfl,c',st',p',HB.out.drewN _,HPp.out,HE.out.1,HE.out.2.1,HE.out.2.2.1,HE.out.2.2.2,HAA.out.out (by rw[HLEN.out];exact hge),gb_drewN hG _⟩
structure Cur(w:World)(b:Nat)(A:Option Addr)(n cap:Nat)(l:List Nd)(td:List Rn)(tk gn:Nat):Prop where
 tb:Tb w b A n cap l
 ex:∃(c:Nat→Value) (st:List (Nat×Nat)) (p:Nat),Blk w b c∧PathC c st∧c 0=.slice A n cap∧c 34=.int .i64 (p:Int)∧c 35=.int .i64 (tk:Int)∧c 36=.int .i64 (gn:Int)∧AtL l st p td
 low:∀ r s,td=r::s→tk < r.n
 low0:td=[]→tk=0
 sum:gn+ticks td≤1048576+tk
 pos:∀ r∈td,1≤r.n
theorem Cur.lt{w:World}{b:Nat}{A:Option Addr}{n cap:Nat}{l:List Nd}{td:List Rn}{tk gn:Nat}(h:Cur w b A n cap l td tk gn):b < w.heap.size:=by
 obtain⟨c,st,p,hB,_⟩:=h.ex;exact hB.lt
theorem Cur.below{w w':World}{b:Nat}{A:Option Addr}{n cap:Nat}{l:List Nd}{td:List Rn}{tk gn:Nat}(h:Cur w b A n cap l td tk gn)(hb:Below w.heap.size w w'):Cur w' b A n cap l td tk gn:=by
 obtain⟨c,st,p,hB,r⟩:=h.ex;have hlt:=hB.lt;exact⟨⟨⟨h.tb.rd.len,h.tb.rd.rd.keep fun q hq=>World.cell?_of_block (hb.block q.block (by omega)),h.tb.rd.bd⟩,h.tb.cap,h.tb.hn⟩,⟨c,st,p,hB.keep (hb.block b hlt),r⟩,h.low,h.low0,h.sum,h.pos⟩
theorem Below.drewN{B:Nat}{w w':World}(h:Below B w w')(q:Nat):Below B w (w'.drewN q):=⟨h.os,h.tape,h.output,h.size,h.block⟩
def leftR:List Rn→Nat→Rn
 | [],_=>⟨-1,0⟩
 | r::_,tk=>⟨r.p,r.n - tk⟩
abbrev rv(p n:Int):Value:=.agg #[.int .i64 p,.int .i64 n]
theorem loadVar_run{w:World}{g:Nat}{x y:Int}(h0:w.cell? ⟨g,0,none⟩=some (.int .i64 x))(h1:w.cell? ⟨g,1,none⟩=some (.int .i64 y)):(loadVar 114 ⟨g,0,none⟩).run Tryz.prog w=.ok (rv x y) w:=by
 have e:(isAgg 114).run Tryz.prog w=.ok true w:=by go_simp
 have e2:(sizeOf 114).run Tryz.prog w=.ok 2 w:=by go_simp
 unfold loadVar;rw[Sem.run_bind,e,Result.andThen_ok];simp only[if_true];rw[Sem.run_bind,e2,Result.andThen_ok,Sem.run_bind];have:=run_loadCells_list (P:=Tryz.prog) (w:=w) ⟨g,0,none⟩ [.int .i64 x,.int .i64 y] (fun j v hj=>by
  match j with
  | 0=>simp at hj;subst hj;simpa [Addr.add] using h0
  | 1=>simp at hj;subst hj;simpa [Addr.add] using h1
  | j+2=>simp at hj)
 simp only[List.length_cons,List.length_nil] at this;rw[this,Result.andThen_ok];rfl
theorem results_cell1{fn:Func}{p:Tmp}{ty:TypeId}(h:fn.results=#[.cell p ty])(tmps:Array Value)(P:Program)(w:World):
  (results fn tmps).run P w=((asAddr (tmps.getD p undef)).run P w).andThen fun a w₁=>(loadVar ty a).run P w₁:=by
 simp only[results,h];simp[Sem.run_bind,Result.andThen]
theorem results_run{fn:Func}{p:Tmp}(h:fn.results=#[.cell p 114]){tmps:Array Value}{w:World}{g:Nat}{x y:Int}(hp:tmps.getD p undef=.pointer (some ⟨g,0,none⟩))(h0:w.cell? ⟨g,0,none⟩=some (.int .i64 x))(h1:w.cell? ⟨g,1,none⟩=some (.int .i64 y)):
  (results fn tmps).run Tryz.prog w=.ok (rv x y) w:=by
 have e:(asAddr (.pointer (some ⟨g,0,none⟩))).run Tryz.prog w=.ok ⟨g,0,none⟩ w:=rfl;rw[results_cell1 h,hp,e,Result.andThen_ok,loadVar_run h0 h1]
theorem results_run2{fn:Func}{p q:Tmp}(h:fn.results=#[.cell p 114,.tmp q]){tmps:Array Value}{w:World}{g:Nat}{x y:Int}(hp:tmps.getD p undef=.pointer (some ⟨g,0,none⟩))(h0:w.cell? ⟨g,0,none⟩=some (.int .i64 x))(h1:w.cell? ⟨g,1,none⟩=some (.int .i64 y)):
  (results fn tmps).run Tryz.prog w=.ok (.tuple #[rv x y,tmps.getD q undef]) w:=by
 have e:(asAddr (.pointer (some ⟨g,0,none⟩))).run Tryz.prog w=.ok ⟨g,0,none⟩ w:=rfl;rw[results_cell_tmp h,hp,e,Result.andThen_ok,loadVar_run h0 h1,Result.andThen_ok]
theorem left_any(b:Nat)(A:Option Addr)(n cap:Nat)(l:List Nd)(td:List Rn)(tk gn:Nat)(w:World)(h:Cur w b A n cap l td tk gn):
  Calls Tryz.prog 136 #[.pointer (some ⟨b,0,none⟩)] w (Ans (rv (leftR td tk).p ((leftR td tk).n:Int)) w):=by
 obtain⟨c,st,p,hB,hP,e0,e34,e35,e36,hA⟩:=h.ex;have hlt:=hB.lt;obtain⟨W,hW⟩:∃ W,W=w.alloc (.cells #[.int .i64 0,.int .i64 0] 114):=⟨_,rfl⟩;have hBW:Blk W b c:=hB.keep (by rw[hW];exact Below.heap_alloc w _ b hlt);have hTW:Tb W b A n cap l:=⟨⟨h.tb.rd.len,h.tb.rd.rd.keep fun q hq=>by rw[hW];exact World.cell?_alloc_lt w _ q (by omega),h.tb.rd.bd⟩,h.tb.cap,h.tb.hn⟩;have n0:W.cell? ⟨w.heap.size,0,none⟩=some (.int .i64 0):=by rw[hW];exact World.cell?_alloc_mark _ _ _ _ _
 have n1:W.cell? ⟨w.heap.size,1,none⟩=some (.int .i64 0):=by rw[hW];exact World.cell?_alloc_mark _ _ _ _ _
 have g0:W.frozen? ⟨w.heap.size,0,none⟩=false:=by rw[hW];simp
 have g1:W.frozen? ⟨w.heap.size,1,none⟩=false:=by rw[hW];simp
 have hbW:Below w.heap.size w W:=by rw[hW];exact bl1 _ _
 have hgs:w.heap.size < W.heap.size:=by rw[hW];simp
 have c0:=(hBW 0 (by omega)).1;have c34:=(hBW 34 (by omega)).1;have c35:=(hBW 35 (by omega)).1;rw[e0] at c0;rw[e34] at c34;rw[e35] at c35;have HW:=hid hW;have hlen:=h.tb.rd.len;have hn:=h.tb.hn;have hcap:=h.tb.cap;rcases hA with ⟨_,hp,rfl⟩ | ⟨x,u,hf,h3,h4,hx,_,_,rfl⟩
 ·rw[hlen] at hp;subst hp;clear h hB hBW hTW hP e0 e34 e35 e36 hlen hW;go_enter Tryz.func136,Tryz.ntmps136;go_wp2_with fail;rw[← HW.out];clear HW;generalize hg:w.heap.size=g at n0 n1 g0 g1 hbW hgs ⊢;have HGS:=hid hg;clear hg;go_quiet (fail);go_wp2_with fail;refine bodyPost_ret (results_run rfl rfl (x:=-1) (y:=0) ?_ ?_) rfl ⟨rfl,?_⟩
  ·rw[World.cell?_setCell_other _ _ _ _ (by simp)];exact World.cell?_setCell_same _ _ _ (u:=.int .i64 0) n0
  ·exact World.cell?_setCell_same _ _ _ (u:=.int .i64 0) ((World.cell?_setCell_other _ _ _ _ (by simp)).trans n1)
  rw[HGS.out];exact((Below.drewN hbW nq).setCell (p:=⟨g,0,none⟩) (Nat.le_refl _) _).setCell (p:=⟨g,1,none⟩) (Nat.le_refl _) _
 obtain⟨xk,xp,xn⟩:=x;have hpl:p < n:=by rw[← hlen];exact(List.getElem?_eq_some_iff.1 hx).1
 obtain⟨ad,y,rfl,hab,hy,hin,d0,d1,d2⟩:=hTW.rd.at_ hpl;rw[hx] at hy;injection hy with hy;subst hy;have hn1:=fine_one hf;obtain⟨N,rfl⟩:=Int.eq_ofNat_of_zero_le (show 0≤xn by dsimp only at hn1;omega);have hn2:(N:Int)≤9223372036854775807:=hin.2.2.2;have htk:tk < N:=by have:=h.low _ _ rfl;simpa using this
 have hw1:IntKind.i64.wrap ((N:Int) - (tk:Int))=(N:Int) - (tk:Int):=IntWalk.i64_in _ (by omega);have HW1:=hid hw1;have hdne:((p:Int) == (n:Int))=false:=beq_eq_false_iff_ne.2 (by omega);have hlt0:(p:Int) < (n:Int):=by omega
 have hlt1:0≤(p:Int):=by omega
 have hal:(ad.add (p*3)).block < W.heap.size:=by rw[add_block];omega
 have hbl:b < W.heap.size:=by omega
 have hwho:(leftR (⟨whose ⟨xk,xp,(N:Int)⟩,(N:Int).toNat⟩::u) tk)=⟨if xk=2 then -1 else xp,N - tk⟩:=by
  simp only[leftR,whose,Int.toNat_natCast]
 generalize leftR (⟨whose ⟨xk,xp,(N:Int)⟩,(N:Int).toNat⟩::u) tk=R at hwho ⊢;have HR:=hid hwho;clear h hB hBW hTW hP e0 e34 e35 e36 hlen hW hf hx hin hwho hw1 h3 h4;go_enter Tryz.func136,Tryz.ntmps136;go_wp2_with fail;rw[← HW.out];clear HW;generalize hg:w.heap.size=g at n0 n1 g0 g1 hbW hgs ⊢;have HGS:=hid hg;clear hg;go_quiet (fail);go_wp2_with fail;obtain⟨W1,hW1⟩:∃ W1,W1=W.drewN nq:=⟨_,rfl⟩;have E0:W1.cell? ⟨b,0,none⟩=some (.slice (some ad) n cap):=by rw[hW1];exact c0
 have E34:W1.cell? ⟨b,34,none⟩=some (.int .i64 (p:Int)):=by rw[hW1];exact c34
 have E35:W1.cell? ⟨b,35,none⟩=some (.int .i64 (tk:Int)):=by rw[hW1];exact c35
 have F0:W1.cell? (ad.add (p*3))=some (.int .i64 xk):=by rw[hW1];exact d0
 have F1:W1.cell? ⟨(ad.add (p*3)).block,(ad.add (p*3)).off+1,none⟩=some (.int .i64 xp):=by rw[hW1];exact d1
 have F2:W1.cell? ⟨(ad.add (p*3)).block,(ad.add (p*3)).off+2,none⟩=some (.int .i64 (N:Int)):=by rw[hW1];exact d2
 have N0:W1.cell? ⟨g,0,none⟩=some (.int .i64 0):=by rw[hW1];exact n0
 have N1:W1.cell? ⟨g,1,none⟩=some (.int .i64 0):=by rw[hW1];exact n1
 have G0:W1.frozen? ⟨g,0,none⟩=false:=by rw[hW1];exact g0
 have G1:W1.frozen? ⟨g,1,none⟩=false:=by rw[hW1];exact g1
 have hbl':b < W1.heap.size:=by rw[hW1];exact hbl
 have hal':(ad.add (p*3)).block < W1.heap.size:=by rw[hW1];exact hal
 have hgs':g < W1.heap.size:=by rw[hW1];exact hgs
 have hbW1:Below g w W1:=by rw[hW1];exact Below.drewN hbW nq
 rw[← hW1];clear c0 c34 c35 d0 d1 d2 hW1 n0 n1 g0 g1 hbl hal hgs hbW;go_region;obtain⟨W2,hW2⟩:∃ W2,W2=(W1.alloc (.cells #[.int .i64 xk,.int .i64 xp,.int .i64 (N:Int)] 70)).drew:=⟨_,rfl⟩;have K35:W2.cell? ⟨b,35,none⟩=some (.int .i64 (tk:Int)):=by rw[hW2];exact(World.cell?_alloc_lt W1 _ ⟨b,35,none⟩ hbl').trans E35
 have Q0:W2.cell? ⟨W1.heap.size,0,none⟩=some (.int .i64 xk):=by rw[hW2];exact World.cell?_alloc_mark _ _ _ _ _
 have Q1:W2.cell? ⟨W1.heap.size,1,none⟩=some (.int .i64 xp):=by rw[hW2];exact World.cell?_alloc_mark _ _ _ _ _
 have Q2:W2.cell? ⟨W1.heap.size,2,none⟩=some (.int .i64 (N:Int)):=by rw[hW2];exact World.cell?_alloc_mark _ _ _ _ _
 have M0:W2.cell? ⟨g,0,none⟩=some (.int .i64 0):=by rw[hW2];exact(World.cell?_alloc_lt W1 _ ⟨g,0,none⟩ hgs').trans N0
 have M1:W2.cell? ⟨g,1,none⟩=some (.int .i64 0):=by rw[hW2];exact(World.cell?_alloc_lt W1 _ ⟨g,1,none⟩ hgs').trans N1
 have P0:W2.frozen? ⟨g,0,none⟩=false:=by rw[hW2];exact(World.frozen?_of_block (a:=⟨g,0,none⟩) (Below.heap_alloc W1 _ g hgs')).trans G0
 have P1:W2.frozen? ⟨g,1,none⟩=false:=by rw[hW2];exact(World.frozen?_of_block (a:=⟨g,1,none⟩) (Below.heap_alloc W1 _ g hgs')).trans G1
 have hbW2:Below g w W2:=by rw[hW2];exact(hbW1.alloc (Nat.le_of_lt hgs') _).drew
 rw[← hW2];clear hW2 E0 E34 E35 F0 F1 F2 N0 N1 G0 G1 hal' hbW1 hgs';generalize W1.heap.size=g2 at Q0 Q1 Q2 ⊢;have hfin:∀ v:Int,v=R.p→Ans (rv R.p (R.n:Int)) w (.returned (rv v ((N:Int) - (tk:Int)))) ((W2.drew.setCell ⟨g,0,none⟩ (.int .i64 v)).setCell ⟨g,1,none⟩ (.int .i64 ((N:Int) - (tk:Int)))):=fun v hv=>by
  refine⟨?_,?_⟩
  ·rw[hv,HR.out];dsimp only;rw[show ((N - tk:Nat):Int)=(N:Int) - (tk:Int) by omega]
  rw[HGS.out];exact((hbW2.drew).setCell (p:=⟨g,0,none⟩) (Nat.le_refl _) _).setCell (p:=⟨g,1,none⟩) (Nat.le_refl _) _
 have HF:=hid hfin
 clear hfin
 go_wp2_with fail
 all_goals
  have hw1:=HW1.out;go_still_tail 9,(by kernel_rfl);change wpList _ _ _ _ _ W2.drew;go_wp2_with fail;refine bodyPost_ret (results_run rfl rfl ?_ ?_) rfl (HF.out _ ?_)
  ·rw[World.cell?_drew,World.cell?_setCell_other _ _ _ _ (by simp)];exact World.cell?_setCell_same _ _ _ (u:=.int .i64 0) M0
  ·rw[World.cell?_drew];exact World.cell?_setCell_same _ _ _ (u:=.int .i64 0) ((World.cell?_setCell_other _ _ _ _ (by simp)).trans M1)
  rw[HR.out];simp only[beq_iff_eq,beq_eq_false_iff_ne,ne_eq] at *;simp[*]
def MadeR(L:List Rn)(w:World)(e:Ending)(w':World):Prop:=∃ A c,e=.returned (.slice A L.length c)∧RdR w' w'.heap.size A L.length L∧L.length≤c∧Below w.heap.size w w'∧∀ ad,A=some ad→w.heap.size≤ad.block
theorem OwnV.rdr{w:World}{B n c:Nat}{A:Option Addr}{L:List Rn}(h:OwnV 114 2 w B A n c (rs L)):RdR w w.heap.size A n L:=⟨by have:=h.len;rw[rs_length] at this;omega,h.rd⟩
theorem rLeaves_right(A:Option Addr)(n cap:Nat)(x:Nd)(k:F)(w:World)(h:RdN w w.heap.size A n (x::k.flat))(hc:n≤cap)(hok:(F.cons x k .nil).ok)(hn:n≤128)(hl:F.tick x k.len≤4096):
  Calls Tryz.prog 67 #[.slice A n cap] w (MadeR (one x k.lvs) w):=by
 have hpos:∀ r∈one x k.lvs,1≤r.n:=fun r hr=>lvs_pos hok r (by simpa [F.lvs] using hr);have hlen:=length_le_ticks hpos;rw[one_ticks,lvs_ticks] at hlen;have hdr:(x::k.flat).drop 0=(F.cons x k .nil).flat++[]:=by simp[F.flat]
 have hL:Calls Tryz.prog 91 #[.slice A n cap,.int .i64 0,.slice none 0 0] w (MoreR w.heap.size none (one x k.lvs) w):=by
  have:=rleaves_any w.heap.size A n cap _ hc (by omega) (k.sz+1) 0 x k .nil [] w none 0 0 [] (by omega) h hok hdr (Nat.le_refl _) rfl (OwnV.nil _ _ _ _) (by omega);simpa using this
 have HL:=hid hL;clear hL hpos hlen hdr hok;generalize one x k.lvs=L at HL ⊢;go_enter Tryz.func67,Tryz.ntmps67;go_wp2_with fail;refine HL.out.mono ?_;rintro e w1⟨A1,c1,rfl,ho,hb,_⟩;have HO:=hid ho;clear ho;generalize hq:L.length=q;have HQ:=hid hq;clear hq;go_wp2_with fail;go_ret;refine⟨A1,c1,by rw[HQ.out];rfl,HO.out.rdr,HO.out.cap,hb,HO.out.newer⟩
end Go.Proofs.YtdkngfdnfekgfaaGreat
