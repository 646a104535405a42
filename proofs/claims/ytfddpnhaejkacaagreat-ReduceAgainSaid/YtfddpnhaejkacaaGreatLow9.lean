import Derived.Test.YtfddpnhaejkacaaGreatLow2
import Derived.Test.YtfddpnhaejkacaaGreatLow5
import Derived.Test.YtfddpnhaejkacaaGreatLow4
import Derived.Laws.MakeOwn
import Derived.Laws.OwnMore
import Derived.Lib.AppendZerosOnto
import Derived.Lib.Walk
import Derived.Laws.CopyOwn
import Derived.StillTailTactics
set_option linter.unusedSimpArgs false
set_option linter.unusedVariables false
namespace Go.Proofs.YtfddpnhaejkacaaGreat
namespace Tab
def leafN (r:Rn):Nd:=if r.p=-1 then ⟨2,0,(r.n:Int)⟩ else ⟨1,r.p,(r.n:Int)⟩
def itemsF:List Rn→F
 | []=>.nil
 | r::s=>.cons (leafN r) .nil (itemsF s)
theorem leafN_one (r:Rn) (s:List Rn):one (leafN r) s=[r]:=by
 unfold leafN one whose
 split
 ·rename_i h
  simp
  rw[← h]
 ·simp
theorem itemsF_lvs (L:List Rn):(itemsF L).lvs=L:=by
 induction L with
 | nil=>rfl
 | cons r s ih=>simp only[itemsF,F.lvs,leafN_one,ih];rfl
theorem itemsF_cnt (L:List Rn):(itemsF L).cnt=L.length:=by
 induction L with
 | nil=>rfl
 | cons r s ih=>simp only[itemsF,F.cnt,ih,List.length_cons]
theorem itemsF_sz (L:List Rn):(itemsF L).sz=L.length:=by
 induction L with
 | nil=>rfl
 | cons r s ih=>simp only[itemsF,F.sz,ih,List.length_cons];omega
theorem leafN_kn (r:Rn):kn (leafN r)=0:=by
 unfold leafN kn
 split <;> simp
theorem leafN_fine {r:Rn} (h:1≤r.n∧-1≤r.p∧r.p≤5):fine (leafN r)=true:=by
 unfold leafN fine
 split <;> simp <;> omega
theorem itemsF_ok {L:List Rn} (h:∀ r∈L,1≤r.n∧-1≤r.p∧r.p≤5):(itemsF L).ok:=by
 induction L with
 | nil=>trivial
 | cons r s ih=>exact⟨leafN_fine (h r (by simp)),by rw[leafN_kn];rfl,trivial,ih fun q hq=>h q (by simp[hq])⟩
theorem app_lvs (f g:F):(f.app g).lvs=f.lvs++g.lvs:=by
 induction f with
 | nil=>rfl
 | cons x k r _ hr=>simp only[F.app,F.lvs,hr,List.append_assoc]
theorem app_nil (f:F):f.app .nil=f:=by
 induction f with
 | nil=>rfl
 | cons x k r _ hr=>simp only[F.app,hr]
theorem app_ok_iff (f g:F):(f.app g).ok↔f.ok∧g.ok:=by
 induction f with
 | nil=>simp[F.app,F.ok]
 | cons x k r _ hr=>simp only[F.app,F.ok,hr];exact⟨fun⟨a,b,c,d,e⟩=>⟨⟨a,b,c,d⟩,e⟩,fun⟨⟨a,b,c,d⟩,e⟩=>⟨a,b,c,d,e⟩⟩
def wrapF (g:F):F:=if g.cnt=1 then g else .cons ⟨3,0,(g.cnt:Int)⟩ g .nil
theorem wrapF_cnt (g:F):(wrapF g).cnt=1:=by
 unfold wrapF
 split
 ·assumption
 ·rfl
theorem wrapF_lvs (g:F):(wrapF g).lvs=g.lvs:=by
 unfold wrapF
 split
 ·rfl
 ·simp only[F.lvs,List.append_nil]
  exact lvs_seq rfl _
theorem wrapF_ok {g:F} (h:g.ok) (h1:1≤g.cnt) (h2:g.cnt≤128):(wrapF g).ok:=by
 unfold wrapF
 split
 ·exact h
 ·refine⟨?_,by simp[kn],h,trivial⟩
  unfold fine
  simp
  omega
theorem wrapF_sz (g:F):(wrapF g).sz=g.sz+if g.cnt=1 then 0 else 1:=by
 unfold wrapF
 split
 ·rfl
 ·simp only[F.sz];omega
theorem wrapF_dep (g:F):(wrapF g).dep≤g.dep+1∧(g.cnt=1→(wrapF g).dep=g.dep):=by
 unfold wrapF
 split
 ·exact⟨by omega,fun _=>rfl⟩
 ·rename_i h
  exact⟨by simp only[F.dep];omega,fun h'=>absurd h' h⟩
theorem wrapF_tree (g:F):∃ x k,wrapF g=.cons x k .nil:=by
 have h:=wrapF_cnt g
 cases hw:wrapF g with
 | nil=>rw[hw] at h;simp[F.cnt] at h
 | cons x k r =>
  rw[hw] at h
  simp only[F.cnt] at h
  have:r=.nil:=F.cnt_zero (by omega)
  exact⟨x,k,by rw[this]⟩
def timesF:Nat→F→F
 | 0,_=>.nil
 | n+1,g=>g.app (timesF n g)
theorem timesF_lvs (n:Nat) (g:F):(timesF n g).lvs=reps n g.lvs:=by
 induction n with
 | zero=>rfl
 | succ n ih=>simp only[timesF,app_lvs,ih];rfl
theorem timesF_cnt (n:Nat) (g:F):(timesF n g).cnt=n*g.cnt:=by
 induction n with
 | zero=>simp[timesF,F.cnt]
 | succ n ih=>simp only[timesF,F.app_cnt,ih,Nat.succ_mul];omega
theorem timesF_sz (n:Nat) (g:F):(timesF n g).sz=n*g.sz:=by
 induction n with
 | zero=>simp[timesF,F.sz]
 | succ n ih=>simp only[timesF,F.app_sz,ih,Nat.succ_mul];omega
def foldF (n:Nat) (g:F):F:=.cons ⟨4,0,(n:Int)⟩ (wrapF g) .nil
theorem foldF_lvs (n:Nat) (g:F):(foldF n g).lvs=reps n g.lvs:=by
 unfold foldF
 simp only[F.lvs,List.append_nil,wrapF_lvs]
 rw[lvs_rep rfl]
 rfl
theorem foldF_ok {n:Nat} {g:F} (h:g.ok) (h1:1≤g.cnt) (h2:g.cnt≤128) (hn:1≤n):(foldF n g).ok:=by
 refine⟨?_,by rw[wrapF_cnt];rfl,wrapF_ok h h1 h2,trivial⟩
 unfold fine
 simp
 omega
theorem foldF_sz (n:Nat) (g:F):(foldF n g).sz=1+g.sz+if g.cnt=1 then 0 else 1:=by
 simp only[foldF,F.sz,wrapF_sz]
 omega
def wide:F→Prop
 | .nil=>True
 | .cons x k r=>2 ^ k.dep≤(one x k.lvs).length*(one x k.lvs).length∧wide r
theorem wide_app (f g:F):wide (f.app g)↔wide f∧wide g:=by
 induction f with
 | nil=>simp[F.app,wide]
 | cons x k r _ hr=>simp only[F.app,wide,hr,and_assoc]
theorem wide_items (L:List Rn):wide (itemsF L):=by
 induction L with
 | nil=>trivial
 | cons r s ih=>exact⟨by rw[leafN_one];simp[F.dep],ih⟩
theorem sq_le {a b:Nat} (h:a≤b):a*a≤b*b:=Nat.mul_le_mul h h
theorem wide_dep {f:F} (h:wide f) (hc:1≤f.cnt):2 ^ f.dep≤2*(f.lvs.length*f.lvs.length)∧1≤f.lvs.length:=by
 induction f with
 | nil=>simp[F.cnt] at hc
 | cons x k r _ hr =>
  obtain⟨h1,h2⟩:=h
  have h3:1≤2 ^ k.dep:=Nat.one_le_two_pow
  have h4:1≤(one x k.lvs).length:=by
   rcases Nat.eq_zero_or_pos (one x k.lvs).length with e | e
   ·rw[e] at h1;omega
   ·exact e
  have e:(F.cons x k r).lvs.length=(one x k.lvs).length+r.lvs.length:=by simp[F.lvs]
  rw[e]
  refine⟨?_,by omega⟩
  have h5:=sq_le (show (one x k.lvs).length≤(one x k.lvs).length+r.lvs.length by omega)
  have h6:2 ^ (k.dep+1)≤2*(((one x k.lvs).length+r.lvs.length)*((one x k.lvs).length+r.lvs.length)):=by
   rw[Nat.pow_succ,Nat.mul_comm]
   omega
  simp only[F.dep]
  by_cases hm:r.dep≤k.dep+1
  ·rw[Nat.max_eq_left hm]
   exact h6
  ·rw[Nat.max_eq_right (by omega)]
   have hc2:1≤r.cnt:=by
    rcases Nat.eq_zero_or_pos r.cnt with e | e
    ·rw[F.cnt_zero e] at hm;simp[F.dep] at hm
    ·exact e
   have h7:=(hr h2 hc2).1
   have h8:=sq_le (show r.lvs.length≤(one x k.lvs).length+r.lvs.length by omega)
   omega
theorem reps_length (n:Nat) (s:List Rn):(reps n s).length=n*s.length:=by
 induction n with
 | zero=>simp[reps]
 | succ n ih=>simp only[reps,List.length_append,ih,Nat.succ_mul];omega
theorem wide_fold {n:Nat} {g:F} (h:wide g) (hn:2≤n) (hc:1≤g.cnt):wide (foldF n g):=by
 refine⟨?_,trivial⟩
 have e:(one ⟨4,0,(n:Int)⟩ (wrapF g).lvs).length=n*g.lvs.length:=by
  rw[wrapF_lvs,lvs_rep rfl,reps_length]
  rfl
 rw[e]
 obtain⟨h1,h2⟩:=wide_dep h hc
 have h3:=(wrapF_dep g).1
 have h4:2 ^ (wrapF g).dep≤2 ^ (g.dep+1):=Nat.pow_le_pow_right (by omega) h3
 have h5:=sq_le (Nat.mul_le_mul_right g.lvs.length hn)
 have h6:2*g.lvs.length*(2*g.lvs.length)=4*(g.lvs.length*g.lvs.length):=by
  rw[Nat.mul_assoc,Nat.mul_left_comm g.lvs.length 2,← Nat.mul_assoc]
 rw[Nat.pow_succ] at h4
 omega
structure Folds (f f':F):Prop where
 ex:∃(a g b:F) (n:Nat),f=a.app ((timesF n g).app b)∧f'=a.app ((foldF n g).app b)∧2≤n∧1≤g.cnt∧(if g.cnt=1 then 1 else 2) < g.sz*(n - 1)
theorem Folds.lvs {f f':F} (h:Folds f f'):f'.lvs=f.lvs:=by
 obtain⟨a,g,b,n,rfl,rfl,_⟩:=h.ex
 simp only[app_lvs,foldF_lvs,timesF_lvs]
theorem Folds.cnt {f f':F} (h:Folds f f'):f'.cnt < f.cnt∧1≤f'.cnt:=by
 obtain⟨a,g,b,n,rfl,rfl,hn,hc,_⟩:=h.ex
 simp only[F.app_cnt,timesF_cnt]
 have e:(foldF n g).cnt=1:=rfl
 have:2*1≤n*g.cnt:=Nat.mul_le_mul hn hc
 omega
theorem Folds.sz {f f':F} (h:Folds f f'):f'.sz+1≤f.sz:=by
 obtain⟨a,g,b,n,rfl,rfl,hn,hc,hs⟩:=h.ex
 simp only[F.app_sz,timesF_sz,foldF_sz]
 obtain⟨j,rfl⟩:∃ j,n=j+1:=⟨n - 1,by omega⟩
 rw[Nat.succ_mul]
 rw[Nat.add_sub_cancel,Nat.mul_comm] at hs
 split at hs
 ·rename_i h1
  rw[if_pos h1]
  omega
 ·rename_i h1
  rw[if_neg h1]
  omega
theorem Folds.ok {f f':F} (h:Folds f f') (hok:f.ok) (hc:f.cnt≤128):f'.ok:=by
 obtain⟨a,g,b,n,rfl,rfl,hn,hg,hs⟩:=h.ex
 rw[app_ok_iff,app_ok_iff] at hok ⊢
 obtain⟨j,rfl⟩:∃ j,n=j+1:=⟨n - 1,by omega⟩
 simp only[timesF,app_ok_iff] at hok
 simp only[F.app_cnt,timesF] at hc
 exact⟨hok.1,foldF_ok hok.2.1.1 hg (by omega) (by omega),hok.2.2⟩
theorem Folds.wide {f f':F} (h:Folds f f') (hw:Tab.wide f):Tab.wide f':=by
 obtain⟨a,g,b,n,rfl,rfl,hn,hg,hs⟩:=h.ex
 rw[wide_app,wide_app] at hw ⊢
 obtain⟨j,rfl⟩:∃ j,n=j+1:=⟨n - 1,by omega⟩
 simp only[timesF,wide_app] at hw
 exact⟨hw.1,wide_fold hw.2.1.1 hn hg,hw.2.2⟩
structure Items (L:List Rn) (f:F):Prop where
 lvs:f.lvs=L
 ok:f.ok
 cnt:1≤f.cnt∧f.cnt≤L.length
 wide:Tab.wide f
 sz:f=itemsF L∨f.sz+1≤L.length
theorem Items.start {L:List Rn} (h:∀ r∈L,1≤r.n∧-1≤r.p∧r.p≤5) (h1:1≤L.length):Items L (itemsF L) :=
 ⟨itemsF_lvs L,itemsF_ok h,by rw[itemsF_cnt];exact⟨h1,Nat.le_refl _⟩,wide_items L,.inl rfl⟩
theorem Items.step {L:List Rn} {f f':F} (h:Items L f) (hL:L.length≤128) (hf:Folds f f'):Items L f':=by
 have h1:=hf.cnt
 have h2:=h.cnt
 refine⟨hf.lvs.trans h.lvs,hf.ok h.ok (by omega),⟨h1.2,by omega⟩,hf.wide h.wide,.inr ?_⟩
 have h3:=hf.sz
 rcases h.sz with e | e
 ·rw[e,itemsF_sz] at h3
  omega
 ·omega
theorem plain_sz (L:List Rn):(wrapF (itemsF L)).sz=L.length+if L.length=1 then 0 else 1:=by rw[wrapF_sz,itemsF_sz,itemsF_cnt]
theorem Items.table {L:List Rn} {f:F} (h:Items L f) (hL:L.length≤96):∃ x k,wrapF f=.cons x k .nil∧(F.cons x k .nil).ok∧one x k.lvs=L∧k.dep+1≤16∧F.tick x k.len=ticks L∧k.sz+1≤(wrapF (itemsF L)).sz∧k.sz+1≤L.length+1:=by
 obtain⟨x,k,e⟩:=wrapF_tree f
 have hc:=h.cnt
 have hok:(F.cons x k .nil).ok:=by rw[← e];exact wrapF_ok h.ok hc.1 (by omega)
 have hl:one x k.lvs=L:=by
  have:=wrapF_lvs f
  rw[e,h.lvs] at this
  simpa [F.lvs] using this
 have hd:k.dep+1≤16:=by
  have h1:=(wide_dep h.wide hc.1).1
  rw[h.lvs] at h1
  have h2:=sq_le hL
  have h3:f.dep < 15:=by
   rcases Nat.lt_or_ge f.dep 15 with h | h
   ·exact h
   ·have:=Nat.pow_le_pow_right (show 0 < 2 by omega) h
    have h4:2 ^ 15=32768:=by decide
    omega
  have h4:=(wrapF_dep f).1
  rw[e] at h4
  simp only[F.dep] at h4
  omega
 have hs:(wrapF f).sz≤(wrapF (itemsF L)).sz:=by
  rcases h.sz with e | h1
  ·rw[e];exact Nat.le_refl _
  ·rw[wrapF_sz,plain_sz]
   split <;> split <;> omega
 have hp:=plain_sz L
 rw[e] at hs
 simp only[F.sz] at hs
 refine⟨x,k,e,hok,hl,hd,by rw[← hl,one_ticks,lvs_ticks],by omega,?_⟩
 split at hp <;> omega
def Per (L:List Rn) (p:Nat):Prop:=1≤p∧L.length % p=0∧∀ i,p≤i→i < L.length→L[i]? = L[i - p]?
theorem Apart.tail {r:Rn} {l:List Rn} (h:Apart (r::l)):Apart l:=by
 cases l with
 | nil=>trivial
 | cons q s=>exact h.2.2
theorem Apart.append {a b:List Rn} (ha:Apart a) (hb:Apart b) (h:∀ y x,a.getLast? = some y→b.head? = some x→y.p≠x.p):Apart (a++b):=by
 induction a with
 | nil=>exact hb
 | cons r a ih =>
  cases a with
  | nil =>
   cases b with
   | nil=>simpa using ha
   | cons x s=>exact⟨ha,h r x rfl rfl,hb⟩
  | cons q s=>exact⟨ha.1,ha.2.1,ih ha.tail fun y x hy hx=>h y x (by simpa [List.getLast?_cons_cons] using hy) hx⟩
end Tab
end Go.Proofs.YtfddpnhaejkacaaGreat
namespace Go.Proofs.YtfddpnhaejkacaaGreat
open Go.RowKit Tab
open Lib (hid)
theorem loadNd_run {w:World} {g:Nat} {x y z:Int} (h0:w.cell? ⟨g,0,none⟩=some (.int .i64 x)) (h1:w.cell? ⟨g,1,none⟩=some (.int .i64 y)) (h2:w.cell? ⟨g,2,none⟩=some (.int .i64 z)):(loadVar 83 ⟨g,0,none⟩).run Tryz.prog w=.ok (nd x y z) w:=by
 have e:(isAgg 83).run Tryz.prog w=.ok true w:=by go_simp
 have e2:(sizeOf 83).run Tryz.prog w=.ok 3 w:=by go_simp
 unfold loadVar
 rw[Sem.run_bind,e,Result.andThen_ok]
 simp only[if_true]
 rw[Sem.run_bind,e2,Result.andThen_ok,Sem.run_bind]
 have:=run_loadCells_list (P:=Tryz.prog) (w:=w) ⟨g,0,none⟩ [.int .i64 x,.int .i64 y,.int .i64 z] (fun j v hj=>by
  match j with
  | 0=>simp at hj;subst hj;simpa [Addr.add] using h0
  | 1=>simp at hj;subst hj;simpa [Addr.add] using h1
  | 2=>simp at hj;subst hj;simpa [Addr.add] using h2
  | j+3=>simp at hj)
 simp only[List.length_cons,List.length_nil] at this
 rw[this,Result.andThen_ok]
 rfl
theorem results_nd {fn:Func} {p:Tmp} (h:fn.results=#[.cell p 83]) {tmps:Array Value} {w:World} {g:Nat} {x y z:Int} (hp:tmps.getD p undef=.pointer (some ⟨g,0,none⟩)) (h0:w.cell? ⟨g,0,none⟩=some (.int .i64 x)) (h1:w.cell? ⟨g,1,none⟩=some (.int .i64 y)) (h2:w.cell? ⟨g,2,none⟩=some (.int .i64 z)) :
  (results fn tmps).run Tryz.prog w=.ok (nd x y z) w:=by
 have e:(asAddr (.pointer (some ⟨g,0,none⟩))).run Tryz.prog w=.ok ⟨g,0,none⟩ w:=rfl
 rw[results_cell1 h,hp,e,Result.andThen_ok,loadNd_run h0 h1 h2]
theorem mark_nd (w:World) (x y z:Int) (t:TypeId) (g:Nat) (hg:g=w.heap.size):(w.alloc (.cells #[.int .i64 x,.int .i64 y,.int .i64 z] t)).cell? ⟨g,0,none⟩=some (.int .i64 x)∧(w.alloc (.cells #[.int .i64 x,.int .i64 y,.int .i64 z] t)).cell? ⟨g,1,none⟩=some (.int .i64 y)∧(w.alloc (.cells #[.int .i64 x,.int .i64 y,.int .i64 z] t)).cell? ⟨g,2,none⟩=some (.int .i64 z):=by
 subst hg
 exact⟨World.cell?_alloc_mark _ _ _ _ _,World.cell?_alloc_mark _ _ _ _ _,World.cell?_alloc_mark _ _ _ _ _⟩
theorem leafN_idle (n:Nat):leafN ⟨-1,n⟩=⟨2,0,(n:Int)⟩:=if_pos rfl
theorem leafN_win {p:Int} (n:Nat) (h:¬ p=-1):leafN ⟨p,n⟩=⟨1,p,(n:Int)⟩:=if_neg h
set_option maxRecDepth 100000 in
set_option maxHeartbeats 1600000 in
theorem leaf_any (r:Rn) (w:World):Calls Tryz.prog 107 #[rv r.p (r.n:Int)] w (Ans (nd (leafN r).k (leafN r).p (leafN r).n) w):=by
 obtain⟨p,n⟩:=r
 by_cases h:p=-1
 ·subst h
  go_enter Tryz.func107,Tryz.ntmps107
  go_wp2_with fail
  obtain⟨h0,h1,h2⟩:=mark_nd (w.alloc (.cells #[.int .i64 (-1),.int .i64 (n:Int)] 75)) 2 0 (n:Int) 83 (w.heap.size+1) (by simp)
  refine bodyPost_ret (results_nd rfl rfl h0 h1 h2) rfl ⟨by rw[leafN_idle],(bl1 _ _).alloc (by simp) _⟩
 ·go_enter Tryz.func107,Tryz.ntmps107
  go_wp2_with fail
  obtain⟨h0,h1,h2⟩:=mark_nd (w.alloc (.cells #[.int .i64 p,.int .i64 (n:Int)] 75)) 1 p (n:Int) 83 (w.heap.size+1) (by simp)
  refine bodyPost_ret (results_nd rfl rfl h0 h1 h2) rfl ⟨by rw[leafN_win n h],(bl1 _ _).alloc (by simp) _⟩
theorem elL:Elt 29 37 1 24 (.slice none 0 0):=⟨Tryz.underlying29,by kernel_rfl,rfl,by omega⟩
def ItemAt (w:World) (B g:Nat) (x:List Nd) (v:Value):Prop:=∃ A c,v=.slice A x.length c∧x.length≤c∧RdN w B A x.length x∧∀ ad,A=some ad→ad.block≠g
theorem ItemAt.keep {w w':World} {B B' g:Nat} {x:List Nd} {v:Value} (h:ItemAt w B g x v) (hB:B≤B') (hk:∀ p:Addr,p.block < B→p.block≠g→w'.cell? p=w.cell? p):ItemAt w' B' g x v:=by
 obtain⟨A,c,e,hc,hr,hg⟩:=h
 refine⟨A,c,e,hc,⟨hr.len,fun hn=>?_,hr.bd⟩,hg⟩
 obtain⟨ad,rfl,hb,hcell⟩:=hr.rd hn
 exact⟨ad,rfl,by omega,fun j v hj=>(hk _ (by rw[add_block];exact hb) (by rw[add_block];exact hg _ rfl)).trans (hcell j v hj)⟩
theorem ItemAt.one {w:World} {B g:Nat} {x:List Nd} {v:Value} (h:ItemAt w B g x v):v.oneCell'=true:=by
 obtain⟨A,c,rfl,_⟩:=h
 rfl
def Cells (w:World) (B g:Nat) (I:List (List Nd)) (V:List Value):Prop:=V.length=I.length∧∀(i:Nat) (x:List Nd) (v:Value),I[i]? = some x→V[i]? = some v→ItemAt w B g x v
theorem Cells.keep {w w':World} {B B' g:Nat} {I:List (List Nd)} {V:List Value} (h:Cells w B g I V) (hB:B≤B') (hk:∀ p:Addr,p.block < B→p.block≠g→w'.cell? p=w.cell? p):Cells w' B' g I V :=
 ⟨h.1,fun i x v hx hv=>(h.2 i x v hx hv).keep hB hk⟩
theorem Cells.below {w w':World} {B g:Nat} {I:List (List Nd)} {V:List Value} (h:Cells w B g I V) (hb:Below B w w'):Cells w' B g I V:=h.keep (Nat.le_refl _) fun p hp _=>hb.cell hp
theorem Cells.take {w:World} {B g:Nat} {I:List (List Nd)} {V:List Value} (h:Cells w B g I V) (k:Nat):Cells w B g (I.take k) (V.take k):=by
 refine⟨by simp[h.1],fun i x v hx hv=>?_⟩
 rw[List.getElem?_take] at hx hv
 split at hx
 ·rename_i hi
  rw[if_pos hi] at hv
  exact h.2 i x v hx hv
 ·cases hx
theorem Cells.drop {w:World} {B g:Nat} {I:List (List Nd)} {V:List Value} (h:Cells w B g I V) (k:Nat):Cells w B g (I.drop k) (V.drop k):=by
 refine⟨by simp[h.1],fun i x v hx hv=>?_⟩
 rw[List.getElem?_drop] at hx hv
 exact h.2 _ x v hx hv
theorem Cells.append {w:World} {B g:Nat} {I J:List (List Nd)} {V U:List Value} (h:Cells w B g I V) (k:Cells w B g J U):Cells w B g (I++J) (V++U):=by
 refine⟨by simp[h.1,k.1],fun i x v hx hv=>?_⟩
 by_cases hi:i < I.length
 ·rw[List.getElem?_append_left hi] at hx
  rw[List.getElem?_append_left (by rw[h.1];exact hi)] at hv
  exact h.2 i x v hx hv
 ·rw[List.getElem?_append_right (by omega)] at hx
  rw[List.getElem?_append_right (by rw[h.1];omega),h.1] at hv
  exact k.2 _ x v hx hv
theorem Cells.one {w:World} {B g:Nat} {I:List (List Nd)} {V:List Value} (h:Cells w B g I V):∀ v∈V,v.oneCell'=true:=by
 intro v hv
 obtain⟨i,hi,rfl⟩:=List.mem_iff_getElem.1 hv
 have h1:I[i]? = some (I[i]'(by rw[← h.1];exact hi)):=List.getElem?_eq_getElem _
 exact(h.2 i _ _ h1 (List.getElem?_eq_getElem hi)).one
theorem Cells.single {w:World} {B g:Nat} {x:List Nd} {v:Value} (h:ItemAt w B g x v):Cells w B g [x] [v]:=by
 refine⟨rfl,fun i y u hy hu=>?_⟩
 match i with
 | 0=>simp at hy hu;subst hy;subst hu;exact h
 | i+1=>simp at hy
structure RdL (w:World) (B g:Nat) (A:Option Addr) (n:Nat) (I:List (List Nd)):Prop where
 len:I.length=n
 ex:∃ V,RdV w B A V∧Cells w B g I V
theorem RdL.below {w w':World} {B g n:Nat} {A:Option Addr} {I:List (List Nd)} (h:RdL w B g A n I) (hb:Below B w w'):RdL w' B g A n I:=by
 obtain⟨V,h1,h2⟩:=h.ex
 exact⟨h.len,V,h1.below hb,h2.below hb⟩
theorem RdL.on {w w':World} {g n:Nat} {A:Option Addr} {I:List (List Nd)} (h:RdL w w.heap.size g A n I) (hb:Below w.heap.size w w'):RdL w' w'.heap.size g A n I:=by
 obtain⟨V,h1,h2⟩:=h.ex
 exact⟨h.len,V,(h1.below hb).more hb.size,h2.keep hb.size fun p hp _=>hb.cell hp⟩
theorem RdL.drewN {w:World} {B g n:Nat} {A:Option Addr} {I:List (List Nd)} (h:RdL w B g A n I) (q:Nat):RdL (w.drewN q) B g A n I:=h.below (Below.drewN (Below.refl _ _) q)
theorem RdL.at_ {w:World} {B g n:Nat} {A:Option Addr} {I:List (List Nd)} (h:RdL w B g A n I) {i:Nat} (hi:i < n):∃(ad:Addr) (x:List Nd) (A':Option Addr) (c':Nat),A=some ad∧ad.block < B∧I[i]? = some x ∧
  w.cell? (ad.add i)=some (.slice A' x.length c')∧x.length≤c'∧RdN w B A' x.length x:=by
 obtain⟨V,h1,h2⟩:=h.ex
 have hV:V.length=n:=by rw[h2.1,h.len]
 have hv:V[i]? = some (V[i]'(by omega)):=List.getElem?_eq_getElem _
 have hx:I[i]? = some (I[i]'(by rw[h.len];exact hi)):=List.getElem?_eq_getElem _
 obtain⟨ad,rfl,hb,hc⟩:=h1 (by omega)
 obtain⟨A',c',e,hl,hr,_⟩:=h2.2 i _ _ hx hv
 exact⟨ad,_,A',c',rfl,hb,hx,by rw[hc i _ hv,e],hl,hr⟩
theorem RdL.front {w:World} {B g n:Nat} {A:Option Addr} {I:List (List Nd)} (h:RdL w B g A n I) (k:Nat) (hk:k≤n):RdL w B g A k (I.take k):=by
 obtain⟨V,h1,h2⟩:=h.ex
 exact⟨by rw[List.length_take,h.len];omega,V.take k,h1.front k,h2.take k⟩
theorem RdL.back {w:World} {B g n:Nat} {ad:Addr} {I:List (List Nd)} (h:RdL w B g (some ad) n I) (k:Nat):RdL w B g (some (ad.add k)) (n - k) (I.drop k):=by
 obtain⟨V,h1,h2⟩:=h.ex
 exact⟨by rw[List.length_drop,h.len],V.drop k,h1.back k,h2.drop k⟩
structure OwnL (w:World) (B g n c:Nat) (I:List (List Nd)):Prop where
 len:I.length=n
 ex:∃ V,OwnV 37 1 w B (some ⟨g,0,none⟩) n c V∧Cells w w.heap.size g I V
 low:B≤g
 lt:g < w.heap.size
 cap:n≤c
theorem OwnL.rdl {w:World} {B g n c:Nat} {I:List (List Nd)} (h:OwnL w B g n c I):RdL w w.heap.size g (some ⟨g,0,none⟩) n I:=by
 obtain⟨V,h1,h2⟩:=h.ex
 exact⟨h.len,V,h1.rd,h2⟩
theorem OwnL.keep {w w':World} {B g n c:Nat} {I:List (List Nd)} (h:OwnL w B g n c I) (hb:Below w.heap.size w w'):OwnL w' B g n c I:=by
 obtain⟨V,h1,h2⟩:=h.ex
 exact⟨h.len,⟨V,h1.below rfl hb,h2.keep hb.size fun p hp _=>hb.cell hp⟩,h.low,Nat.lt_of_lt_of_le h.lt hb.size,h.cap⟩
end Go.Proofs.YtfddpnhaejkacaaGreat
namespace Go.Proofs.YtfddpnhaejkacaaGreat
namespace Tab
abbrev Itr:=List (List Nd)
def szI:Itr→Nat
 | []=>0
 | x::I=>x.length+szI I
theorem szI_append (I J:Itr):szI (I++J)=szI I+szI J:=by
 induction I with
 | nil=>simp[szI]
 | cons x I ih=>simp only[List.cons_append,szI,ih];omega
theorem szI_take (I:Itr) (k:Nat):szI (I.take k)≤szI I:=by
 have h:=szI_append (I.take k) (I.drop k)
 rw[List.take_append_drop] at h
 omega
theorem szI_drop (I:Itr) (k:Nat):szI (I.drop k)≤szI I:=by
 have h:=szI_append (I.take k) (I.drop k)
 rw[List.take_append_drop] at h
 omega
theorem szI_more {I:Itr} {i:Nat} {x:List Nd} (h:I[i]? = some x):szI (I.take (i+1))=szI (I.take i)+x.length:=by
 obtain⟨hi,e⟩:=List.getElem?_eq_some_iff.1 h
 rw[List.take_succ_eq_append_getElem hi,szI_append,e]
 simp[szI]
theorem szI_mem {I:Itr} {i:Nat} {x:List Nd} (h:I[i]? = some x):x.length≤szI I:=by
 have h1:=szI_more h
 have h2:=szI_take I (i+1)
 omega
def savI (I:Itr) (n:Nat):Int:=if n < 2 then 0 else ((szI I*(n - 1):Nat):Int) - 1 - (if 1 < I.length then 1 else 0)
def sameAt (I:Itr) (i j:Nat):Bool:=match I[i]?,I[j]? with
 | some a,some b=>sameN a b
 | _,_=>false
theorem sameAt_eq {I:Itr} {i j:Nat} {a b:List Nd} (ha:I[i]? = some a) (hb:I[j]? = some b):sameAt I i j=sameN a b:=by
 unfold sameAt
 rw[ha,hb]
theorem sameAt_iff {I:Itr} {i j:Nat} (h:sameAt I i j=true):I[i]? = I[j]?∧j < I.length:=by
 unfold sameAt at h
 split at h
 ·rename_i a b ha hb
  rw[sameN_iff] at h
  rw[ha,hb,h]
  exact⟨rfl,(List.getElem?_eq_some_iff.1 hb).1⟩
 ·cases h
def backI (I:Itr) (p:Nat):Nat→Nat
 | 0=>0
 | k+1=>if sameAt I k (k+p)=true then backI I p k else k+1
def fwdI (I:Itr) (p:Nat):Nat→Nat→Nat
 | 0,to=>to
 | f+1,to=>if to+p < I.length∧sameAt I to (to+p)=true then fwdI I p f (to+1) else to
theorem backI_le (I:Itr) (p k:Nat):backI I p k≤k:=by
 induction k with
 | zero=>simp[backI]
 | succ k ih=>simp only[backI];split <;> omega
theorem backI_same (I:Itr) (p k:Nat):∀ i,backI I p k≤i→i < k→sameAt I i (i+p)=true:=by
 induction k with
 | zero=>intro i _ h;omega
 | succ k ih =>
  intro i h1 h2
  simp only[backI] at h1
  split at h1
  ·rename_i h
   rcases Nat.lt_or_ge i k with h3 | h3
   ·exact ih i h1 h3
   ·rw[show i=k by omega]
    exact h
  ·omega
theorem fwdI_ge (I:Itr) (p f to:Nat):to≤fwdI I p f to:=by
 induction f generalizing to with
 | zero=>simp[fwdI]
 | succ f ih=>simp only[fwdI];split;have:=ih (to+1);omega;omega
theorem fwdI_le (I:Itr) (p f to:Nat) (h:to+p≤I.length):fwdI I p f to+p≤I.length:=by
 induction f generalizing to with
 | zero=>simpa [fwdI] using h
 | succ f ih=>simp only[fwdI];split;exact ih (to+1) (by omega);exact h
theorem fwdI_same (I:Itr) (p f to:Nat):∀ i,to≤i→i < fwdI I p f to→sameAt I i (i+p)=true:=by
 induction f generalizing to with
 | zero=>intro i h1 h2;simp only[fwdI] at h2;omega
 | succ f ih =>
  intro i h1 h2
  simp only[fwdI] at h2
  split at h2
  ·rename_i h
   rcases Nat.lt_or_ge to i with h3 | h3
   ·exact ih (to+1) i (by omega) h2
   ·rw[show i=to by omega]
    exact h.2
  ·omega
structure Bst where
 most:Int
 at_:Nat
 p:Nat
 n:Nat
def oftenI (I:Itr) (q place:Nat):Nat:=(fwdI I q I.length place - backI I q place) / q+1
def savedI (I:Itr) (q place:Nat):Int:=savI ((I.drop (backI I q place)).take q) (oftenI I q place)
def pickI (I:Itr) (q place:Nat) (s:Bst):Bst :=
 if s.most < savedI I q place∨(savedI I q place=s.most∧backI I q place < s.at_) then ⟨savedI I q place,backI I q place,q,oftenI I q place⟩ else s
def innerI (I:Itr) (q:Nat):Nat→Nat→Bst→Bst
 | 0,_,s=>s
 | f+1,place,s=>if place+q < I.length then innerI I q f (fwdI I q I.length place+q) (pickI I q place s) else s
def outerI (I:Itr):Nat→Nat→Bst→Bst
 | 0,_,s=>s
 | f+1,q,s=>if 2*q≤I.length∧s.most < (szI I:Int) - q then outerI I f (q+1) (innerI I q I.length (q - 1) s) else s
def bestI (I:Itr):Bst:=outerI I I.length 1 ⟨0,0,0,0⟩
structure Good (I:Itr) (s:Bst):Prop where
 n:2≤s.n
 p:1≤s.p
 le:s.at_+s.p*s.n≤I.length
 same:∀ i,s.at_≤i→i+s.p < s.at_+s.p*s.n→I[i]? = I[i+s.p]?
 most:s.most=savI ((I.drop s.at_).take s.p) s.n
 pos:0 < s.most
def Fit (I:Itr) (s:Bst):Prop:=s=⟨0,0,0,0⟩∨Good I s
theorem Fit.most {I:Itr} {s:Bst} (h:Fit I s):0≤s.most:=by
 rcases h with rfl | h
 ·exact Int.le_refl _
 ·have:=h.pos;omega
theorem savI_pos {I:Itr} {n:Nat} (h:0 < savI I n):2≤n:=by
 unfold savI at h
 split at h <;> omega
theorem pickI_fit {I:Itr} {q place:Nat} {s:Bst} (hq:1≤q) (hp:place+q < I.length) (h:Fit I s):Fit I (pickI I q place s):=by
 unfold pickI
 split
 ·rename_i hc
  have h0:=h.most
  have hs:0 < savedI I q place:=by
   rcases hc with hc | ⟨hc,hlt⟩
   ·omega
   ·rcases h with rfl | h
    ·simp at hlt
    ·have:=h.pos;omega
  have hb:=backI_le I q place
  have hf:=fwdI_ge I q I.length place
  have hl:=fwdI_le I q I.length place (by omega)
  have hd:=Nat.div_mul_le_self (fwdI I q I.length place - backI I q place) q
  have e:q*oftenI I q place=(fwdI I q I.length place - backI I q place) / q*q+q:=by
   unfold oftenI
   rw[Nat.mul_add,Nat.mul_comm,Nat.mul_one]
  refine .inr ⟨savI_pos hs,hq,?_,fun i h1 h2=>?_,rfl,hs⟩
  ·dsimp only
   omega
  ·dsimp only at h1 h2 ⊢
   have:sameAt I i (i+q)=true:=by
    rcases Nat.lt_or_ge i place with h3 | h3
    ·exact backI_same I q place i h1 h3
    ·exact fwdI_same I q I.length place i h3 (by omega)
   exact(sameAt_iff this).1
 ·exact h
theorem innerI_fit {I:Itr} {q:Nat} (hq:1≤q) (f place:Nat) (s:Bst) (h:Fit I s):Fit I (innerI I q f place s):=by
 induction f generalizing place s with
 | zero=>exact h
 | succ f ih =>
  simp only[innerI]
  split
  ·rename_i hc
   exact ih _ _ (pickI_fit hq hc h)
  ·exact h
theorem outerI_fit {I:Itr} (f q:Nat) (s:Bst) (hq:1≤q) (h:Fit I s):Fit I (outerI I f q s):=by
 induction f generalizing q s with
 | zero=>exact h
 | succ f ih =>
  simp only[outerI]
  split
  ·exact ih _ _ (by omega) (innerI_fit hq _ _ _ h)
  ·exact h
theorem bestI_fit (I:Itr):Fit I (bestI I):=outerI_fit _ _ _ (Nat.le_refl _) (.inl rfl)
theorem bestI_cases (I:Itr):(bestI I).n=0∧bestI I=⟨0,0,0,0⟩∨Good I (bestI I):=by
 rcases bestI_fit I with h | h
 ·exact .inl ⟨by rw[h],h⟩
 ·exact .inr h
def parts:F→Itr
 | .nil=>[]
 | .cons x k r=>(x::k.flat)::parts r
theorem parts_app (f g:F):parts (f.app g)=parts f++parts g:=by
 induction f with
 | nil=>rfl
 | cons x k r _ hr=>simp only[F.app,parts,hr,List.cons_append]
theorem parts_len (f:F):(parts f).length=f.cnt:=by
 induction f with
 | nil=>rfl
 | cons x k r _ hr=>simp only[parts,List.length_cons,hr,F.cnt]
theorem parts_sz (f:F):szI (parts f)=f.sz:=by
 induction f with
 | nil=>rfl
 | cons x k r _ hr=>simp only[parts,szI,List.length_cons,F.flat_length,hr,F.sz];omega
theorem parts_flat (f:F):(parts f).flatten=f.flat:=by
 induction f with
 | nil=>rfl
 | cons x k r _ hr=>simp only[parts,List.flatten_cons,hr,F.flat,List.cons_append]
theorem flat_inj (f:F):∀(g:F) (s t:List Nd),f.ok→g.ok→f.cnt=g.cnt→f.flat++s=g.flat++t→f=g∧s=t:=by
 induction f with
 | nil =>
  intro g s t _ _ hc h
  have:g=.nil:=F.cnt_zero hc.symm
  subst this
  exact⟨rfl,by simpa [F.flat] using h⟩
 | cons x k r hk hr =>
  intro g s t h1 h2 hc h
  cases g with
  | nil=>simp[F.cnt] at hc
  | cons y k' r' =>
   simp only[F.flat,List.cons_append,List.append_assoc,List.cons.injEq] at h
   obtain⟨rfl,h3⟩:=h
   obtain⟨rfl,h4⟩:=hk k' _ _ h1.2.2.1 h2.2.2.1 (by rw[h1.2.1,h2.2.1]) h3
   obtain⟨rfl,h5⟩:=hr r' _ _ h1.2.2.2 h2.2.2.2 (by simp only[F.cnt] at hc;omega) h4
   exact⟨rfl,h5⟩
theorem parts_inj (f g:F) (hf:f.ok) (hg:g.ok) (h:parts f=parts g):f=g:=by
 refine(flat_inj f g [] [] hf hg ?_ ?_).1
 ·rw[← parts_len,← parts_len,h]
 ·rw[← parts_flat,← parts_flat,h]
theorem times_of (n:Nat):∀(p:Nat) (h:F),h.ok→h.cnt=p*(n+1)→(∀ i,i+p < p*(n+1)→(parts h)[i]? = (parts h)[i+p]?)→∃ g:F,g.ok∧g.cnt=p∧h=timesF (n+1) g∧∃ r,h=g.app r:=by
 induction n with
 | zero =>
  intro p h hok hc _
  refine⟨h,hok,by omega,by simp[timesF,app_nil],.nil,(app_nil h).symm⟩
 | succ n ih =>
  intro p h hok hc hs
  have hp:p*(n+1+1)=p*(n+1)+p:=by rw[Nat.mul_succ]
  obtain⟨a,b,ha,hb,hca,hcb,e⟩:=F.split hok p (by omega)
  have hla:=parts_len a
  have hlb:=parts_len b
  obtain⟨g,hg,hcg,e2,r,e3⟩:=ih p b hb (by omega) (fun i hi=>by
   have:=hs (i+p) (by omega)
   rw[e,parts_app,List.getElem?_append_right (by omega),List.getElem?_append_right (by omega),hla,hca] at this
   rwa [show i+p - p=i by omega,show i+p+p - p=i+p by omega] at this)
  have hag:a=g:=by
   refine parts_inj a g ha hg (List.ext_getElem? fun i=>?_)
   have hlg:=parts_len g
   by_cases hi:i < p
   ·have:=hs i (by rw[hp];have:=Nat.le_mul_of_pos_right p (show 0 < n+1 by omega);omega)
    rw[e,parts_app,List.getElem?_append_left (by omega),List.getElem?_append_right (by omega),hla,hca,show i+p - p=i by omega,e3,parts_app,List.getElem?_append_left (by omega)] at this
    exact this
   ·rw[List.getElem?_eq_none (by omega),List.getElem?_eq_none (by omega)]
  subst hag
  exact⟨a,ha,hca,by rw[e,e2];rfl,b,e⟩
theorem Good.folds {f:F} {s:Bst} (h:Good (parts f) s) (hok:f.ok):∃(a g b:F),f=a.app ((timesF s.n g).app b)∧a.cnt=s.at_∧g.cnt=s.p∧g.ok∧Folds f (a.app ((foldF s.n g).app b)):=by
 have hlen:=parts_len f
 have hle:=h.le
 obtain⟨m,hm⟩:∃ m,s.n=m+2:=⟨s.n - 2,by have:=h.n;omega⟩
 obtain⟨a,u,ha,hu,hca,hcu,e⟩:=F.split hok s.at_ (by omega)
 obtain⟨v,b,hv,hb,hcv,hcb,e2⟩:=F.split hu (s.p*s.n) (by omega)
 have hla:=parts_len a
 have hlv:=parts_len v
 have hget:∀ j,j < s.p*s.n→(parts f)[s.at_+j]? = (parts v)[j]?:=fun j hj=>by
  rw[e,e2,parts_app,parts_app,List.getElem?_append_right (by omega),hla,hca,show s.at_+j - s.at_=j by omega,List.getElem?_append_left (by omega)]
 obtain⟨g,hg,hcg,e3,r,e4⟩:=times_of (m+1) s.p v hv (by rw[hcv,hm]) (fun i hi=>by
  have h1:s.p*s.n=s.p*(m+1+1):=by rw[hm]
  have h2:=h.same (s.at_+i) (by omega) (by omega)
  rwa [hget i (by omega),Nat.add_assoc,hget (i+s.p) (by omega)] at h2)
 have hgI:((parts f).drop s.at_).take s.p=parts g:=by
  rw[e,e2,e4,parts_app,parts_app,parts_app,List.drop_append_of_le_length (by omega),List.drop_eq_nil_of_le (by omega),List.nil_append,List.append_assoc,List.take_append_of_le_length (by rw[parts_len,hcg];omega),List.take_of_length_le (by rw[parts_len,hcg];omega)]
 have hp:=h.pos
 rw[h.most,hgI] at hp
 have hf:f=a.app ((timesF s.n g).app b):=by rw[e,e2,e3,hm]
 refine⟨a,g,b,hf,hca,hcg,hg,⟨a,g,b,s.n,hf,rfl,h.n,by have:=h.p;omega,?_⟩⟩
 unfold savI at hp
 rw[if_neg (by omega),parts_sz,parts_len,hcg] at hp
 rw[hcg]
 have h1:=h.p
 split
 ·rename_i h2
  rw[if_neg (by omega)] at hp
  omega
 ·rw[if_pos (by omega)] at hp
  omega
def joinI (I:Itr):List Nd:=match I with
 | [x]=>x
 | I=>⟨3,0,(I.length:Int)⟩::I.flatten
theorem joinI_one (x:List Nd):joinI [x]=x:=rfl
theorem joinI_more {I:Itr} (h:¬ I.length=1):joinI I=⟨3,0,(I.length:Int)⟩::I.flatten:=by
 unfold joinI
 split
 ·simp at h
 ·rfl
theorem joinI_parts (f:F):joinI (parts f)=(wrapF f).flat:=by
 unfold wrapF
 split
 ·rename_i h
  cases f with
  | nil=>simp[F.cnt] at h
  | cons x k r =>
   have hr:r=.nil:=F.cnt_zero (by simp only[F.cnt] at h;omega)
   subst hr
   simp[parts,joinI,F.flat]
 ·rename_i h
  rw[joinI_more (by rw[parts_len];exact h),parts_flat,parts_len]
  simp[F.flat]
def stepI (I:Itr) (s:Bst):Itr:=I.take s.at_++(((⟨4,0,(s.n:Int)⟩:Nd)::joinI ((I.drop s.at_).take s.p))::I.drop (s.at_+s.p*s.n))
def tabI:Nat→Itr→List Nd
 | 0,I=>joinI I
 | f+1,I=>if (bestI I).n=0 then joinI I else tabI f (stepI I (bestI I))
theorem Good.step {f:F} {s:Bst} (h:Good (parts f) s) (hok:f.ok):∃ f',Folds f f'∧stepI (parts f) s=parts f':=by
 obtain⟨a,g,b,e,ha,hg,hgo,hf⟩:=h.folds hok
 refine⟨_,hf,?_⟩
 have hla:=parts_len a
 have hlg:=parts_len g
 obtain⟨m,hm⟩:∃ m,s.n=m+1:=⟨s.n - 1,by have:=h.n;omega⟩
 have hlt:=parts_len (timesF s.n g)
 rw[timesF_cnt,hg] at hlt
 have h1:(parts f).take s.at_=parts a:=by
  rw[e,parts_app,List.take_append_of_le_length (by omega),List.take_of_length_le (by omega)]
 have h2:((parts f).drop s.at_).take s.p=parts g:=by
  rw[e,parts_app,List.drop_append_of_le_length (by omega),List.drop_eq_nil_of_le (by omega),List.nil_append,hm]
  simp only[timesF,parts_app,List.append_assoc]
  rw[List.take_append_of_le_length (by omega),List.take_of_length_le (by omega)]
 have h3:(parts f).drop (s.at_+s.p*s.n)=parts b:=by
  have hc:s.p*s.n=s.n*s.p:=Nat.mul_comm _ _
  rw[e,parts_app,parts_app,← List.append_assoc,List.drop_append_of_le_length (by rw[List.length_append];omega),List.drop_eq_nil_of_le (by rw[List.length_append];omega),List.nil_append]
 unfold stepI
 rw[h1,h2,h3,parts_app,parts_app,joinI_parts]
 simp only[foldF,parts,List.cons_append,List.nil_append]
theorem tab_items {L:List Rn} (hL:L.length≤128) (n:Nat):∀ f:F,Items L f→∃ f',Items L f'∧tabI n (parts f)=(wrapF f').flat:=by
 induction n with
 | zero=>intro f h;exact⟨f,h,joinI_parts f⟩
 | succ n ih =>
  intro f h
  simp only[tabI]
  split
  ·exact⟨f,h,joinI_parts f⟩
  ·rename_i hn
   rcases bestI_cases (parts f) with ⟨h0,_⟩ | hg
   ·exact absurd h0 hn
   ·obtain⟨f',hf,e⟩:=hg.step h.ok
    rw[e]
    exact ih f' (h.step hL hf)
end Tab
end Go.Proofs.YtfddpnhaejkacaaGreat
namespace Go.Proofs.YtfddpnhaejkacaaGreat
open Go.RowKit Tab
open Lib (hid)
def Stil (v:Value) (w:World) (e:Ending) (w':World):Prop:=e=.returned v∧w'=w
set_option maxRecDepth 100000 in
set_option maxHeartbeats 1600000 in
theorem sizeI_any (A:Option Addr) (n cap g:Nat) (I:Itr) (w:World) (h:RdL w w.heap.size g A n I) (hc:n≤cap) (hn:n≤1048576) (hsz:szI I≤1099511627776) :
  Calls Tryz.prog 108 #[.slice A n cap] w (Stil (.int .i64 (szI I:Nat)) w):=by
 generalize hS:szI I=S at hsz ⊢
 have HS:=hid hS
 clear hS
 go_enter Tryz.func108,Tryz.ntmps108
 go_wp2_with fail
 go_loopw [3,5,8] (fun q _ s wr=>∃ i k:Nat,i≤n∧s=.int .i64 i∧q=.int .i64 k∧k=szI (I.take i)∧wr=w) (fun _ _ s _=>n - (intOf s).toNat)
 case atStart=>exact⟨0,0,by omega,rfl,rfl,by simp[szI],rfl⟩
 case round =>
  obtain⟨i,k,hi,rfl,rfl,hk,rfl⟩:=hrel
  have HK:=hid hk
  clear hk
  by_cases hlt:i < n
  ·obtain⟨ad,x,A',c',rfl,had,hx,c0,hl,hr⟩:=h.at_ hlt
   have hm:=szI_more hx
   have hle:=szI_take I (i+1)
   rw[HS.out] at hle
   have hk2:k+x.length=szI (I.take (i+1)):=by rw[hm,HK.out]
   have hb2:k+x.length≤1099511627776:=by omega
   have HK2:=hid hk2
   clear hm hle hk2 hx hr
   generalize x.length=m at c0 hl hb2 HK2
   go_wp2_with fail
   go_roundw
   case rel=>exact⟨i+1,k+m,by omega,by go_num,by go_num,HK2.out,trivial⟩
   case measure=>simp[intOf];omega
  ·have hge:n≤i:=by omega
   have e:I.take i=I:=List.take_of_length_le (by rw[h.len];exact hge)
   have hk2:=HK.out
   rw[e,HS.out] at hk2
   subst hk2
   go_wp2_with fail
   go_ret
   exact⟨rfl,rfl⟩
theorem savI_lt {I:Itr} {n:Nat} (h:n < 2):savI I n=0:=if_pos h
theorem savI_one {I:Itr} {n:Nat} (h:¬ n < 2) (h1:¬ 1 < I.length):savI I n=((szI I*(n - 1):Nat):Int) - 1:=by unfold savI;rw[if_neg h,if_neg h1,Int.sub_zero]
theorem savI_more {I:Itr} {n:Nat} (h:¬ n < 2) (h1:1 < I.length):savI I n=((szI I*(n - 1):Nat):Int) - 1 - 1:=by unfold savI;rw[if_neg h,if_pos h1]
set_option maxRecDepth 100000 in
set_option maxHeartbeats 1600000 in
theorem saves_any (A:Option Addr) (n cap g m:Nat) (I:Itr) (w:World) (h:RdL w w.heap.size g A n I) (hc:n≤cap) (hn:n≤1048576) (hsz:szI I≤1048576) (hm:m≤1048576) :
  Calls Tryz.prog 110 #[.slice A n cap,.int .i64 (m:Int)] w (Stil (.int .i64 (savI I m)) w):=by
 by_cases h2:m < 2
 ·rw[savI_lt h2]
  have h2':(m:Int) < 2:=by omega
  go_enter Tryz.func110,Tryz.ntmps110
  go_wp2_with fail
  go_ret
  exact⟨rfl,rfl⟩
 ·have h2':¬ (m:Int) < 2:=by omega
  have H:=hid (sizeI_any A n cap g I w h hc hn (by omega))
  have hlen:=h.len
  have hmul:szI I*(m - 1)≤1048576*1048576:=Nat.mul_le_mul hsz (by omega)
  have e1:((szI I:Nat):Int)*((m:Int) - 1)=((szI I*(m - 1):Nat):Int):=by
   rw[Int.natCast_mul,Int.natCast_sub (by omega)]
   rfl
  have hw:IntKind.i64.wrap (((szI I:Nat):Int)*((m:Int) - 1))=((szI I*(m - 1):Nat):Int):=by rw[e1];exact IntWalk.i64_in _ (by omega)
  by_cases h1:1 < n
  ·rw[savI_more h2 (by omega)]
   generalize szI I*(m - 1)=P at hmul hw ⊢
   generalize szI I=S at H hw ⊢
   have h1':(1:Int) < (n:Int):=by omega
   clear e1 h hlen hsz
   go_enter Tryz.func110,Tryz.ntmps110
   go_wp2_with fail
   refine H.out.mono ?_
   rintro e w1 ⟨rfl,rfl⟩
   go_wp2_with fail
   go_ret
   exact⟨rfl,rfl⟩
  ·rw[savI_one h2 (by omega)]
   generalize szI I*(m - 1)=P at hmul hw ⊢
   generalize szI I=S at H hw ⊢
   have h1':¬ (1:Int) < (n:Int):=by omega
   clear e1 h hlen hsz
   go_enter Tryz.func110,Tryz.ntmps110
   go_wp2_with fail
   refine H.out.mono ?_
   rintro e w1 ⟨rfl,rfl⟩
   go_wp2_with fail
   go_ret
   exact⟨rfl,rfl⟩
def itemsI (L:List Rn):Itr:=L.map fun r=>[leafN r]
theorem itemsI_parts (L:List Rn):parts (itemsF L)=itemsI L:=by
 induction L with
 | nil=>rfl
 | cons r s ih=>simp only[itemsF,parts,itemsI,List.map_cons,F.flat] at ih ⊢;rw[ih]
theorem itemsI_len (L:List Rn):(itemsI L).length=L.length:=by simp[itemsI]
def MadeL (I:Itr) (w:World) (e:Ending) (w':World):Prop:=∃ g c,e=.returned (.slice (some ⟨g,0,none⟩) I.length c)∧OwnL w' w.heap.size g I.length c I∧Below w.heap.size w w'∧c=I.length
theorem run_makeL (m:Nat) (hm:m≤1048576) (W:World):(Instr.makeSlice 29 (.int .i64 (m:Int)) (.int .i64 (m:Int))).run Tryz.prog W=.ok (.slice (some ⟨W.heap.size,0,none⟩) m m) (W.alloc (.cells (madeCells #[.slice none 0 0] m) 37)):=by
 obtain⟨i,hi,hz,hs,hby⟩:=info_parts elL.hi
 have hr:=run_make (P:=Tryz.prog) W 29 37 i _ elL.ht hi hz .i64 .i64 m m (by omega) (by omega) (by rw[hby];omega) (by omega)
 rw[hs] at hr
 simp only[Int.toNat_natCast,Nat.mul_one] at hr
 exact hr
def LeafCells (w:World) (g i:Nat) (L:List Rn) (V:List Value):Prop:=∀ j r v,j < i→L[j]? = some r→V[j]? = some v→ItemAt w w.heap.size g [leafN r] v
theorem lvs_step {wr w1:World} {g n i:Nat} {L:List Rn} {V:List Value} {r:Rn} {k1 k2 k3:Int} (hlc:LeafCells wr g i L V) (how:OwnV 37 1 w1 g (some ⟨g,0,none⟩) n n V) (hb:Below wr.heap.size wr w1) (hgs:g < wr.heap.size)
  (hr:L[i]? = some r) (hk:(⟨k1,k2,k3⟩:Nd)=leafN r) (hin:NdIn ⟨k1,k2,k3⟩) (hlt:i < n) :
  OwnV 37 1 ((w1.setCell ⟨g,i,none⟩ (.slice (some ⟨w1.heap.size,0,none⟩) 1 1)).alloc (.cells #[.int .i64 k1,.int .i64 k2,.int .i64 k3] 83)) g (some ⟨g,0,none⟩) n n (V.set i (.slice (some ⟨w1.heap.size,0,none⟩) 1 1)) ∧
  LeafCells ((w1.setCell ⟨g,i,none⟩ (.slice (some ⟨w1.heap.size,0,none⟩) 1 1)).alloc (.cells #[.int .i64 k1,.int .i64 k2,.int .i64 k3] 83)) g (i+1) L (V.set i (.slice (some ⟨w1.heap.size,0,none⟩) 1 1)) ∧
  Below g wr ((w1.setCell ⟨g,i,none⟩ (.slice (some ⟨w1.heap.size,0,none⟩) 1 1)).alloc (.cells #[.int .i64 k1,.int .i64 k2,.int .i64 k3] 83)) ∧
  g < ((w1.setCell ⟨g,i,none⟩ (.slice (some ⟨w1.heap.size,0,none⟩) 1 1)).alloc (.cells #[.int .i64 k1,.int .i64 k2,.int .i64 k3] 83)).heap.size:=by
 obtain⟨ho,_⟩:=World.ownsRow.stored how i (.slice (some ⟨w1.heap.size,0,none⟩) 1 1)
 have hs:(w1.setCell ⟨g,i,none⟩ (.slice (some ⟨w1.heap.size,0,none⟩) 1 1)).heap.size=w1.heap.size:=by simp
 have hbs:=hb.size
 have hbl:=bl1 (w1.setCell ⟨g,i,none⟩ (.slice (some ⟨w1.heap.size,0,none⟩) 1 1)) (.cells #[.int .i64 k1,.int .i64 k2,.int .i64 k3] 83)
 have hrd:=rdV_new (w1.setCell ⟨g,i,none⟩ (.slice (some ⟨w1.heap.size,0,none⟩) 1 1)) #[.int .i64 k1,.int .i64 k2,.int .i64 k3] 83 (ns [⟨k1,k2,k3⟩]) rfl
 rw[hs] at hrd
 have hsz:=hbl.size
 refine⟨OwnV.below ho rfl hbl,fun j q v hj hq hv=>?_,((hb.mono (Nat.le_of_lt hgs)).setCell (p:=⟨g,i,none⟩) (Nat.le_refl _) _).trans (hbl.mono (by rw[hs];omega)),by omega⟩
 by_cases hji:j=i
 ·subst hji
  rw[hr] at hq
  injection hq with hq
  subst hq
  rw[List.getElem?_set_self (by rw[how.len];omega)] at hv
  injection hv with hv
  subst hv
  rw[← hk]
  exact⟨_,1,rfl,Nat.le_refl _,⟨rfl,hrd,fun y hy=>by simp at hy;subst hy;exact hin⟩,fun ad had=>by injection had with had;subst had;show w1.heap.size≠g;omega⟩
 ·rw[List.getElem?_set_ne (by omega)] at hv
  refine(hlc j q v (by omega) hq hv).keep (by omega) fun p hp hg=>?_
  rw[World.cell?_alloc_lt _ _ _ (by rw[hs];omega),World.cell?_setCell_other _ _ _ _ (fun e=>hg (by first | rw[e] | rw[← e]))]
  exact hb.cell hp
set_option maxRecDepth 100000 in
set_option maxHeartbeats 4000000 in
theorem leaves_any (A:Option Addr) (n cap:Nat) (L:List Rn) (w:World) (h:RdR w w.heap.size A n L) (hc:n≤cap) (hn:n≤1048576) (hL:∀ r∈L,In64 r.p∧r.n≤1048576) :
  Calls Tryz.prog 75 #[.slice A n cap] w (MadeL (itemsI L) w):=by
 have hmk:=run_makeL n hn
 have HLL:=hid hL
 clear hL
 go_enter Tryz.func75,Tryz.ntmps75
 go_wp2_with fail
 have hb0:=bl1 w (.cells (madeCells #[.slice none 0 0] n) 37)
 have how0:OwnV 37 1 (w.alloc (.cells (madeCells #[.slice none 0 0] n) 37)) w.heap.size (some ⟨w.heap.size,0,none⟩) n n (madeCells #[.slice none 0 0] n).toList:=ownV_lit w _ 1 w.heap.size _ n (by rw[size_madeCells,Nat.mul_one]) (Nat.le_refl _) (by unfold maxLen;omega)
 obtain⟨V0,hV0⟩:∃ V0,V0=(madeCells #[.slice none 0 0] n).toList:=⟨_,rfl⟩
 rw[← hV0] at how0
 have hg0:w.heap.size < (w.alloc (.cells (madeCells #[.slice none 0 0] n) 37)).heap.size:=by simp
 clear hV0
 obtain⟨g,hg⟩:∃ g,g=w.heap.size:=⟨_,rfl⟩
 generalize w.alloc (.cells (madeCells #[.slice none 0 0] n) 37)=W0 at hb0 how0 hg0 ⊢
 rw[← hg] at how0 hg0 ⊢
 have HG:=hid hg
 clear hg hmk
 go_loopw [4,5,11] (fun _ _ s wr=>∃(i:Nat) (V:List Value),i≤n∧s=.int .i64 i∧OwnV 37 1 wr g (some ⟨g,0,none⟩) n n V∧LeafCells wr g i L V∧Below w.heap.size w wr∧g < wr.heap.size) (fun _ _ s _=>n - (intOf s).toNat)
 case atStart=>exact⟨0,V0,by omega,rfl,how0,fun j r v hj=>by omega,hb0,hg0⟩
 case round =>
  obtain⟨i,V,hi,rfl,how,hlc,hb,hgs⟩:=hrel
  have HLC:=hid hlc
  clear hlc
  by_cases hlt:i < n
  ·obtain⟨ad,r,rfl,had,hr,c0,c1⟩:=(h.on hb).at_ hlt
   have hrL:=HLL.out r (List.mem_of_getElem? hr)
   obtain⟨rp,rn⟩:=r
   dsimp only at c0 c1 hrL
   have hbx:=bl1 wr (.cells #[.int .i64 rp,.int .i64 (rn:Int)] 75)
   have HR:=hid hr
   clear hr
   go_wp2_with fail
   refine(leaf_any ⟨rp,rn⟩ _).mono ?_
   rintro e w1 ⟨rfl,hb1⟩
   have hb2:Below wr.heap.size wr w1:=hbx.trans (hb1.mono hbx.size)
   have hin:NdIn (leafN ⟨rp,rn⟩):=by
    unfold leafN NdIn
    unfold In64 at hrL ⊢
    dsimp only at hrL ⊢
    split <;> dsimp only <;> omega
   have hown1:=how.below rfl hb2
   have hgs1:g < w1.heap.size:=Nat.lt_of_lt_of_le hgs hb2.size
   have hvi:V[i]? = some (V[i]'(by rw[how.len];omega)):=List.getElem?_eq_getElem _
   have d0:w1.cell? ⟨g,i,none⟩=some (V[i]'(by rw[how.len];omega)):=(World.ownsRow.cellAt hown1 i (by omega)).trans hvi
   have d1:w1.frozen? ⟨g,i,none⟩=false:=World.ownsRow.frozenAt hown1 i
   generalize (V[i]'(by rw[how.len];omega))=u at d0 hvi
   clear hvi c0 c1 hbx hb1
   obtain⟨lk,hlk⟩:∃ x,x=leafN ⟨rp,rn⟩:=⟨_,rfl⟩
   have HK:=hid hlk
   rw[← hlk] at hin ⊢
   clear hlk
   obtain⟨k1,k2,k3⟩:=lk
   go_wp2_with fail
   have F:=lvs_step (i:=i) HLC.out hown1 hb2 hgs HR.out (k1:=k1) (k2:=k2) (k3:=k3) HK.out hin hlt
   go_roundw
   case rel=>exact⟨i+1,_,by omega,by go_num,F.1,F.2.1,hb.trans (F.2.2.1.mono (by rw[HG.out];exact Nat.le_refl _)),F.2.2.2⟩
   case measure=>simp[intOf];omega
  ·have hge:n≤i:=by omega
   go_wp2_with fail
   go_ret
   have hll:=h.len
   refine⟨g,n,by rw[itemsI_len,hll];rfl,?_,hb,by rw[itemsI_len,hll]⟩
   rw[itemsI_len,hll]
   refine⟨by rw[itemsI_len,hll],⟨V,how.weak (by rw[HG.out];exact Nat.le_refl _),by rw[how.len,itemsI_len,hll];omega,fun j x v hx hv=>?_⟩,by rw[HG.out];exact Nat.le_refl _,hgs,Nat.le_refl _⟩
   unfold itemsI at hx
   rw[List.getElem?_map] at hx
   cases hr:L[j]? with
   | none=>rw[hr] at hx;cases hx
   | some r =>
    rw[hr] at hx
    simp only[Option.map_some,Option.some.injEq] at hx
    subst hx
    exact HLC.out j r v (by have:=(List.getElem?_eq_some_iff.1 hr).1;omega) hr hv
def Nods (l:List Nd) (w:World) (e:Ending) (w':World):Prop:=∃ A m c,e=.returned (.slice A m c)∧OwnN w' w.heap.size A m c l∧Below w.heap.size w w'
def RdNs (l:List Nd) (w:World) (e:Ending) (w':World):Prop:=∃ A m c,e=.returned (.slice A m c)∧RdN w' w'.heap.size A m l∧m≤c∧Below w.heap.size w w'
theorem Nods.rd {l:List Nd} {w w':World} {e:Ending} (h:Nods l w e w'):RdNs l w e w':=by
 obtain⟨A,m,c,rfl,ho,hb⟩:=h
 exact⟨A,m,c,rfl,ho.rdn,ho.cap,hb⟩
theorem OwnN.nil0 (w:World) (B:Nat):OwnN w B none 0 0 []:=⟨rfl,OwnV.nil _ _ _ _,by simp⟩
set_option maxRecDepth 100000 in
set_option maxHeartbeats 1600000 in
theorem grow_any (k:Nat) (hk:k≤1048576) (w:World) :
  Calls Tryz.prog 149 #[.slice none 0 0,.int .i64 (k:Int)] w (Nods [] w):=by
 by_cases h0:0 < k
 ·obtain⟨i,hi,hz,hs,hby⟩:=info_parts elN.hi
  have hold:(Builtin.firstCells i.size 0 (.slice none 0 0)).run Tryz.prog w.drew=.ok ([]:List Value).toArray w.drew:=run_firstCells_none w.drew i.size 0 0 0
  have hge:=grownCap_ge w (0+k) 0 83
  have hle:=grownCap_le_maxLen w (0+k) 0 83 (by unfold maxLen;omega)
  have hrz:∀ ty,(Builtin.append_ #[37,3] ty #[.slice none 0 0,.int .i64 (k:Int)]).run Tryz.prog w=.ok (.slice (some ⟨w.heap.size,0,none⟩) (0+k) (grownCap w (0+k) 0 83)) (w.drew.alloc (.cells (([]:List Value).toArray++Builtin.zeroCells (Value.agg #[.int .i64 0,.int .i64 0,.int .i64 0]).cells k++Builtin.zeroCells (Value.agg #[.int .i64 0,.int .i64 0,.int .i64 0]).cells (grownCap w (0+k) 0 83 - (0+k))) 83)):=fun ty =>
   Lib.run_append_grow_zeros w 37 3 ty 83 i _ .i64 .i64 elN.ht Tryz.underlying3 hi hz none 0 0 [] hold k h0 (by rw[hs];omega) (by omega) (by omega) (by rw[hby];omega) (by rw[hby];exact growslice_fits (by omega) (by omega))
  simp only[Nat.zero_add] at hrz hge hle
  have hown:OwnN (w.drew.alloc (.cells (([]:List Value).toArray++Builtin.zeroCells (Value.agg #[.int .i64 0,.int .i64 0,.int .i64 0]).cells k++Builtin.zeroCells (Value.agg #[.int .i64 0,.int .i64 0,.int .i64 0]).cells (grownCap w k 0 83 - k)) 83)) w.heap.size (some ⟨w.heap.size,0,none⟩) 0 (grownCap w k 0 83) []:=by
   refine⟨rfl,⟨rfl,.inr ⟨w.heap.size,_,_,rfl,Nat.le_refl _,heap_alloc_new w.drew _,Nat.zero_le _,hle,?_,by simp[ns]⟩⟩,by simp⟩
   simp only[Array.size_append,List.size_toArray,size_zeroCells,List.length_nil]
   have:(Value.agg #[Value.int .i64 0,Value.int .i64 0,Value.int .i64 0]).cells.size=3:=rfl
   rw[this]
   omega
  have hbel:Below w.heap.size w (w.drew.alloc (.cells (([]:List Value).toArray++Builtin.zeroCells (Value.agg #[.int .i64 0,.int .i64 0,.int .i64 0]).cells k++Builtin.zeroCells (Value.agg #[.int .i64 0,.int .i64 0,.int .i64 0]).cells (grownCap w k 0 83 - k)) 83)):=((Below.refl _ _).drew).alloc (Nat.le_refl _) _
  have hmax:grownCap w k 0 83≤9223372036854775807:=by unfold maxLen at hle;omega
  generalize w.drew.alloc _=W at hrz hown hbel
  generalize grownCap w k 0 83=G at hrz hown hge hmax
  have HO:=hid hown
  have HB:=hid hbel
  clear hown hbel hold hle
  go_enter Tryz.func149,Tryz.ntmps149
  go_wp2_with (at_builtin;refine Lib.wpList_append_run _ rfl _ _ _ _ rfl _ _ rfl rfl _ _ (hrz _) ?_)
  go_ret
  exact⟨_,0,G,rfl,HO.out,HB.out⟩
 ·obtain rfl:k=0:=by omega
  go_enter Tryz.func149,Tryz.ntmps149
  go_wp2_with fail
  go_ret
  exact⟨none,0,0,rfl,OwnN.nil0 _ _,Below.refl _ _⟩
theorem flat_more {I:Itr} {i:Nat} {x:List Nd} (h:I[i]? = some x):(I.take (i+1)).flatten=(I.take i).flatten++x:=by
 obtain⟨hi,e⟩:=List.getElem?_eq_some_iff.1 h
 rw[List.take_succ_eq_append_getElem hi,List.flatten_append,e]
 simp
theorem flatI_len (I:Itr):I.flatten.length=szI I:=by
 induction I with
 | nil=>rfl
 | cons x I ih=>simp only[List.flatten_cons,List.length_append,szI,ih]
set_option maxRecDepth 100000 in
set_option maxHeartbeats 4000000 in
theorem concat_any (A:Option Addr) (n cap g:Nat) (I:Itr) (w:World) (h:RdL w w.heap.size g A n I) (hc:n≤cap) (hn:n≤1048576) (hsz:szI I≤1048576) :
  Calls Tryz.prog 111 #[.slice A n cap] w (Nods I.flatten w):=by
 generalize hS:szI I=S at hsz
 have HS:=hid hS
 clear hS
 go_enter Tryz.func111,Tryz.ntmps111
 go_wp2_with fail
 go_loopw [3,5,11] (fun q _ s wr=>∃ i k:Nat,i≤n∧s=.int .i64 i∧q=.int .i64 k∧k=szI (I.take i)∧wr=w) (fun _ _ s _=>n - (intOf s).toNat)
 case atStart=>exact⟨0,0,by omega,rfl,rfl,by simp[szI],rfl⟩
 case round =>
  obtain⟨i,k,hi,rfl,rfl,hk,hw⟩:=hrel
  have hw':=hw.symm
  clear hw
  subst hw'
  have HK:=hid hk
  clear hk
  by_cases hlt:i < n
  ·obtain⟨ad,x,A',c',rfl,had,hx,c0,hl,hr⟩:=h.at_ hlt
   have hm:=szI_more hx
   have hle:=szI_take I (i+1)
   rw[HS.out] at hle
   have hk2:k+x.length=szI (I.take (i+1)):=by rw[hm,HK.out]
   have hb2:k+x.length≤1048576:=by omega
   have HK2:=hid hk2
   clear hm hle hk2 hx hr
   generalize x.length=m at c0 hl hb2 HK2
   have hnn:¬ (k:Int)+(m:Int) < 0:=by omega
   go_wp2_with fail
   go_roundw
   case rel=>exact⟨i+1,k+m,by omega,by go_num,by go_num,HK2.out,trivial⟩
   case measure=>simp[intOf];omega
  ·have hge:n≤i:=by omega
   have e:I.take i=I:=List.take_of_length_le (by rw[h.len];exact hge)
   have hk2:=HK.out
   rw[e,HS.out] at hk2
   subst hk2
   clear e HK
   go_wp2_with fail
   refine(grow_any k hsz w).mono ?_
   rintro e w1 ⟨A1,m1,c1,rfl,ho1,hb1⟩
   have hm1:m1=0:=by have:=ho1.len;simpa using this.symm
   subst hm1
   have hr1:=h.on hb1
   go_wp2_with fail
   go_loopw [6,8,27] (fun q _ s w2=>∃(j m2 c2:Nat) (A2:Option Addr),j≤n∧s=.int .i64 j∧q=.slice A2 m2 c2∧OwnN w2 w.heap.size A2 m2 c2 (I.take j).flatten∧Below w.heap.size w w2) (fun _ _ s _=>n - (intOf s).toNat)
   case atStart=>exact⟨0,0,c1,A1,by omega,rfl,rfl,by simpa using ho1,hb1⟩
   case round =>
    obtain⟨j,m2,c2,A2,hj,rfl,rfl,ho2,hb2⟩:=hrel
    have HO2:=hid ho2
    clear ho2
    by_cases hlt:j < n
    ·obtain⟨ad,x,A',c',rfl,had,hx,c0,hl,hr⟩:=(h.on hb2).at_ hlt
     have hm:=szI_more hx
     have hle:=szI_take I (j+1)
     rw[HS.out] at hle
     have hlen:=HO2.out.len
     rw[flatI_len] at hlen
     have hfm:=flat_more hx
     have hB2:=hb2.size
     have hbm:m2+x.length≤1048576:=by omega
     have HIN:=hid hr.bd
     have HFM:=hid hfm
     have hrv:=hr.rd
     have HX:=hid hx
     have hox:=HO2.out.own
     have HBD:=hid HO2.out.bd
     clear hm hle hlen hfm hx hr HO2
     generalize hq:x.length=q at c0 hl hbm
     have HQ:=hid hq
     clear hq
     go_wp2_with (at_builtin;go_loud (refine wpList_appV elN rfl (.tmp 31) (.tmp 32) rfl rfl w.heap.size A2 m2 c2 _ rfl hox A' q c' _ _ rfl hrv (by rw[ns_length,HQ.out]) (ns_one _) (by omega) (by unfold maxLen;omega) hB2 (m2+q) rfl (ns ((I.take (j+1)).flatten)) (by rw[HFM.out,ns_append]) ?_;intro A3 c3 w3 hw3 hb3 _))
     go_roundw
     case rel =>
      refine⟨j+1,m2+q,c3,A3,by omega,by go_num,rfl,⟨?_,hw3,?_⟩,hb2.trans hb3⟩
      ·have:=OwnV.len hw3
       rw[ns_length] at this
       omega
      ·intro y hy
       rw[HFM.out] at hy
       rcases List.mem_append.1 hy with hy | hy
       ·exact HBD.out y hy
       ·exact HIN.out y hy
     case measure=>simp[intOf];omega
    ·have hge:n≤j:=by omega
     have e:I.take j=I:=List.take_of_length_le (by rw[h.len];exact hge)
     have ho2:=HO2.out
     rw[e] at ho2
     have HO3:=hid ho2
     clear ho2 HO2 e
     go_wp2_with fail
     go_ret
     exact⟨A2,m2,c2,rfl,HO3.out,hb2⟩
set_option maxRecDepth 100000 in
set_option maxHeartbeats 1600000 in
theorem times1_any (k:Nat) (A:Option Addr) (n cap:Nat) (l:List Nd) (w:World) (hk:k≤1048576) (h:RdN w w.heap.size A n l) (hc:n≤cap) (hn:n≤1048576) :
  Calls Tryz.prog 79 #[.int .i64 (k:Int),.slice A n cap] w (Nods (⟨4,0,(k:Int)⟩::l) w):=by
 have hbl:=bl1 w (.cells #[.int .i64 4,.int .i64 0,.int .i64 (k:Int)] 83)
 have hin:NdIn ⟨4,0,(k:Int)⟩:=ndIn_mk (by omega) (by omega) (by omega)
 have ql:=OwnN.lit w w.heap.size #[.int .i64 4,.int .i64 0,.int .i64 (k:Int)] [⟨4,0,(k:Int)⟩] 1 rfl rfl (Nat.le_refl _) (by omega) (by intro x hx;simp at hx;subst hx;exact hin)
 have qo:=ql.own
 have hrd:=h.on hbl
 have hrv:=hrd.rd
 have HL:=hid h.len
 have HB:=hid h.bd
 have HIN:=hid hin
 clear hin ql hrd
 go_enter Tryz.func79,Tryz.ntmps79
 go_wp2_with (at_builtin;go_loud (refine wpList_appV elN rfl (.tmp 9) (.tmp 10) rfl rfl w.heap.size _ 1 1 _ rfl qo A n cap _ _ rfl hrv (by rw[ns_length,HL.out]) (ns_one _) (by omega) (by unfold maxLen;omega) hbl.size (1+n) rfl (ns (⟨4,0,(k:Int)⟩::l)) rfl ?_;intro A3 c3 w3 hw3 hb3 _))
 go_ret
 refine⟨A3,1+n,c3,rfl,⟨by rw[List.length_cons,HL.out];omega,hw3,fun y hy=>?_⟩,hbl.trans hb3⟩
 rcases List.mem_cons.1 hy with rfl | hy
 ·exact HIN.out
 ·exact HB.out y hy
set_option maxRecDepth 100000 in
set_option maxHeartbeats 1600000 in
theorem joined_any (A:Option Addr) (n cap g:Nat) (I:Itr) (w:World) (h:RdL w w.heap.size g A n I) (hc:n≤cap) (h1:1≤n) (hn:n≤1048576) (hsz:szI I≤1048576) :
  Calls Tryz.prog 77 #[.slice A n cap] w (RdNs (joinI I) w):=by
 by_cases h1':n=1
 ·subst h1'
  obtain⟨ad,x,A',c',rfl,had,hx,c0,hl,hr⟩:=h.at_ (show 0 < 1 by omega)
  have hI:I=[x]:=by
   cases I with
   | nil=>simp at hx
   | cons y J =>
    have hl:=h.len
    simp only[List.length_cons] at hl
    have:J=[]:=List.eq_nil_of_length_eq_zero (by omega)
    subst this
    simp at hx
    rw[hx]
  subst hI
  have c0':w.cell? ad=some (.slice A' x.length c'):=c0
  have HR:=hid hr
  clear hx c0 hr h hsz
  generalize hm:x.length=m at c0' hl HR
  clear hm
  go_enter Tryz.func77,Tryz.ntmps77
  go_wp2_with fail
  go_ret
  exact⟨A',m,c',rfl,HR.out,hl,Below.refl _ _⟩
 ·rw[joinI_more (by rw[h.len];exact h1'),h.len]
  have hne:((n:Int) == 1)=false:=beq_eq_false_iff_ne.2 (by omega)
  have hbl:=bl1 w (.cells #[.int .i64 3,.int .i64 0,.int .i64 (n:Int)] 83)
  have hin:NdIn ⟨3,0,(n:Int)⟩:=ndIn_mk (by omega) (by omega) (by omega)
  have ql:=OwnN.lit w w.heap.size #[.int .i64 3,.int .i64 0,.int .i64 (n:Int)] [⟨3,0,(n:Int)⟩] 1 rfl rfl (Nat.le_refl _) (by omega) (by intro x hx;simp at hx;subst hx;exact hin)
  have hrd:=h.on hbl
  have HF:=hid (flatI_len I)
  have HIN:=hid hin
  clear hin
  go_enter Tryz.func77,Tryz.ntmps77
  go_wp2_with fail
  refine(concat_any A n cap g I _ hrd hc hn hsz).mono ?_
  rintro e w1 ⟨A1,m1,c1,rfl,ho1,hb1⟩
  have qo:=ql.own.below rfl hb1
  have hrv:=ho1.rdn.rd
  have HL:=hid ho1.len
  have HB:=hid ho1.bd
  have hm1:m1≤1048576:=by have:=ho1.len;rw[flatI_len] at this;omega
  have hb2:=hbl.trans (hb1.mono hbl.size)
  clear ho1 ql hrd
  go_wp2_with (at_builtin;go_loud (refine wpList_appV elN rfl (.tmp 14) (.tmp 16) rfl rfl w.heap.size _ 1 1 _ rfl qo A1 m1 c1 _ _ rfl hrv (by rw[ns_length,HL.out]) (ns_one _) (by omega) (by unfold maxLen;omega) hb2.size (1+m1) rfl (ns (⟨3,0,(n:Int)⟩::I.flatten)) rfl ?_;intro A3 c3 w3 hw3 hb3 _))
  go_ret
  refine⟨A3,1+m1,c3,rfl,⟨by rw[List.length_cons,HL.out];omega,hw3.rd,fun y hy=>?_⟩,hw3.cap,hb2.trans hb3⟩
  rcases List.mem_cons.1 hy with rfl | hy
  ·exact HIN.out
  ·exact HB.out y hy
def BlkL (w:World) (g:Nat) (cur:List Value):Prop:=w.heap[g]? = some (.cells cur.toArray 37 (0,0))
theorem BlkL.cell {w:World} {g:Nat} {cur:List Value} (h:BlkL w g cur) (j:Nat):w.cell? ⟨g,j,none⟩=cur[j]?:=by
 unfold World.cell?
 rw[h]
 simp
theorem BlkL.frozen {w:World} {g:Nat} {cur:List Value} (h:BlkL w g cur) (j:Nat):w.frozen? ⟨g,j,none⟩=false:=by
 unfold World.frozen?
 rw[h]
 simp
theorem BlkL.setCell {w:World} {g:Nat} {cur:List Value} (h:BlkL w g cur) (i:Nat) (v:Value):BlkL (w.setCell ⟨g,i,none⟩ v) g (cur.set i v):=by
 unfold BlkL at h ⊢
 have hlt:g < w.heap.size:=(Array.getElem?_eq_some_iff.1 h).1
 have hv:w.heap[g]=.cells cur.toArray 37 (0,0):=(Array.getElem?_eq_some_iff.1 h).2
 unfold World.setCell
 rw[Array.getElem?_eq_getElem (by simpa using hlt),Array.getElem_modify]
 simp[hv]
theorem BlkL.setRow {w:World} {g:Nat} {cur:List Value} (h:BlkL w g cur) (cs:List Value):BlkL (w.setRow g cs.toArray) g cs:=setRow_heap w g _ _ _ _ h
theorem gb_setCell (w:World) (g i:Nat) (v:Value):w.grownBy (w.setCell ⟨g,i,none⟩ v) (some g):=⟨rfl,rfl,rfl,by simp,fun k hk hne=>by
 unfold World.setCell
 simp only[Array.getElem?_modify]
 rw[if_neg (fun e=>hne (by rw[e]))]⟩
theorem gb_setRow (w:World) (g:Nat) (cs:Array Value):w.grownBy (w.setRow g cs) (some g):=⟨rfl,rfl,rfl,by simp[World.setRow],fun k hk hne=>setRow_other w g k cs (fun e=>hne (by rw[e]))⟩
theorem run_clearL (w:World) (ty:TypeId) (g o n c:Nat) (cur:List Value) (hg:BlkL w g cur) (hn:0 < n) (hfit:o+n≤cur.length) :
  (Builtin.clear_ #[29] ty #[.slice (some ⟨g,o,none⟩) n c]).run Tryz.prog w=.ok (.tuple #[]) (w.setRow g (cur.take o++List.replicate n (Value.slice none 0 0)++cur.drop (o+n)).toArray):=by
 obtain⟨i,hi,hz,hs,hby⟩:=info_parts elL.hi
 have hst:=run_storeCells_at Tryz.prog g o 37 (List.replicate n (Value.slice none 0 0)) 0 cur.toArray w hg (by simpa using hfit) (by intro v hv;rw[List.eq_of_mem_replicate hv];rfl)
 have hzc:(Builtin.zeroCells (Value.slice none 0 0).cells n).toList=List.replicate n (Value.slice none 0 0):=by
  have:(Value.slice none 0 0).cells=#[.slice none 0 0]:=rfl
  rw[this]
  simp[Builtin.zeroCells]
  apply List.ext_getElem
  ·simp
  ·intro i h1 h2
   simp[Nat.mod_one]
 simp only[Nat.add_zero,List.length_replicate] at hst
 obtain⟨m,rfl⟩:∃ m,n=m+1:=⟨n - 1,by omega⟩
 have hzv:(zeroValue 37).run Tryz.prog w=.ok (.slice none 0 0) w:=by
  simp[zeroValue,typeInfo,hi,hz]
 simp[Builtin.clear_,run_underlying elL.ht,hzv,hzc,hst]
theorem run_copyL (w:World) (ty:TypeId) (g off dLen dCap:Nat) (ad:Addr) (sLen sCap:Nat) (cur cs:List Value) (hB:BlkL w g cur) (hn:cs.length=Nat.min sLen dLen) (hsrc:∀ j v,cs[j]? = some v→w.cell? (ad.add j)=some v) (hfit:off+cs.length≤cur.length) (h1:∀ v∈cs,v.oneCell'=true) :
  (Builtin.copy_ #[29,29] ty #[.slice (some ⟨g,off,none⟩) dLen dCap,.slice (some ad) sLen sCap]).run Tryz.prog w=.ok (.int .i64 (cs.length:Nat)) (w.setRow g (cur.take off++(cs++cur.drop (off+cs.length))).toArray):=by
 obtain⟨i,hi,hz,hs,hby⟩:=info_parts elL.hi
 have h:=run_copy_row (P:=Tryz.prog) w 29 29 ty 37 g off dLen dCap ad sLen sCap cur.toArray 37 cs elL.ht (by rw[hi];simp[hs]) hB hn hsrc (by simpa using hfit) h1
 rw[List.append_assoc] at h
 exact h
def ReplL (g c m:Nat) (V:List Value) (w:World) (e:Ending) (w':World):Prop :=
 e=.returned (.slice (some ⟨g,0,none⟩) m c)∧(∃ rest,BlkL w' g (V++rest)∧V.length=m∧(V++rest).length=c)∧w.grownBy w' (some g)
set_option maxRecDepth 100000 in
set_option maxHeartbeats 4000000 in
theorem replace_end (g n c i:Nat) (cur:List Value) (av:Addr) (A:Option Addr) (m cx:Nat) (w:World) (h:BlkL w g cur) (hl:cur.length=c) (hn:n≤1048576) (hc:n≤c) (hc2:c≤1048576) (hij:i+2≤n) (hv:w.cell? av=some (.slice A m cx)) (hav:av.block≠g) :
  Calls Tryz.prog 78 #[.slice (some ⟨g,0,none⟩) n c,.int .i64 (i:Int),.int .i64 (n:Int),.slice (some av) 1 1] w (ReplL g c (i+1) (cur.take i++[.slice A m cx]) w):=by
 have hne:((i:Int) == (n:Int))=false:=beq_eq_false_iff_ne.2 (by omega)
 have hci:¬ c=i:=by omega
 have hci1:¬ c=i+1:=by omega
 have hin:i≤n:=by omega
 have hic:i≤c:=by omega
 have hil:i < cur.length:=by omega
 have hu:cur[i]? = some cur[i]:=List.getElem?_eq_getElem hil
 have d0:w.cell? ⟨g,i,none⟩=some cur[i]:=(h.cell i).trans hu
 have d1:w.frozen? ⟨g,i,none⟩=false:=h.frozen i
 have hB1:=h.setCell i (.slice A m cx)
 obtain⟨W1,hW1⟩:∃ W1,W1=w.setCell ⟨g,i,none⟩ (.slice A m cx):=⟨_,rfl⟩
 rw[← hW1] at hB1
 have hcl:∀ ty,(Builtin.clear_ #[29] ty #[.slice (some ⟨g,i+1,none⟩) (n - (i+1)) (c - (i+1))]).run Tryz.prog W1=.ok (.tuple #[]) (W1.setRow g ((cur.set i (Value.slice A m cx)).take (i+1)++List.replicate (n - (i+1)) (Value.slice none 0 0)++(cur.set i (Value.slice A m cx)).drop (i+1+(n - (i+1)))).toArray):=fun ty =>
  run_clearL W1 ty g (i+1) (n - (i+1)) (c - (i+1)) (cur.set i (Value.slice A m cx)) hB1 (by omega) (by rw[List.length_set];omega)
 have hB2:=hB1.setRow ((cur.set i (Value.slice A m cx)).take (i+1)++List.replicate (n - (i+1)) (Value.slice none 0 0)++(cur.set i (Value.slice A m cx)).drop (i+1+(n - (i+1))))
 have hG:w.grownBy (W1.setRow g ((cur.set i (Value.slice A m cx)).take (i+1)++List.replicate (n - (i+1)) (Value.slice none 0 0)++(cur.set i (Value.slice A m cx)).drop (i+1+(n - (i+1)))).toArray) (some g):=by
  rw[hW1]
  exact gb_trans (gb_setCell w g i _) (gb_setRow _ g _)
 have hlen:((cur.set i (Value.slice A m cx)).take (i+1)++List.replicate (n - (i+1)) (Value.slice none 0 0)++(cur.set i (Value.slice A m cx)).drop (i+1+(n - (i+1)))).length=c:=by
  simp
  omega
 have htk:(cur.set i (Value.slice A m cx)).take (i+1)=cur.take i++[.slice A m cx]:=by
  rw[List.take_succ_eq_append_getElem (by rw[List.length_set];omega),List.getElem_set_self,List.take_set_of_le (Nat.le_refl _)]
 rw[htk] at hB2 hG hcl hlen
 generalize (cur.set i (Value.slice A m cx)).drop (i+1+(n - (i+1)))=rest at hB2 hG hcl hlen
 generalize hR:cur.take i++[.slice A m cx]++List.replicate (n - (i+1)) (Value.slice none 0 0)++rest=R at hB2 hG hcl hlen
 have HR:=hid hR
 clear hR
 have HB2:=hid hB2
 have HG:=hid hG
 have HLN:=hid hlen
 have HW1:=hid hW1
 generalize cur[i]=u at d0
 clear hB1 hB2 hG htk hu hil h hW1 hlen
 go_enter Tryz.func78,Tryz.ntmps78
 have HS:=HW1.out
 subst HS
 go_wp2_with fail
 go_ret
 have e:=HR.out
 rw[List.append_assoc] at e
 refine⟨rfl,⟨_,by rw[e];exact HB2.out,by simp;omega,by rw[e];exact HLN.out⟩,HG.out⟩
set_option maxRecDepth 100000 in
set_option maxHeartbeats 4000000 in
theorem replace_mid (g n c i j:Nat) (cur:List Value) (av:Addr) (A:Option Addr) (m cx:Nat) (w:World) (h:BlkL w g cur) (hl:cur.length=c) (hn:n≤1048576) (hc:n≤c) (hc2:c≤1048576) (hij:i+2≤j) (hjn:j < n) (hv:w.cell? av=some (.slice A m cx)) (hcells:∀ v∈cur.take n,v.oneCell'=true) :
  Calls Tryz.prog 78 #[.slice (some ⟨g,0,none⟩) n c,.int .i64 (i:Int),.int .i64 (j:Int),.slice (some av) 1 1] w (ReplL g c (i+1+(n - j)) (cur.take i++[.slice A m cx]++(cur.take n).drop j) w):=by
 have hne:((i:Int) == (j:Int))=false:=beq_eq_false_iff_ne.2 (by omega)
 have hne2:((j:Int) == (n:Int))=false:=beq_eq_false_iff_ne.2 (by omega)
 have hci:¬ c=i:=by omega
 have hci1:¬ c=i+1:=by omega
 have hcj:¬ c=j:=by omega
 have hin:i≤n:=by omega
 have hij2:i≤j:=by omega
 have hic:i≤c:=by omega
 have hjc:j≤c:=by omega
 have hjn2:j≤n:=by omega
 obtain⟨t,ht⟩:∃ t,t=i+1+(n - j):=⟨_,rfl⟩
 obtain⟨k,hk⟩:∃ k,k=i+1:=⟨_,rfl⟩
 have hki:(i:Int)+1=(k:Int):=by omega
 rw[← ht]
 generalize hTL:cur.take i++[Value.slice A m cx]++(cur.take n).drop j=TL
 have HTL:=hid hTL
 have HT:=hid ht
 have HK:=hid hk
 have htn:t < n:=by omega
 have htc:t≤c:=by omega
 have hct:¬ c=t:=by omega
 have hit:i≤t:=by omega
 have hkt:k≤t:=by omega
 have hkj:k≤j:=by omega
 have hck:¬ c=k:=by omega
 have htot:(k:Int)+((n - j:Nat):Int)=(t:Int):=by omega
 have hkw:IntKind.i64.wrap (k:Int)=(k:Int):=IntWalk.i64_in _ (by omega)
 have htw:IntKind.i64.wrap (t:Int)=(t:Int):=IntWalk.i64_in _ (by omega)
 clear ht hk hTL hci1
 go_enter Tryz.func78,Tryz.ntmps78
 go_wp2_with fail
 go_quiet (fail)
 have hB:BlkL (w.drewN nq) g cur:=h
 have hv':(w.drewN nq).cell? av=some (.slice A m cx):=hv
 have hG0:w.grownBy (w.drewN nq) (some g):=⟨rfl,rfl,rfl,Nat.le_refl _,fun _ _ _=>rfl⟩
 generalize w.drewN nq=W at hB hv' hG0 ⊢
 have ht:=HT.out
 have hk:=HK.out
 have hil:i < cur.length:=by omega
 obtain⟨R1,hR1⟩:∃ R1,R1=cur.take i++([Value.slice A m cx]++cur.drop (i+1)):=⟨_,rfl⟩
 have hcp1:∀ ty,(Builtin.copy_ #[29,29] ty #[.slice (some ⟨g,i,none⟩) (t - i) (c - i),.slice (some av) 1 1]).run Tryz.prog W=.ok (.int .i64 1) (W.setRow g R1.toArray):=fun ty=>by
  rw[hR1]
  exact run_copyL W ty g i (t - i) (c - i) av 1 1 cur [.slice A m cx] hB (by show 1=min 1 (t - i);omega) (fun q v hq=>by
   match q with
   | 0=>simp at hq;subst hq;exact hv'
   | q+1=>simp at hq) (by simp;omega) (by simp;rfl)
 have hl1:R1.length=c:=by rw[hR1];simp;omega
 have hB1:=hB.setRow R1
 have hG1:=gb_trans hG0 (gb_setRow W g R1.toArray)
 have hget1:∀ q,i+1≤q→R1[q]? = cur[q]?:=fun q hq=>by
  rw[hR1,← List.append_assoc,List.getElem?_append_right (by simp;omega),List.getElem?_drop]
  congr 1
  simp
  omega
 have htk1:R1.take (i+1)=cur.take i++[Value.slice A m cx]:=by
  rw[hR1,← List.append_assoc,List.take_append_of_le_length (by simp;omega),List.take_of_length_le (by simp;omega)]
 generalize W.setRow g R1.toArray=W1 at hcp1 hB1 hG1
 obtain⟨cs,hcs⟩:∃ cs,cs=(cur.take n).drop j:=⟨_,rfl⟩
 have hlc:cs.length=n - j:=by rw[hcs];simp;omega
 have hone:∀ v∈cs,v.oneCell'=true:=fun v hv=>hcells v (by rw[hcs] at hv;exact List.mem_of_mem_drop hv)
 have hBd:BlkL W1.drew g R1:=hB1
 have hGd:w.grownBy W1.drew (some g):=⟨hG1.os,hG1.tape,hG1.output,hG1.size,hG1.block⟩
 obtain⟨R2,hR2⟩:∃ R2,R2=R1.take k++(cs++R1.drop (k+cs.length)):=⟨_,rfl⟩
 have hcp2:∀ ty,(Builtin.copy_ #[29,29] ty #[.slice (some ⟨g,k,none⟩) (t - k) (c - k),.slice (some ⟨g,j,none⟩) (n - j) (c - j)]).run Tryz.prog W1.drew=.ok (.int .i64 (n - j:Nat)) (W1.drew.setRow g R2.toArray):=fun ty=>by
  have:=run_copyL W1.drew ty g k (t - k) (c - k) ⟨g,j,none⟩ (n - j) (c - j) R1 cs hBd (by rw[hlc];show n - j=min (n - j) (t - k);omega) (fun q v hq=>by
   rw[Addr.add_lit,hBd.cell,hget1 _ (by omega)]
   rw[hcs,List.getElem?_drop,List.getElem?_take] at hq
   split at hq
   ·exact hq
   ·cases hq) (by omega) hone
  rw[hlc] at this
  rw[hR2,hlc]
  exact this
 have hl2:R2.length=c:=by rw[hR2];simp;omega
 have hB2:=hBd.setRow R2
 have hG2:=gb_trans hGd (gb_setRow W1.drew g R2.toArray)
 have htk2:R2.take t=cur.take i++[Value.slice A m cx]++(cur.take n).drop j:=by
  rw[hR2,hk,htk1,← hcs,← List.append_assoc,List.take_append_of_le_length (by simp;omega),List.take_of_length_le (by simp;omega)]
 generalize W1.drew.setRow g R2.toArray=W2 at hcp2 hB2 hG2
 obtain⟨R3,hR3⟩:∃ R3,R3=R2.take t++List.replicate (n - t) (Value.slice none 0 0)++R2.drop (t+(n - t)):=⟨_,rfl⟩
 have hcl:∀ ty,(Builtin.clear_ #[29] ty #[.slice (some ⟨g,t,none⟩) (n - t) (c - t)]).run Tryz.prog W2=.ok (.tuple #[]) (W2.setRow g R3.toArray):=fun ty=>by
  rw[hR3]
  exact run_clearL W2 ty g t (n - t) (c - t) R2 hB2 (by omega) (by omega)
 have hl3:R3.length=c:=by rw[hR3];simp;omega
 have hB3:=hB2.setRow R3
 have hG3:=gb_trans hG2 (gb_setRow W2 g R3.toArray)
 rw[htk2,List.append_assoc] at hR3
 have hlt:(cur.take i++[Value.slice A m cx]++(cur.take n).drop j).length=t:=by simp;omega
 rw[HTL.out] at hR3 hlt
 have HFIN:Hid (ReplL g c t TL w (.returned (.slice (some ⟨g,0,none⟩) t c)) (W2.setRow g R3.toArray)):=hid ⟨rfl,⟨List.replicate (n - t) (Value.slice none 0 0)++R2.drop (t+(n - t)),by rw[← hR3];exact hB3,hlt,by rw[← hR3];exact hl3⟩,hG3⟩
 generalize W2.setRow g R3.toArray=W3 at hcl HFIN
 clear ht hk hv h hR1 hR2 hR3 hcs hB hB1 hB2 hB3 hG0 hG1 hG2 hG3 hGd hBd hl1 hl2 hl3 hget1 htk1 htk2 hlt hone hlc hv' hcells
 go_wp2_with fail
 go_still_tail 9,(by kernel_rfl)
 change wpList _ _ _ _ _ W1.drew
 go_wp2_with fail
 go_ret
 exact HFIN.out
theorem Cells.gb {w w':World} {g:Nat} {I:Itr} {V:List Value} (h:Cells w w.heap.size g I V) (hg:w.grownBy w' (some g)):Cells w' w'.heap.size g I V :=
 h.keep hg.size fun p hp hne=>World.cell?_of_block (hg.block p.block hp (fun e=>by injection e with e;exact hne e))
theorem replace_any (B g n c i j:Nat) (I:Itr) (x:List Nd) (av:Addr) (v:Value) (w:World) (h:OwnL w B g n c I) (hv:w.cell? av=some v) (hx:ItemAt w w.heap.size g x v) (hav:av.block≠g) (hij:i+2≤j) (hjn:j≤n) (hc:c≤1048576) :
  Calls Tryz.prog 78 #[.slice (some ⟨g,0,none⟩) n c,.int .i64 (i:Int),.int .i64 (j:Int),.slice (some av) 1 1] w fun e w' =>
   e=.returned (.slice (some ⟨g,0,none⟩) (i+1+(n - j)) c)∧OwnL w' B g (i+1+(n - j)) c (I.take i++x::I.drop j)∧w.grownBy w' (some g):=by
 obtain⟨V,how,hcl⟩:=h.ex
 have hlow:=h.low
 have hlt:=h.lt
 have hnc:=h.cap
 have hln:=h.len
 rcases how.2 with ⟨hv,_⟩ | ⟨g',cap,cur,hv',hbg,hg,_,hcm,hcs,htake⟩
 ·cases hv
 ·simp only[Value.slice.injEq,Option.some.injEq,Addr.mk.injEq,and_true,true_and] at hv'
  obtain⟨rfl,rfl⟩:=hv'
  rw[Nat.mul_one] at hcs htake
  have hB:BlkL w g cur.toList:=by unfold BlkL;simpa using hg
  have hl:cur.toList.length=c:=by rw[Array.length_toList,hcs]
  obtain⟨A,m,cx,hveq⟩:∃ A m cx,v=.slice A m cx:=by
   obtain⟨A,cx,e,_⟩:=hx
   exact⟨A,_,cx,e⟩
  have hti:cur.toList.take i=V.take i:=by rw[← htake,List.take_take,Nat.min_eq_left (by omega)]
  have hfin:∀(TL:List Value) (e:Ending) (w':World),TL=V.take i++[v]++V.drop j→ReplL g c (i+1+(n - j)) TL w e w' →
    e=.returned (.slice (some ⟨g,0,none⟩) (i+1+(n - j)) c)∧OwnL w' B g (i+1+(n - j)) c (I.take i++x::I.drop j)∧w.grownBy w' (some g):=by
   rintro TL e w' rfl ⟨rfl,⟨rest,hb,hlen,hlen2⟩,hgb⟩
   refine⟨rfl,⟨by simp;omega,⟨V.take i++[v]++V.drop j,⟨by rw[Nat.mul_one];exact hlen,.inr ⟨g,c,_,rfl,hbg,hb,by rw[List.length_append] at hlen2;omega,hcm,by rw[List.size_toArray,Nat.mul_one];exact hlen2,?_⟩⟩,?_⟩,hlow,Nat.lt_of_lt_of_le hlt hgb.size,by rw[List.length_append] at hlen2;omega⟩,hgb⟩
   ·rw[Nat.mul_one]
    exact List.take_left' hlen
   ·have h1:=((hcl.take i).append (Cells.single hx)).append (hcl.drop j)
    rw[List.append_assoc,List.singleton_append] at h1
    exact h1.gb hgb
  subst hveq
  by_cases hj:j < n
  ·refine(replace_mid g n c i j cur.toList av A m cx w hB hl (by omega) hnc hc hij hj hv (by rw[htake];exact hcl.one)).mono fun e w' hR=>?_
   rw[hti,htake] at hR
   exact hfin _ e w' rfl hR
  ·obtain rfl:j=n:=by omega
   refine(replace_end g j c i cur.toList av A m cx w hB hl (by omega) hnc hc hij hv hav).mono fun e w' hR=>?_
   have hd:V.drop j=[]:=List.drop_eq_nil_of_le (by rw[hcl.1];omega)
   rw[hti] at hR
   refine hfin _ e w' (by rw[hd,List.append_nil]) ?_
   rw[Nat.sub_self]
   exact hR
end Go.Proofs.YtfddpnhaejkacaaGreat
