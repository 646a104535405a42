import Derived.Test.YtdkngfdnfekgfaaGreatLot20
set_option maxHeartbeats 1600000
set_option maxRecDepth 100000
set_option linter.unusedSimpArgs false
set_option linter.unusedVariables false
namespace Go.Proofs.YtdkngfdnfekgfaaGreat
open Go.RowKit Tab
theorem rof_wrong(A:Option Addr)(n cap:Nat)(w:World)(R:Int)(hR:Calls Tryz.prog 65 #[.slice A n cap] w (Ans (.int .i64 R) w))(h:¬ R=0):
  Calls Tryz.prog 40 #[.slice A n cap] w (Ans (.tuple #[.slice none 0 0,.int .i64 R]) w):=by
 have HR:=hid hR;have hne:(R != 0)=true:=bne_iff_ne.2 h;have hne2:(R == 0)=false:=beq_eq_false_iff_ne.2 h;clear hR;go_enter Tryz.func40,Tryz.ntmps40;go_wp2_with fail;refine HR.out.mono ?_;rintro e w1⟨rfl,hb1⟩;go_wp2_with fail;go_ret2;exact⟨rfl,hb1⟩
theorem rof_tree(A:Option Addr)(n cap:Nat)(x:Nd)(k:F)(w:World)(h:RdN w w.heap.size A n (x::k.flat))(hc:n≤cap)(hok:(F.cons x k .nil).ok)(hn:n≤128)(hd:k.dep+1≤16)(hl:F.tick x k.len≤4096)
  (hR:Calls Tryz.prog 65 #[.slice A n cap] w (Ans (.int .i64 0) w)) :
  Calls Tryz.prog 40 #[.slice A n cap] w (OfR (tidy (one x k.lvs)) w):=by
 have hpos:∀ r∈one x k.lvs,1≤r.n:=fun r hr=>lvs_pos hok r (by simpa [F.lvs] using hr)
 have hlen:=length_le_ticks hpos
 have htk:ticks (one x k.lvs)≤4096:=by rw[one_ticks,lvs_ticks];exact hl
 have HL:=hid fun w' (h':RdN w' w'.heap.size A n (x::k.flat))=>rLeaves_right A n cap x k w' h' hc hok hn hl
 generalize one x k.lvs=L at HL hlen htk ⊢
 have HT:=hid fun A2 c2 w2 (hr2:RdR w2 w2.heap.size A2 L.length L) (hc2:L.length≤c2)=>rtidy_any A2 L.length c2 L w2 hr2 hc2 (by omega) (by omega)
 generalize tidy L=T at HT ⊢
 generalize x::k.flat=l at h HL
 unfold MadeR at HL HT
 have HR:=hid hR
 clear hR hpos hok
 go_enter Tryz.func40,Tryz.ntmps40
 go_wp2_with fail
 refine HR.out.mono ?_
 rintro e w1⟨rfl,hb1⟩
 go_wp2_with fail
 refine(HL.out w1 (h.on hb1)).mono ?_
 rintro e w2⟨A2,c2,rfl,hr2,hc2,hb2,_⟩
 have k2:=hb1.trans (hb2.mono hb1.size)
 have HT2:=hid (HT.out A2 c2 w2 hr2 hc2)
 clear HT hr2 HL HR hb1 hb2
 generalize L.length=q at hc2 HT2 ⊢
 go_wp2_with fail
 refine HT2.out.mono ?_
 rintro e w3⟨A3,c3,rfl,hr3,hc3,hb3,hnw⟩
 have k3:=k2.trans (hb3.mono k2.size)
 have HW:=hid fun ad e=>Nat.le_trans k2.size (hnw ad e)
 clear hnw
 by_cases h96:96 < T.length
 ·have H96:=hid h96
  have h96':(96:Int) < (T.length:Int):=by omega
  generalize T.length=m at h96' hc3 hr3 ⊢
  clear HT2 h96
  go_wp2_with fail
  go_ret2
  unfold OfR
  rw[if_pos H96.out]
  exact⟨rfl,k3⟩
 ·have H96:=hid h96
  have h96':¬ (96:Int) < (T.length:Int):=by omega
  have HR3:=hid hr3
  clear hr3 HT2 h96
  generalize hm:T.length=m at h96' hc3 HR3 ⊢
  have HM:=hid hm
  clear hm
  go_wp2_with fail
  go_ret2
  unfold OfR
  rw[if_neg H96.out]
  exact⟨A3,c3,by rw[HM.out];rfl,by rw[HM.out];exact HR3.out,by rw[HM.out];exact hc3,k3,HW.out⟩
def ofz(n D:Nat)(L:List Rn):Int:=if rt n D (ticks L)=0 then (if 96 < (tidy L).length then 3 else 0) else rt n D (ticks L)
theorem ofz_ok{n D:Nat}{L:List Rn}(h:ofz n D L=0):n≤128∧D≤16∧ticks L≤4096∧(tidy L).length≤96:=by
 unfold ofz at h;rcases rt_cases n D (ticks L) with ⟨h0,h1,h2,h3⟩ | h0
 ·rw[if_pos h0] at h;split at h
  ·omega
  exact⟨h1,h2,h3,by omega⟩
 rw[if_neg h0] at h;exact absurd h h0
def OfG(z:Int)(T:List Rn)(w:World)(e:Ending)(w':World):Prop :=
 ∃(A:Option Addr) (m c:Nat),e=.returned (.tuple #[.slice A m c,.int .i64 z])∧m≤c∧(z=0→RdR w' w'.heap.size A m T)∧Below w.heap.size w w'
theorem ofg_of{n D:Nat}{L:List Rn}{w w':World}{e:Ending}(h0:rt n D (ticks L)=0)(h:OfR (tidy L) w e w'):OfG (ofz n D L) (tidy L) w e w':=by
 unfold OfR at h;unfold OfG ofz;rw[if_pos h0];split at h
 ·rename_i h1;rw[if_pos h1];exact⟨none,0,0,h.1,Nat.le_refl _,fun h=>by omega,h.2⟩
 rename_i h1;rw[if_neg h1];obtain⟨A,c,rfl,hr,hc,hb,_⟩:=h;exact⟨A,_,c,rfl,hc,fun _=>hr,hb⟩
theorem ofg_wrong{n D:Nat}{L:List Rn}{w w':World}{e:Ending}(h0:¬ rt n D (ticks L)=0)(h:Ans (.tuple #[.slice none 0 0,.int .i64 (rt n D (ticks L))]) w e w'):OfG (ofz n D L) (tidy L) w e w':=by
 unfold OfG ofz;rw[if_neg h0];exact⟨none,0,0,h.1,Nat.le_refl _,fun h=>absurd h h0,h.2⟩
theorem of_any(A:Option Addr)(n cap:Nat)(x:Nd)(k:F)(w:World)(h:RdN w w.heap.size A n (x::k.flat))(hc:n≤cap)(hok:(F.cons x k .nil).ok)(hn:n≤1048576):
  Calls Tryz.prog 100 #[.slice A n cap] w (OfG (ofz n (k.dep+1) (one x k.lvs)) (tidy (one x k.lvs)) w):=by
 have hR:=right_tree A n cap _ x k w h hc hn hok rfl;have e:F.tick x k.len=ticks (one x k.lvs):=by rw[one_ticks,lvs_ticks]
 rcases rt_cases n (k.dep+1) (F.tick x k.len) with ⟨h0,h1,h2,h3⟩ | h0
 ·rw[h0] at hR;rw[e] at h0;exact(of_tree A n cap x k w h hc hok h1 h2 h3 hR).mono fun _ _ h=>ofg_of h0 h
 rw[e] at h0 hR;exact(of_wrong A n cap w _ hR h0).mono fun _ _ h=>ofg_wrong h0 h
theorem rof_any(A:Option Addr)(n cap:Nat)(x:Nd)(k:F)(w:World)(h:RdN w w.heap.size A n (x::k.flat))(hc:n≤cap)(hok:(F.cons x k .nil).ok)(hn:n≤1048576):
  Calls Tryz.prog 40 #[.slice A n cap] w (OfG (ofz n (k.dep+1) (one x k.lvs)) (tidy (one x k.lvs)) w):=by
 have hR:=rright_tree A n cap _ x k w h hc hn hok rfl;have e:F.tick x k.len=ticks (one x k.lvs):=by rw[one_ticks,lvs_ticks]
 rcases rt_cases n (k.dep+1) (F.tick x k.len) with ⟨h0,h1,h2,h3⟩ | h0
 ·rw[h0] at hR;rw[e] at h0;exact(rof_tree A n cap x k w h hc hok h1 h2 h3 hR).mono fun _ _ h=>ofg_of h0 h
 rw[e] at h0 hR;exact(rof_wrong A n cap w _ hR h0).mono fun _ _ h=>ofg_wrong h0 h
theorem ofz_runs{x:Nd}{k:F}(hok:(F.cons x k .nil).ok):0 < (tidy (one x k.lvs)).length∧∀ r∈tidy (one x k.lvs),1≤r.n∧-1≤r.p∧r.p≤5:=by
 constructor
 ·have h1:=F.len_pos hok (by simp[F.cnt]);have h2:ticks (tidy (one x k.lvs))=F.tick x k.len:=by rw[ticks_tidy,one_ticks,lvs_ticks]
  rcases Nat.eq_zero_or_pos (tidy (one x k.lvs)).length with h | h
  ·have e:=List.eq_nil_of_length_eq_zero h;rw[e] at h2;simp only[ticks,F.len] at h1 h2;omega
  exact h
 intro r hr;refine⟨(tidy_apart _).pos r hr,?_⟩;obtain⟨q,hq,e⟩:=tidy_part hr;have:=lvs_parts hok q (by simpa [F.lvs] using hq);rw[e] at this;exact this
structure TbV where
 A:Option Addr
 n:Nat
 c:Nat
 x:Nd
 k:F
def tcl(t:TbV):List Value:=[.slice t.A t.n t.c]
theorem tcl_len(t:TbV):(tcl t).length=1:=rfl
structure TbAt(w:World)(B:Nat)(t:TbV):Prop where
 rd:RdN w B t.A t.n (t.x::t.k.flat)
 cap:t.n≤t.c
 ok:(F.cons t.x t.k .nil).ok
 few:t.n≤1048576
structure PtAt(w:World)(B:Nat)(x:PtV):Prop where
 per:In64 x.per
 name:x.name.size≤1048576
 few:x.pn≤1048576
 procs:ProcsAt w B x.pa x.pn
end Go.Proofs.YtdkngfdnfekgfaaGreat
