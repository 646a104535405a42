import Derived.Test.YtfmndmhjjbeokaaGreatDoorLow21
import Derived.Test.YtfmndmhjjbeokaaGreatDoorLow18
import Derived.Test.YtfmndmhjjbeokaaGreatDoorLow20
import Derived.Test.YtfmndmhjjbeokaaGreatDoorLow6
namespace Go.Proofs.YtfmndmhjjbeokaaGreatDoor
open Go.RowKit Tab
set_option linter.unusedSimpArgs false
set_option linter.unusedVariables false
def ofz (n D:Nat) (L:List Rn):Int:=if rt n D (ticks L)=0 then (if 96 < (tidy L).length then 3 else 0) else rt n D (ticks L)
theorem ofz_ok {n D:Nat} {L:List Rn} (h:ofz n D L=0):n≤128∧D≤16∧ticks L≤4096∧(tidy L).length≤96:=by
 unfold ofz at h
 rcases rt_cases n D (ticks L) with ⟨h0,h1,h2,h3⟩ | h0
 ·rw [if_pos h0] at h
  split at h
  ·omega
  ·exact ⟨h1,h2,h3,by omega⟩
 ·rw [if_neg h0] at h
  exact absurd h h0
def OfG (z:Int) (T:List Rn) (w:World) (e:Ending) (w':World):Prop :=
 ∃ (A:Option Addr) (m c:Nat),e=.returned (.tuple #[.slice A m c,.int .i64 z])∧m≤c∧(z=0→RdR w' w'.heap.size A m T)∧Below w.heap.size w w'
theorem ofg_of {n D:Nat} {L:List Rn} {w w':World} {e:Ending} (h0:rt n D (ticks L)=0) (h:OfR (tidy L) w e w'):OfG (ofz n D L) (tidy L) w e w':=by
 unfold OfR at h
 unfold OfG ofz
 rw [if_pos h0]
 split at h
 ·rename_i h1
  rw [if_pos h1]
  exact ⟨none,0,0,h.1,Nat.le_refl _,fun h=>by omega,h.2⟩
 ·rename_i h1
  rw [if_neg h1]
  obtain ⟨A,c,rfl,hr,hc,hb,_⟩:=h
  exact ⟨A,_,c,rfl,hc,fun _=>hr,hb⟩
theorem ofg_wrong {n D:Nat} {L:List Rn} {w w':World} {e:Ending} (h0:¬ rt n D (ticks L)=0) (h:Ans (.tuple #[.slice none 0 0,.int .i64 (rt n D (ticks L))]) w e w'):OfG (ofz n D L) (tidy L) w e w':=by
 unfold OfG ofz
 rw [if_neg h0]
 exact ⟨none,0,0,h.1,Nat.le_refl _,fun h=>absurd h h0,h.2⟩
theorem of_any (A:Option Addr) (n cap:Nat) (x:Nd) (k:F) (w:World) (h:RdN w w.heap.size A n (x::k.flat)) (hc:n≤cap) (hok:(F.cons x k .nil).ok) (hn:n≤1048576) :
  Calls Tryz.prog 125 #[.slice A n cap] w (OfG (ofz n (k.dep+1) (one x k.lvs)) (tidy (one x k.lvs)) w):=by
 have hR:=right_tree A n cap _ x k w h hc hn hok rfl
 have e:F.tick x k.len=ticks (one x k.lvs):=by rw [one_ticks,lvs_ticks]
 rcases rt_cases n (k.dep+1) (F.tick x k.len) with ⟨h0,h1,h2,h3⟩ | h0
 ·rw [h0] at hR
  rw [e] at h0
  exact (of_tree A n cap x k w h hc hok h1 h2 h3 hR).mono fun _ _ h=>ofg_of h0 h
 ·rw [e] at h0 hR
  exact (of_wrong A n cap w _ hR h0).mono fun _ _ h=>ofg_wrong h0 h
theorem rof_any (A:Option Addr) (n cap:Nat) (x:Nd) (k:F) (w:World) (h:RdN w w.heap.size A n (x::k.flat)) (hc:n≤cap) (hok:(F.cons x k .nil).ok) (hn:n≤1048576) :
  Calls Tryz.prog 51 #[.slice A n cap] w (OfG (ofz n (k.dep+1) (one x k.lvs)) (tidy (one x k.lvs)) w):=by
 have hR:=rright_tree A n cap _ x k w h hc hn hok rfl
 have e:F.tick x k.len=ticks (one x k.lvs):=by rw [one_ticks,lvs_ticks]
 rcases rt_cases n (k.dep+1) (F.tick x k.len) with ⟨h0,h1,h2,h3⟩ | h0
 ·rw [h0] at hR
  rw [e] at h0
  exact (rof_tree A n cap x k w h hc hok h1 h2 h3 hR).mono fun _ _ h=>ofg_of h0 h
 ·rw [e] at h0 hR
  exact (rof_wrong A n cap w _ hR h0).mono fun _ _ h=>ofg_wrong h0 h
theorem ofz_runs {x:Nd} {k:F} (hok:(F.cons x k .nil).ok):0 < (tidy (one x k.lvs)).length∧∀ r∈tidy (one x k.lvs),1≤r.n∧-1≤r.p∧r.p≤5:=by
 constructor
 ·have h1:=F.len_pos hok (by simp [F.cnt])
  have h2:ticks (tidy (one x k.lvs))=F.tick x k.len:=by rw [ticks_tidy,one_ticks,lvs_ticks]
  rcases Nat.eq_zero_or_pos (tidy (one x k.lvs)).length with h | h
  ·have e:=List.eq_nil_of_length_eq_zero h
   rw [e] at h2
   simp only [ticks,F.len] at h1 h2
   omega
  ·exact h
 ·intro r hr
  refine ⟨(tidy_apart _).pos r hr,?_⟩
  obtain ⟨q,hq,e⟩:=tidy_part hr
  have:=lvs_parts hok q (by simpa [F.lvs] using hq)
  rw [e] at this
  exact this
end Go.Proofs.YtfmndmhjjbeokaaGreatDoor
namespace Go.Proofs.YtfmndmhjjbeokaaGreatDoor
open Go.RowKit Tab
set_option linter.unusedSimpArgs false
set_option linter.unusedVariables false
structure TbV where
 A:Option Addr
 n:Nat
 c:Nat
 x:Nd
 k:F
def tcl (t:TbV):List Value:=[.slice t.A t.n t.c]
theorem tcl_len (t:TbV):(tcl t).length=1:=rfl
structure TbAt (w:World) (B:Nat) (t:TbV):Prop where
 rd:RdN w B t.A t.n (t.x::t.k.flat)
 cap:t.n≤t.c
 ok:(F.cons t.x t.k .nil).ok
 few:t.n≤1048576
theorem TbAt.on {w w':World} {t:TbV} (h:TbAt w w.heap.size t) (hb:Below w.heap.size w w'):TbAt w' w'.heap.size t:=⟨h.rd.on hb,h.cap,h.ok,h.few⟩
structure PtAt (w:World) (B:Nat) (x:PtV):Prop where
 per:In64 x.per
 name:x.name.size≤1048576
 few:x.pn≤1048576
 procs:ProcsAt w B x.pa x.pn
theorem PtAt.on {w w':World} {x:PtV} (h:PtAt w w.heap.size x) (hb:Below w.heap.size w w'):PtAt w' w'.heap.size x:=⟨h.per,h.name,h.few,h.procs.on hb⟩
end Go.Proofs.YtfmndmhjjbeokaaGreatDoor
namespace Go.Proofs.YtfmndmhjjbeokaaGreatDoor
open Go.RowKit Tab
set_option linter.unusedSimpArgs false
set_option linter.unusedVariables false
def FrmTP (B b:Nat) (A:Option Addr) (m c:Nat) (f:Nat→Int) (Q:Nat) (w:World) (e:Ending) (w':World):Prop :=
 ∃ (x:Nd) (k:F) (A':Option Addr) (n' c' at':Nat),e=.returned (.slice A' n' c')∧(F.cons x k .nil).ok∧OwnN w' w.heap.size A' n' c' (x::k.flat)∧ofz n' (k.dep+1) (one x k.lvs)=0∧ticks (one x k.lvs)≤90∧(tidy (one x k.lvs)).length≤24∧(∀ y∈x::k.flat,0≤y.p∧y.p < (Q:Int))∧TapeW w' B b A m c f at'∧w.grownBy w' (some b)
theorem ofz_nought {n D:Nat} {L:List Rn} (h1:n≤128) (h2:D≤16) (h3:ticks L≤4096) (h4:(tidy L).length≤96):ofz n D L=0:=by
 have e:rt n D (ticks L)=0:=by
  unfold rt
  rw [if_neg (by omega),if_neg (by omega),if_neg (by omega)]
 unfold ofz
 rw [if_pos e,if_neg (by omega)]
theorem frm_default {B b:Nat} {A:Option Addr} {m c:Nat} {f:Nat→Int} {w w6:World} {at6 p Q:Nat} (hp:p < 6) (hpq:p < Q) (T6:TapeW w6 B b A m c f at6) (G6:w.grownBy w6 (some b)) :
  FrmTP B b A m c f Q w (.returned (.slice (some ⟨w6.heap.size,0,none⟩) 3 3)) (w6.alloc (.cells #[.int .i64 3,.int .i64 0,.int .i64 2,.int .i64 1,.int .i64 (p:Int),.int .i64 3,.int .i64 2,.int .i64 0,.int .i64 2] 54)):=by
 have e1:one ⟨3,0,2⟩ (F.cons ⟨1,(p:Int),3⟩ .nil (.cons ⟨2,0,2⟩ .nil .nil)).lvs=[⟨(p:Int),3⟩,⟨-1,2⟩]:=rfl
 have ht:ticks [(⟨(p:Int),3⟩:Rn),⟨-1,2⟩]=5:=rfl
 have hl:=tidy_le [(⟨(p:Int),3⟩:Rn),⟨-1,2⟩]
 simp only [List.length_cons,List.length_nil] at hl
 refine ⟨⟨3,0,2⟩,.cons ⟨1,(p:Int),3⟩ .nil (.cons ⟨2,0,2⟩ .nil .nil),_,3,3,at6,rfl,⟨by decide,by simp [F.cnt,kn],⟨(fine_iff _ _ _).2 (by omega),by simp [F.cnt,kn],trivial,by decide,by simp [F.cnt,kn],trivial,trivial⟩,trivial⟩,?_,?_,by rw [e1,ht];omega,by rw [e1];omega,(by intro y hy;simp [F.flat] at hy;rcases hy with rfl | rfl | rfl <;> (dsimp only;omega)),T6.below (bl1 _ _) T6.lt,gb_alloc G6 _⟩
 ·refine OwnN.lit w6 w.heap.size _ _ 3 rfl rfl G6.size (by omega) fun y hy=>?_
  simp [F.flat] at hy
  rcases hy with rfl | rfl | rfl <;> exact ndIn_mk (by omega) (by omega) (by omega)
 ·rw [e1]
  exact ofz_nought (by omega) (by simp [F.dep]) (by rw [ht];omega) (by omega)
set_option maxRecDepth 100000 in
set_option maxHeartbeats 4000000 in
theorem frame_anyp (B b:Nat) (A:Option Addr) (m c:Nat) (f:Nat→Int) (hm:m≤140737488351232) (parts:Nat) (hp1:1≤parts) (hp2:parts≤6) (at_:Nat) (w:World) (T:TapeW w B b A m c f at_) :
  Calls Tryz.prog 25 #[.pointer (some ⟨b,0,none⟩),.int .i64 (parts:Int)] w (FrmTP B b A m c f parts w):=by
 have hblt:=T.lt
 have HTB:=Lib.hid (table_anyp B b A m c f hm parts hp1 hp2 4 at_ w (by omega) T)
 have hdflt:∀ (w1:World) (at1:Nat),TapeW w1 B b A m c f at1→w.grownBy w1 (some b)→True:=fun _ _ _ _=>trivial
 clear T hdflt
 go_enter Tryz.func25,Tryz.ntmps25
 go_wp2_with fail
 refine HTB.out.mono ?_
 rintro e w1 ⟨x,k,A1,n1,c1,at1,rfl,hok,ho1,hsz,hdp,hqq,T1,G1⟩
 have h5:5 ^ (4+1)=3125:=rfl
 rw [h5] at hsz
 have hn1:=ho1.len
 rw [List.length_cons,F.flat_length] at hn1
 have HOF:=Lib.hid (rof_any A1 n1 c1 x k w1 ho1.rdn ho1.cap hok (by omega))
 obtain ⟨z,hz⟩:∃ z,z=ofz n1 (k.dep+1) (one x k.lvs):=⟨_,rfl⟩
 rw [← hz] at HOF
 have hTt:ticks (tidy (one x k.lvs))=ticks (one x k.lvs):=ticks_tidy _
 obtain ⟨R,hR⟩:∃ R,R=tidy (one x k.lvs):=⟨_,rfl⟩
 rw [← hR] at HOF hTt
 have HOK:=Lib.hid hok
 have HQQ:=Lib.hid hqq
 have HO1:=Lib.hid ho1
 have HZ:=Lib.hid hz
 have HR:=Lib.hid hR
 have HTT:=Lib.hid hTt
 have HT1:=Lib.hid T1
 have HG1:=Lib.hid G1
 have HZO:Hid (z=0→ticks R≤4096):=Lib.hid fun h0=>by
  rw [HTT.out]
  rw [HZ.out] at h0
  exact (ofz_ok h0).2.2.1
 have hbl1:b < w1.heap.size:=T1.lt
 clear ho1 hok hz hR hTt T1 G1 HTB hsz hdp hn1 h5 hqq
 go_wp2_with fail
 refine HOF.out.mono ?_
 rintro e w2 ⟨A2,m2,c2,rfl,hmc2,hr2,hb2⟩
 have HR2:=Lib.hid hr2
 have T2:=HT1.out.below hb2 hbl1
 have HT2:=Lib.hid T2
 have HG2:=Lib.hid (gb_below HG1.out hb2 HG1.out.size)
 have HO2:=Lib.hid (OwnN.keep HO1.out (w':=w2) fun k _ hlt=>hb2.block k hlt)
 clear hr2 T2 HOF HT1 HG1 HO1
 have HDF:Hid (∀ (w5:World) (at5:Nat),TapeW w5 B b A m c f at5→w.grownBy w5 (some b)→Calls Tryz.prog 24 #[.pointer (some ⟨b,0,none⟩),.int .i64 (parts:Int)] w5 (Nexts B b A m c f parts w5)):=Lib.hid fun w5 at5 T5 G5=>next_any B b A m c f at5 parts w5 T5 hp1 (by omega) hm
 by_cases h0:z=0
 ·have hr:=HR2.out h0
  have htk:=HZO.out h0
  by_cases h24:24 < m2
  ·have h24':(24:Int) < (m2:Int):=by omega
   have hz0:(z != 0)=false:=by rw [h0];rfl
   subst h0
   clear hr htk
   go_wp2_with fail
   refine (HDF.out w2 _ HT2.out HG2.out).mono ?_
   rintro e w6 ⟨p,at6,hp,rfl,T6,G6⟩
   have F6:=Lib.hid (frm_default (w:=w) (p:=p) (Q:=parts) (by omega) hp T6 (gb_trans HG2.out G6))
   clear T6 G6
   go_wp2_with fail
   go_ret
   exact F6.out
  ·have h24':¬ (24:Int) < (m2:Int):=by omega
   have HTO:=Lib.hid (total_any A2 m2 c2 R w2 hr hmc2 (by omega) (by omega))
   have hlr:=hr.len
   have hz0:(z != 0)=false:=by rw [h0];rfl
   obtain ⟨t,ht⟩:∃ t,t=ticks R:=⟨_,rfl⟩
   rw [← ht] at HTO htk
   have HTE:=Lib.hid ht
   have H00:=Lib.hid h0
   clear ht hr
   subst h0
   go_wp2_with fail
   refine HTO.out.mono ?_
   rintro e w3 ⟨rfl,hb3⟩
   have hbl2:b < w2.heap.size:=HT2.out.lt
   have T3:=HT2.out.below hb3 hbl2
   have G3:=gb_below HG2.out hb3 HG2.out.size
   have HO3:=Lib.hid (OwnN.keep HO2.out (w':=w3) fun k _ hlt=>hb3.block k hlt)
   have HT3:=Lib.hid T3
   have HG3:=Lib.hid G3
   clear T3 G3 HO2
   by_cases h90:90 < t
   ·have h90':(90:Int) < (t:Int):=by omega
    go_wp2_with fail
    refine (HDF.out w3 _ HT3.out HG3.out).mono ?_
    rintro e w6 ⟨p,at6,hp,rfl,T6,G6⟩
    have F6:=Lib.hid (frm_default (w:=w) (p:=p) (Q:=parts) (by omega) hp T6 (gb_trans HG3.out G6))
    clear T6 G6
    go_wp2_with fail
    go_ret
    exact F6.out
   ·have h90':¬ (90:Int) < (t:Int):=by omega
    go_wp2_with fail
    go_ret
    refine ⟨x,k,A1,n1,c1,at1,rfl,HOK.out,HO3.out,HZ.out.symm,?_,?_,HQQ.out,HT3.out,HG3.out⟩
    ·rw [← HTT.out,← HTE.out];omega
    ·rw [← HR.out,hlr];omega
 ·have hz0:(z != 0)=true:=bne_iff_ne.2 h0
  go_wp2_with fail
  refine (HDF.out w2 _ HT2.out HG2.out).mono ?_
  rintro e w6 ⟨p,at6,hp,rfl,T6,G6⟩
  have F6:=Lib.hid (frm_default (w:=w) (p:=p) (Q:=parts) (by omega) hp T6 (gb_trans HG2.out G6))
  clear T6 G6
  go_wp2_with fail
  go_ret
  exact F6.out
theorem one_parts {Q:Int} (hQ:0≤Q) {x:Nd} {s:List Rn} (hx:x.p < Q) (hs:∀ r∈s,r.p < Q):∀ r∈one x s,r.p < Q:=fun r hr=>by
 unfold one at hr
 split at hr
 ·exact hs r hr
 ·split at hr
  ·exact hs r (reps_mem hr)
  ·simp at hr
   subst hr
   show whose x < Q
   unfold whose
   split <;> omega
theorem lvs_parts {Q:Int} (hQ:0≤Q) (k:F) (h:∀ y∈k.flat,y.p < Q):∀ r∈k.lvs,r.p < Q:=by
 induction k with
 | nil=>intro r hr;simp [F.lvs] at hr
 | cons x k r hk hr =>
  intro q hq
  have e:(F.cons x k r).flat=x::(k.flat++r.flat):=by simp [F.flat]
  rw [e] at h
  rcases List.mem_append.1 hq with hq | hq
  ·exact one_parts hQ (h x (by simp)) (hk fun y hy=>h y (by simp [hy])) q hq
  ·exact hr (fun y hy=>h y (by simp [hy])) q hq
end Go.Proofs.YtfmndmhjjbeokaaGreatDoor
