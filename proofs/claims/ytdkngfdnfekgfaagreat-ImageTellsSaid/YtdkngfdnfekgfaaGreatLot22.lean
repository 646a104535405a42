import Derived.Test.YtdkngfdnfekgfaaGreatLot21
set_option maxHeartbeats 4000000
set_option maxRecDepth 100000
set_option linter.unusedSimpArgs false
set_option linter.unusedVariables false
namespace Go.Proofs.YtdkngfdnfekgfaaGreat
open Go.RowKit Tab
def FrmTP(B b:Nat)(A:Option Addr)(m c:Nat)(f:Nat→Int)(Q:Nat)(w:World)(e:Ending)(w':World):Prop :=
 ∃(x:Nd) (k:F) (A':Option Addr) (n' c' at':Nat),e=.returned (.slice A' n' c')∧(F.cons x k .nil).ok∧OwnN w' w.heap.size A' n' c' (x::k.flat)∧ofz n' (k.dep+1) (one x k.lvs)=0∧ticks (one x k.lvs)≤90∧(tidy (one x k.lvs)).length≤24∧(∀ y∈x::k.flat,0≤y.p∧y.p < (Q:Int))∧TapeW w' B b A m c f at'∧w.grownBy w' (some b)
theorem ofz_nought{n D:Nat}{L:List Rn}(h1:n≤128)(h2:D≤16)(h3:ticks L≤4096)(h4:(tidy L).length≤96):ofz n D L=0:=by
 have e:rt n D (ticks L)=0:=by
  unfold rt;rw[if_neg (by omega),if_neg (by omega),if_neg (by omega)]
 unfold ofz;rw[if_pos e,if_neg (by omega)]
theorem frm_default{B b:Nat}{A:Option Addr}{m c:Nat}{f:Nat→Int}{w w6:World}{at6 p Q:Nat}(hp:p < 6)(hpq:p < Q)(T6:TapeW w6 B b A m c f at6)(G6:w.grownBy w6 (some b)):
  FrmTP B b A m c f Q w (.returned (.slice (some ⟨w6.heap.size,0,none⟩) 3 3)) (w6.alloc (.cells #[.int .i64 3,.int .i64 0,.int .i64 2,.int .i64 1,.int .i64 (p:Int),.int .i64 3,.int .i64 2,.int .i64 0,.int .i64 2] 70)):=by
 have e1:one ⟨3,0,2⟩ (F.cons ⟨1,(p:Int),3⟩ .nil (.cons ⟨2,0,2⟩ .nil .nil)).lvs=[⟨(p:Int),3⟩,⟨-1,2⟩]:=rfl;have ht:ticks [(⟨(p:Int),3⟩:Rn),⟨-1,2⟩]=5:=rfl;have hl:=tidy_le [(⟨(p:Int),3⟩:Rn),⟨-1,2⟩];simp only[List.length_cons,List.length_nil] at hl;refine⟨⟨3,0,2⟩,.cons ⟨1,(p:Int),3⟩ .nil (.cons ⟨2,0,2⟩ .nil .nil),_,3,3,at6,rfl,⟨by decide,by simp[F.cnt,kn],⟨(fine_iff _ _ _).2 (by omega),by simp[F.cnt,kn],trivial,by decide,by simp[F.cnt,kn],trivial,trivial⟩,trivial⟩,?_,?_,by rw[e1,ht];omega,by rw[e1];omega,(by intro y hy;simp[F.flat] at hy;rcases hy with rfl | rfl | rfl <;> (dsimp only;omega)),T6.below (bl1 _ _) T6.lt,gb_alloc G6 _⟩
 ·refine OwnN.lit w6 w.heap.size _ _ 3 rfl rfl G6.size (by omega) fun y hy=>?_;simp[F.flat] at hy;rcases hy with rfl | rfl | rfl <;> exact ndIn_mk (by omega) (by omega) (by omega)
 rw[e1];exact ofz_nought (by omega) (by simp[F.dep]) (by rw[ht];omega) (by omega)
theorem frame_anyp(B b:Nat)(A:Option Addr)(m c:Nat)(f:Nat→Int)(hm:m≤140737488351232)(parts:Nat)(hp1:1≤parts)(hp2:parts≤6)(at_:Nat)(w:World)(T:TapeW w B b A m c f at_):
  Calls Tryz.prog 22 #[.pointer (some ⟨b,0,none⟩),.int .i64 (parts:Int)] w (FrmTP B b A m c f parts w):=by
 have hblt:=T.lt;have HTB:=hid (table_anyp B b A m c f hm parts hp1 hp2 4 at_ w (by omega) T);have hdflt:∀(w1:World) (at1:Nat),TapeW w1 B b A m c f at1→w.grownBy w1 (some b)→True:=fun _ _ _ _=>trivial;clear T hdflt;go_enter Tryz.func22,Tryz.ntmps22;go_wp2_with fail;refine HTB.out.mono ?_;rintro e w1⟨x,k,A1,n1,c1,at1,rfl,hok,ho1,hsz,hdp,hqq,T1,G1⟩;have h5:5 ^ (4+1)=3125:=rfl;rw[h5] at hsz;have hn1:=ho1.len;rw[List.length_cons,F.flat_length] at hn1;have HOF:=hid (rof_any A1 n1 c1 x k w1 ho1.rdn ho1.cap hok (by omega));obtain⟨z,hz⟩:∃ z,z=ofz n1 (k.dep+1) (one x k.lvs):=⟨_,rfl⟩;rw[← hz] at HOF;have hTt:ticks (tidy (one x k.lvs))=ticks (one x k.lvs):=ticks_tidy _;obtain⟨R,hR⟩:∃ R,R=tidy (one x k.lvs):=⟨_,rfl⟩;rw[← hR] at HOF hTt;have HOK:=hid hok;have HQQ:=hid hqq;have HO1:=hid ho1;have HZ:=hid hz;have HR:=hid hR;have HTT:=hid hTt;have HT1:=hid T1;have HG1:=hid G1;have HZO:Hid (z=0→ticks R≤4096):=hid fun h0=>by
  rw[HTT.out];rw[HZ.out] at h0;exact(ofz_ok h0).2.2.1
 have hbl1:b < w1.heap.size:=T1.lt;clear ho1 hok hz hR hTt T1 G1 HTB hsz hdp hn1 h5 hqq;go_wp2_with fail;refine HOF.out.mono ?_;rintro e w2⟨A2,m2,c2,rfl,hmc2,hr2,hb2⟩;have HR2:=hid hr2;have T2:=HT1.out.below hb2 hbl1;have HT2:=hid T2;have HG2:=hid (gb_below HG1.out hb2 HG1.out.size);have HO2:=hid (OwnN.keep HO1.out (w':=w2) fun k _ hlt=>hb2.block k hlt);clear hr2 T2 HOF HT1 HG1 HO1;have HDF:Hid (∀(w5:World) (at5:Nat),TapeW w5 B b A m c f at5→w.grownBy w5 (some b)→Calls Tryz.prog 21 #[.pointer (some ⟨b,0,none⟩),.int .i64 (parts:Int)] w5 (Nexts B b A m c f parts w5)):=hid fun w5 at5 T5 G5=>next_any B b A m c f at5 parts w5 T5 hp1 (by omega) hm;by_cases h0:z=0
 ·have hr:=HR2.out h0;have htk:=HZO.out h0;by_cases h24:24 < m2
  ·have h24':(24:Int) < (m2:Int):=by omega
   have hz0:(z != 0)=false:=by rw[h0];rfl
   subst h0;clear hr htk;go_wp2_with fail;refine(HDF.out w2 _ HT2.out HG2.out).mono ?_;rintro e w6⟨p,at6,hp,rfl,T6,G6⟩;have F6:=hid (frm_default (w:=w) (p:=p) (Q:=parts) (by omega) hp T6 (gb_trans HG2.out G6));clear T6 G6;go_wp2_with fail;go_ret;exact F6.out
  have h24':¬ (24:Int) < (m2:Int):=by omega
  have HTO:=hid (total_any A2 m2 c2 R w2 hr hmc2 (by omega) (by omega));have hlr:=hr.len;have hz0:(z != 0)=false:=by rw[h0];rfl
  obtain⟨t,ht⟩:∃ t,t=ticks R:=⟨_,rfl⟩;rw[← ht] at HTO htk;have HTE:=hid ht;have H00:=hid h0;clear ht hr;subst h0;go_wp2_with fail;refine HTO.out.mono ?_;rintro e w3⟨rfl,hb3⟩;have hbl2:b < w2.heap.size:=HT2.out.lt;have T3:=HT2.out.below hb3 hbl2;have G3:=gb_below HG2.out hb3 HG2.out.size;have HO3:=hid (OwnN.keep HO2.out (w':=w3) fun k _ hlt=>hb3.block k hlt);have HT3:=hid T3;have HG3:=hid G3;clear T3 G3 HO2;by_cases h90:90 < t
  ·have h90':(90:Int) < (t:Int):=by omega
   go_wp2_with fail;refine(HDF.out w3 _ HT3.out HG3.out).mono ?_;rintro e w6⟨p,at6,hp,rfl,T6,G6⟩;have F6:=hid (frm_default (w:=w) (p:=p) (Q:=parts) (by omega) hp T6 (gb_trans HG3.out G6));clear T6 G6;go_wp2_with fail;go_ret;exact F6.out
  have h90':¬ (90:Int) < (t:Int):=by omega
  go_wp2_with fail;go_ret;refine⟨x,k,A1,n1,c1,at1,rfl,HOK.out,HO3.out,HZ.out.symm,?_,?_,HQQ.out,HT3.out,HG3.out⟩
  ·rw[← HTT.out,← HTE.out];omega
  rw[← HR.out,hlr];omega
 have hz0:(z != 0)=true:=bne_iff_ne.2 h0;go_wp2_with fail;refine(HDF.out w2 _ HT2.out HG2.out).mono ?_;rintro e w6⟨p,at6,hp,rfl,T6,G6⟩;have F6:=hid (frm_default (w:=w) (p:=p) (Q:=parts) (by omega) hp T6 (gb_trans HG2.out G6));clear T6 G6;go_wp2_with fail;go_ret;exact F6.out
theorem one_parts{Q:Int}(hQ:0≤Q){x:Nd}{s:List Rn}(hx:x.p < Q)(hs:∀ r∈s,r.p < Q):∀ r∈one x s,r.p < Q:=fun r hr=>by
 unfold one at hr
 split at hr
 ·exact hs r hr
 ·split at hr
  ·exact hs r (reps_mem hr)
  ·simp at hr
   subst hr
   show whose x < Q
   unfold whose
   split <;> omega
theorem lvs_parts{Q:Int}(hQ:0≤Q)(k:F)(h:∀ y∈k.flat,y.p < Q):∀ r∈k.lvs,r.p < Q:=by
 induction k with
 | nil=>intro r hr;simp[F.lvs] at hr
 | cons x k r hk hr =>
  intro q hq;have e:(F.cons x k r).flat=x::(k.flat++r.flat):=by simp[F.flat]
  rw[e] at h;rcases List.mem_append.1 hq with hq | hq
  ·exact one_parts hQ (h x (by simp)) (hk fun y hy=>h y (by simp[hy])) q hq
  exact hr (fun y hy=>h y (by simp[hy])) q hq
structure Only(p:Nat→Prop)(w w':World):Prop where
 os:w'.os=w.os
 tape:w'.tape=w.tape
 output:w'.output=w.output
 size:w.heap.size≤w'.heap.size
 block:∀ k,k < w.heap.size→¬ p k→w'.heap[k]? = w.heap[k]?
section
variable {p:Nat→Prop} {w w' w2:World}
theorem Only.refl(p:Nat→Prop)(w:World):Only p w w:=⟨rfl,rfl,rfl,Nat.le_refl _,fun _ _ _=>rfl⟩
theorem Only.trans(h:Only p w w')(k:Only p w' w2):Only p w w2 :=
 ⟨k.os.trans h.os,k.tape.trans h.tape,k.output.trans h.output,Nat.le_trans h.size k.size,fun i hi hn=>(k.block i (Nat.lt_of_lt_of_le hi h.size) hn).trans (h.block i hi hn)⟩
theorem Only.bel(h:Below w.heap.size w w'):Only p w w':=⟨h.os,h.tape,h.output,h.size,fun k hk _=>h.block k hk⟩
theorem Only.gb{b:Nat}(h:w.grownBy w' (some b))(hb:p b):Only p w w':=⟨h.os,h.tape,h.output,h.size,fun k hk hn=>h.block k hk fun e=>by injection e with e;subst e;exact hn hb⟩
theorem Only.set(w:World)(a:Addr)(v:Value)(hb:p a.block):Only p w (w.setCell a v) :=
 ⟨rfl,rfl,rfl,by simp,fun k hk hn=>Below.heap_setCell w a v k fun e=>by subst e;exact hn hb⟩
theorem Only.rdv{B:Nat}{A:Option Addr}{l:List Value}(h:Only p w w')(hr:RdV w w.heap.size A l)(hA:∀ b,obk A=some b→¬ p b):RdV w' w'.heap.size A l:=fun hl=>by
 obtain⟨ad,e,hb,hc⟩:=hr hl
 refine⟨ad,e,Nat.lt_of_lt_of_le hb h.size,fun j v hj=>?_⟩
 rw[World.cell?_of_block (h.block (ad.add j).block (by rw[add_block];exact hb) (by rw[add_block];exact hA _ (by rw[e];rfl)))]
 exact hc j v hj
end
theorem elRR:Elt 88 84 1 24 (.slice none 0 0):=⟨Tryz.underlying88,by kernel_rfl,rfl,by omega⟩
structure Rw where
 a:Option Addr
 n:Nat
 c:Nat
 l:List Rn
def Rw.v(r:Rw):Value:=.slice r.a r.n r.c
theorem rwv_one(T:List Rw):∀ u∈T.map Rw.v,u.oneCell'=true:=by
 intro u hu;obtain⟨s,_,rfl⟩:=List.mem_map.1 hu;rfl
structure RwAt(w:World)(r:Rw):Prop where
 rd:RdR w w.heap.size r.a r.n r.l
 cap:r.n≤r.c
 few:r.n≤96
 tk:ticks r.l≤90
theorem RwAt.on{w w':World}{r:Rw}(h:RwAt w r)(hb:Below w.heap.size w w'):RwAt w' r:=⟨h.rd.on hb,h.cap,h.few,h.tk⟩
theorem RwAt.only{p:Nat→Prop}{w w':World}{r:Rw}(h:RwAt w r)(ho:Only p w w')(hA:∀ b,obk r.a=some b→¬ p b):RwAt w' r:=⟨⟨h.rd.len,ho.rdv (B:=0) h.rd.rd hA⟩,h.cap,h.few,h.tk⟩
def Frame(t:TbV):Prop:=ofz t.n (t.k.dep+1) (one t.x t.k.lvs)=0∧ticks (one t.x t.k.lvs)≤90
def rowF(t:TbV):List Rn:=tidy (one t.x t.k.lvs)
theorem rof_new(t:TbV)(w:World)(h:TbAt w w.heap.size t)(hf:Frame t):
  Calls Tryz.prog 40 #[.slice t.A t.n t.c] w fun e w'=>∃ r:Rw,e=.returned (.tuple #[r.v,.int .i64 0])∧RwAt w' r∧Below w.heap.size w w'∧(∀ b,obk r.a=some b→w.heap.size≤b∧b < w'.heap.size)∧r.l=rowF t:=by
 obtain⟨hz,ht⟩:=hf;have hk:=ofz_ok hz;have hR:=rright_tree t.A t.n t.c _ t.x t.k w h.rd h.cap h.few h.ok rfl;have e:F.tick t.x t.k.len=ticks (one t.x t.k.lvs):=by rw[one_ticks,lvs_ticks]
 have h0:rt t.n (t.k.dep+1) (F.tick t.x t.k.len)=0:=by
  rw[e];unfold rt;rw[if_neg (by omega),if_neg (by omega),if_neg (by omega)]
 rw[h0] at hR;refine(rof_tree t.A t.n t.c t.x t.k w h.rd h.cap h.ok hk.1 hk.2.1 (by rw[e];exact hk.2.2.1) hR).mono fun e w' ho=>?_;unfold OfR at ho;rw[if_neg (by omega)] at ho;obtain⟨A,c,rfl,hr,hc,hb,hn⟩:=ho;refine⟨⟨A,_,c,tidy (one t.x t.k.lvs)⟩,rfl,⟨hr,hc,hk.2.2.2,by rw[ticks_tidy];exact ht⟩,hb,fun b hb=>?_,rfl⟩;cases A with
 | none=>cases hb
 | some ad =>
  injection hb with hb;have hb:ad.block=b:=hb;have h1:=hn ad rfl;obtain⟨ad',_,e1,h2,_⟩:=hr.at_ (i:=0) (ofz_runs h.ok).1;injection e1 with e1;subst e1;omega
structure Asked(p:Nat→Prop)(w:World)(A3:Option Addr)(n3:Nat)(P:List PtV)(T:List TbV):Prop where
 t:RdB tcl w w.heap.size A3 n3 T
 tt:∀ t∈T,TbAt w w.heap.size t∧Frame t
 pt:∀ x∈P,PtAt w w.heap.size x
 s3:∀ b,obk A3=some b→¬ p b
 st:∀ t∈T,∀ b,obk t.A=some b→¬ p b
 sp:∀ x∈P,∀ b,obk x.pa=some b→¬ p b
theorem ProcsAt.only{p:Nat→Prop}{w w':World}{A:Option Addr}{n:Nat}(h:ProcsAt w w.heap.size A n)(ho:Only p w w')(hA:∀ b,obk A=some b→¬ p b):ProcsAt w' w'.heap.size A n:=fun i hi=>by
 obtain⟨ad,e,q,h1,hB,h2,h3,h4⟩:=h i hi
 have hk:=ho.block ad.block hB (hA _ (by rw[h1];rfl))
 refine⟨ad,e,q,h1,Nat.lt_of_lt_of_le hB ho.size,?_,?_,h4⟩
 ·exact(World.cell?_of_block (w:=w) (w':=w') (a:=ad.add (i*2)) (by rw[add_block];exact hk)).trans h2
 ·exact(World.cell?_of_block (w:=w) (w':=w') (a:=⟨(ad.add (i*2)).block,(ad.add (i*2)).off+1,none⟩) (by show w'.heap[(ad.add (i*2)).block]? = w.heap[(ad.add (i*2)).block]?;rw[add_block];exact hk)).trans h3
theorem Asked.only{p:Nat→Prop}{w w':World}{A3:Option Addr}{n3:Nat}{P:List PtV}{T:List TbV}(h:Asked p w A3 n3 P T)(ho:Only p w w'):Asked p w' A3 n3 P T :=
 ⟨⟨h.t.len,ho.rdv (B:=0) h.t.rd h.s3⟩,fun t ht=>⟨⟨⟨(h.tt t ht).1.rd.len,ho.rdv (B:=0) (h.tt t ht).1.rd.rd (h.st t ht),(h.tt t ht).1.rd.bd⟩,(h.tt t ht).1.cap,(h.tt t ht).1.ok,(h.tt t ht).1.few⟩,(h.tt t ht).2⟩,
  fun x hx=>⟨(h.pt x hx).per,(h.pt x hx).name,(h.pt x hx).few,(h.pt x hx).procs.only ho (h.sp x hx)⟩,h.s3,h.st,h.sp⟩
theorem OwnB.cell{α:Type}{E s:Nat}{f:α→List Value}{w:World}{B g n c:Nat}{l:List α}(h:OwnB E s f w B (some ⟨g,0,none⟩) n c l)(hf:∀ x,(f x).length=s){i k:Nat}{x:α}{v:Value}(hx:l[i]? = some x)(hk:k < s)(hv:(f x)[k]? = some v):w.cell? ⟨g,i*s+k,none⟩=some v∧w.frozen? ⟨g,i*s+k,none⟩=false:=by
 have hi:i < l.length:=(List.getElem?_eq_some_iff.1 hx).1;have h1:(i+1)*s≤l.length*s:=Nat.mul_le_mul_right _ hi;rw[Nat.succ_mul] at h1;refine⟨?_,World.ownsRow.frozenAt h.own _⟩;rw[World.ownsRow.cellAt h.own (i*s+k) (by rw[← h.len];omega),flat_get hf l i k x hx hk];exact hv
theorem OwnB.put{α:Type}{E s:Nat}{f:α→List Value}{w:World}{B g n c:Nat}{l:List α}(h:OwnB E s f w B (some ⟨g,0,none⟩) n c l)(hf:∀ x,(f x).length=s){i k:Nat}{x y:α}{v:Value}(hx:l[i]? = some x)(hk:k < s)(hy:f y=(f x).set k v):
  OwnB E s f (w.setCell ⟨g,i*s+k,none⟩ v) B (some ⟨g,0,none⟩) n c (l.set i y):=by
 have hi:i < l.length:=(List.getElem?_eq_some_iff.1 hx).1;have h1:(i+1)*s≤l.length*s:=Nat.mul_le_mul_right _ hi;rw[Nat.succ_mul] at h1;refine⟨by rw[List.length_set];exact h.len,?_⟩;rw[flat_set hf l i k x y v hx hk hy];refine h.own.set (i*s+k) v ?_;rw[flat_len hf];omega
theorem OwnB.gb{α:Type}{E s:Nat}{f:α→List Value}{w w':World}{B b n c:Nat}{A:Option Addr}{l:List α}(h:OwnB E s f w B A n c l)(hg:w.grownBy w' (some b))(hb:b < B):OwnB E s f w' B A n c l:=⟨h.len,h.own.gb hg hb⟩
def coreP(x:PtV):PtV:={ x with bud:=0,per:=0 }
def coreC(x:ChV):ChV:={ x with late:=0 }
structure AskS(p:Nat→Prop)(B b:Nat)(A:Option Addr)(m c:Nat)(f:Nat→Int)(A1 A2:Option Addr)(n1 n2 c1 c2 B1:Nat)(P0:List PtV)(C0:List ChV)(W w:World)(P:List PtV)(C:List ChV):Prop where
 pp:OwnB 57 11 pcl w B1 A1 n1 c1 P
 ch:OwnB 63 6 cc w B1 A2 n2 c2 C
 pm:P.map coreP=P0.map coreP
 cm:C.map coreC=C0.map coreC
 tp:∃ at_,TapeW w B b A m c f at_
 on:Only p W w
section
variable {p:Nat→Prop} {B b:Nat} {A:Option Addr} {m c:Nat} {f:Nat→Int} {A1 A2:Option Addr} {n1 n2 c1 c2 B1:Nat} {P0:List PtV} {C0:List ChV} {W w w':World} {P:List PtV} {C:List ChV}
theorem AskS.bel(h:AskS p B b A m c f A1 A2 n1 n2 c1 c2 B1 P0 C0 W w P C)(hb:Below w.heap.size w w'):AskS p B b A m c f A1 A2 n1 n2 c1 c2 B1 P0 C0 W w' P C:=by
 obtain⟨at_,T⟩:=h.tp;exact⟨h.pp.below hb,h.ch.below hb,h.pm,h.cm,⟨at_,T.below hb T.lt⟩,h.on.trans (Only.bel hb)⟩
theorem AskS.next(h:AskS p B b A m c f A1 A2 n1 n2 c1 c2 B1 P0 C0 W w P C){at_:Nat}(T:TapeW w' B b A m c f at_)(hg:w.grownBy w' (some b))(hb:b < B1)(hp:p b):AskS p B b A m c f A1 A2 n1 n2 c1 c2 B1 P0 C0 W w' P C :=
 ⟨h.pp.gb hg hb,h.ch.gb hg hb,h.pm,h.cm,⟨at_,T⟩,h.on.trans (Only.gb hg hp)⟩
theorem TapeW.other{at_:Nat}(h:TapeW w B b A m c f at_)(q:Addr)(v:Value)(hq:B1≤q.block)(hb:b < B1):TapeW (w.setCell q v) B b A m c f at_ :=
 h.below (Bs:=B1) ((Below.refl _ _).setCell hq v) hb
theorem map_set_same{α β:Type}{f:α→β}{l:List α}{i:Nat}{x y:α}(hx:l[i]? = some x)(h:f y=f x):(l.set i y).map f=l.map f:=by
 obtain⟨hi,e⟩:=List.getElem?_eq_some_iff.1 hx;apply List.ext_getElem?;intro j;rw[List.getElem?_map,List.getElem?_map,List.getElem?_set];by_cases hj:i=j
 ·subst hj;rw[if_pos rfl,if_pos hi,hx];simp[h]
 rw[if_neg hj]
theorem AskS.late{g:Nat}(h:AskS p B b A m c f A1 (some ⟨g,0,none⟩) n1 n2 c1 c2 B1 P0 C0 W w P C){i:Nat}{x:ChV}(hx:C[i]? = some x)(z:Int)(hb:b < B1)(hp:p g)(h12:obk A1≠some g):
  AskS p B b A m c f A1 (some ⟨g,0,none⟩) n1 n2 c1 c2 B1 P0 C0 W (w.setCell ⟨g,i*6+5,none⟩ (.int .i64 z)) P (C.set i { x with late:=z }):=by
 obtain⟨at_,T⟩:=h.tp;have hBg:B1≤g:=(h.ch.own.obk_ge rfl).1;exact⟨h.pp.other _ _ fun g' e=>fun e2=>h12 (by rw[e];exact congrArg some e2),h.ch.put cc_len hx (by omega) (cc_late x z),h.pm,(map_set_same hx (show coreC { x with late:=z }=coreC x from rfl)).trans h.cm,⟨at_,T.other ⟨g,i*6+5,none⟩ _ hBg hb⟩,h.on.trans (Only.set _ _ _ hp)⟩
theorem AskS.ask{g:Nat}(h:AskS p B b A m c f (some ⟨g,0,none⟩) A2 n1 n2 c1 c2 B1 P0 C0 W w P C){i:Nat}{x:PtV}(hx:P[i]? = some x)(y z:Int)(hb:b < B1)(hp:p g)(h12:obk A2≠some g):
  AskS p B b A m c f (some ⟨g,0,none⟩) A2 n1 n2 c1 c2 B1 P0 C0 W ((w.setCell ⟨g,i*11+1,none⟩ (.int .i64 y)).setCell ⟨g,i*11+2,none⟩ (.int .i64 z)) (P.set i { x with bud:=y,per:=z }) C:=by
 obtain⟨at_,T⟩:=h.tp;have hBg:B1≤g:=(h.pp.own.obk_ge rfl).1;have h1:=h.pp.put pcl_len hx (by omega) (pcl_bud x y);have hx1:(P.set i { x with bud:=y })[i]? = some { x with bud:=y }:=List.getElem?_set_self (List.getElem?_eq_some_iff.1 hx).1;have h2:=h1.put pcl_len hx1 (by omega) (pcl_per { x with bud:=y } z);rw[List.set_set] at h2;exact⟨h2,(h.ch.other _ _ fun g' e=>fun e2=>h12 (by rw[e];exact congrArg some e2)).other _ _ fun g' e=>fun e2=>h12 (by rw[e];exact congrArg some e2),(map_set_same hx (show coreP { x with bud:=y,per:=z }=coreP x from rfl)).trans h.pm,h.cm,
  ⟨at_,(T.other ⟨g,i*11+1,none⟩ _ hBg hb).other ⟨g,i*11+2,none⟩ _ hBg hb⟩,(h.on.trans (Only.set _ _ _ hp)).trans (Only.set _ _ _ hp)⟩
end
theorem loadVar_runC{w:World}{g:Nat}{v0 v1 v2:Value}(h0:w.cell? ⟨g,0,none⟩=some v0)(h1:w.cell? ⟨g,1,none⟩=some v1)(h2:w.cell? ⟨g,2,none⟩=some v2):(loadVar 26 ⟨g,0,none⟩).run Tryz.prog w=.ok (.agg #[v0,v1,v2]) w:=by
 have e:(isAgg 26).run Tryz.prog w=.ok true w:=by go_simp
 have e2:(sizeOf 26).run Tryz.prog w=.ok 3 w:=by go_simp
 unfold loadVar;rw[Sem.run_bind,e,Result.andThen_ok];simp only[if_true];rw[Sem.run_bind,e2,Result.andThen_ok,Sem.run_bind];have:=run_loadCells_list (P:=Tryz.prog) (w:=w) ⟨g,0,none⟩ [v0,v1,v2] (fun j v hj=>by
  match j with
  | 0=>simp at hj;subst hj;simpa [Addr.add] using h0
  | 1=>simp at hj;subst hj;simpa [Addr.add] using h1
  | 2=>simp at hj;subst hj;simpa [Addr.add] using h2
  | j+3=>simp at hj)
 simp only[List.length_cons,List.length_nil] at this;rw[this,Result.andThen_ok];rfl
theorem results_runC{fn:Func}{p:Tmp}(h:fn.results=#[.cell p 26]){tmps:Array Value}{w:World}{g:Nat}{v0 v1 v2:Value}(hp:tmps.getD p undef=.pointer (some ⟨g,0,none⟩))(h0:w.cell? ⟨g,0,none⟩=some v0)(h1:w.cell? ⟨g,1,none⟩=some v1)(h2:w.cell? ⟨g,2,none⟩=some v2):
  (results fn tmps).run Tryz.prog w=.ok (.agg #[v0,v1,v2]) w:=by
 have e:(asAddr (.pointer (some ⟨g,0,none⟩))).run Tryz.prog w=.ok ⟨g,0,none⟩ w:=rfl;rw[results_cell1 h,hp,e,Result.andThen_ok,loadVar_runC h0 h1 h2]
theorem Only.new{p:Nat→Prop}{w w':World}(h:Only p w w')(a:Addr)(v:Value)(ha:w.heap.size≤a.block):Only p w (w'.setCell a v) :=
 ⟨h.os,h.tape,h.output,by have:=h.size;simpa using this,fun k hk hn=>(Below.heap_setCell w' a v k (by omega)).trans (h.block k hk hn)⟩
def set3(w:World)(g:Nat)(v0 v1 v2:Value):World:=((w.setCell ⟨g,0,none⟩ v0).setCell ⟨g,1,none⟩ v1).setCell ⟨g,2,none⟩ v2
theorem set3_cells{w:World}{g:Nat}{f:Nat→Value}(h:Vec w g 3 f)(v0 v1 v2:Value):(set3 w g v0 v1 v2).cell? ⟨g,0,none⟩=some v0∧(set3 w g v0 v1 v2).cell? ⟨g,1,none⟩=some v1∧(set3 w g v0 v1 v2).cell? ⟨g,2,none⟩=some v2:=by
 have h3:=((h.set 0 v0).set 1 v1).set 2 v2;refine⟨(h3.cell 0 (by omega)).trans ?_,(h3.cell 1 (by omega)).trans ?_,(h3.cell 2 (by omega)).trans ?_⟩ <;> rfl
theorem AskS.res{p:Nat→Prop}{B b:Nat}{A:Option Addr}{m c:Nat}{f:Nat→Int}{A1 A2:Option Addr}{n1 n2 c1 c2 B1:Nat}{P0:List PtV}{C0:List ChV}{w0 W w:World}{P:List PtV}{C:List ChV}
  (h:AskS p B b A m c f A1 A2 n1 n2 c1 c2 B1 P0 C0 W w P C) (h0:Only p w0 W) (g:Nat) (v0 v1 v2:Value) (hg:w0.heap.size≤g) (hp:∀ k,p k→k < w0.heap.size) (hb:p b) (h1:∀ k,obk A1=some k→p k) (h2:∀ k,obk A2=some k→p k) :
  RdB pcl (set3 w g v0 v1 v2) (set3 w g v0 v1 v2).heap.size A1 n1 P∧RdB cc (set3 w g v0 v1 v2) (set3 w g v0 v1 v2).heap.size A2 n2 C∧(∃ at_,TapeW (set3 w g v0 v1 v2) B b A m c f at_)∧Only p w0 (set3 w g v0 v1 v2)∧OwnB 57 11 pcl (set3 w g v0 v1 v2) B1 A1 n1 c1 P∧OwnB 63 6 cc (set3 w g v0 v1 v2) B1 A2 n2 c2 C:=by
 have hs:(set3 w g v0 v1 v2).heap.size=w.heap.size:=by simp[set3]
 have n1':∀ k,obk A1=some k→k≠g:=fun k e=>by have:=hp k (h1 k e);omega
 have n2':∀ k,obk A2=some k→k≠g:=fun k e=>by have:=hp k (h2 k e);omega
 obtain⟨at_,T⟩:=h.tp
 have hbl:Below w0.heap.size w (set3 w g v0 v1 v2):=(((Below.refl _ _).setCell (p:=⟨g,0,none⟩) hg v0).setCell (p:=⟨g,1,none⟩) hg v1).setCell (p:=⟨g,2,none⟩) hg v2
 refine⟨?_,?_,⟨at_,T.below hbl (hp b hb)⟩,(((h0.trans h.on).new ⟨g,0,none⟩ v0 hg).new ⟨g,1,none⟩ v1 hg).new ⟨g,2,none⟩ v2 hg,?_,?_⟩
 ·rw[hs]
  exact((h.pp.rdb.other ⟨g,0,none⟩ v0 n1').other ⟨g,1,none⟩ v1 n1').other ⟨g,2,none⟩ v2 n1'
 ·rw[hs]
  exact((h.ch.rdb.other ⟨g,0,none⟩ v0 n2').other ⟨g,1,none⟩ v1 n2').other ⟨g,2,none⟩ v2 n2'
 ·have k1:∀ g':Nat,A1=some ⟨g',0,none⟩→g'≠g:=fun g' e=>n1' g' (by rw[e];rfl)
  exact((h.pp.other ⟨g,0,none⟩ v0 k1).other ⟨g,1,none⟩ v1 k1).other ⟨g,2,none⟩ v2 k1
 ·have k2:∀ g':Nat,A2=some ⟨g',0,none⟩→g'≠g:=fun g' e=>n2' g' (by rw[e];rfl)
  exact((h.ch.other ⟨g,0,none⟩ v0 k2).other ⟨g,1,none⟩ v1 k2).other ⟨g,2,none⟩ v2 k2
def box3(v0 v1 v2:Value)(j:Nat):Value:=if j=0 then v0 else if j=1 then v1 else v2
structure CfgS(B b:Nat)(A:Option Addr)(m c:Nat)(f:Nat→Int)(w:World)(gr gc BB:Nat)(A1 A2 A3:Option Addr)(n1 n2 n3 c1 c2 c3:Nat)(P:List PtV)(C:List ChV)(T:List TbV)(wr:World):Prop where
 tp:∃ at_,TapeW wr B b A m c f at_
 gb:w.grownBy wr (some b)
 cf:Vec wr gc 3 (box3 (.slice A1 n1 c1) (.slice A2 n2 c2) (.slice A3 n3 c3))
 rs:Vec wr gr 3 (box3 (.slice none 0 0) (.slice none 0 0) (.slice none 0 0))
 pp:OwnB 57 11 pcl wr BB A1 n1 c1 P
 ch:OwnB 63 6 cc wr BB A2 n2 c2 C
 tb:OwnB 64 1 tcl wr BB A3 n3 c3 T
 pt:∀ x∈P,PtAt wr wr.heap.size x∧∀ k,obk x.pa=some k→BB≤k∧k < wr.heap.size∧obk A1≠some k∧obk A2≠some k∧obk A3≠some k
 tt:∀ t∈T,(TbAt wr wr.heap.size t∧Frame t)∧∀ k,obk t.A=some k→BB≤k∧k < wr.heap.size∧obk A1≠some k∧obk A2≠some k∧obk A3≠some k
 d12:∀ k,obk A1=some k→obk A2≠some k
 d13:∀ k,obk A1=some k→obk A3≠some k
 d23:∀ k,obk A2=some k→obk A3≠some k
structure CfgB(b:Nat)(w:World)(gr gc BB:Nat):Prop where
 br:b < gr
 wr:gr=w.heap.size
 rc:gc=gr+1
 cB:BB=gc+1
section
variable {B b:Nat} {A:Option Addr} {m c:Nat} {f:Nat→Int} {w:World} {gr gc BB:Nat} {A1 A2 A3:Option Addr} {n1 n2 n3 c1 c2 c3:Nat} {P:List PtV} {C:List ChV} {T:List TbV} {wr w':World}
theorem PtAt.only{p:Nat→Prop}{x:PtV}(h:PtAt wr wr.heap.size x)(ho:Only p wr w')(hA:∀ b,obk x.pa=some b→¬ p b):PtAt w' w'.heap.size x:=⟨h.per,h.name,h.few,h.procs.only ho hA⟩
theorem TbAt.only{p:Nat→Prop}{t:TbV}(h:TbAt wr wr.heap.size t)(ho:Only p wr w')(hA:∀ b,obk t.A=some b→¬ p b):TbAt w' w'.heap.size t:=⟨⟨h.rd.len,ho.rdv (B:=0) h.rd.rd hA,h.rd.bd⟩,h.cap,h.ok,h.few⟩
theorem CfgS.only(h:CfgS B b A m c f w gr gc BB A1 A2 A3 n1 n2 n3 c1 c2 c3 P C T wr)(hB:CfgB b w gr gc BB)(ho:Only (fun k=>k=b) wr w')(ht:∃ at_,TapeW w' B b A m c f at_):CfgS B b A m c f w gr gc BB A1 A2 A3 n1 n2 n3 c1 c2 c3 P C T w':=by
 have h1:=hB.br;have h2:=hB.wr;have h3:=hB.rc;have h4:=hB.cB;have hs:=h.gb.size;refine⟨ht,⟨ho.os.trans h.gb.os,ho.tape.trans h.gb.tape,ho.output.trans h.gb.output,Nat.le_trans h.gb.size ho.size,fun k hk hne=>(ho.block k (by omega) fun e=>hne (by rw[e])).trans (h.gb.block k hk hne)⟩,
  h.cf.keep (ho.block gc h.cf.lt (by omega)) ho.size,h.rs.keep (ho.block gr h.rs.lt (by omega)) ho.size,⟨h.pp.len,h.pp.own.keep fun k hk hl=>ho.block k hl (by omega)⟩,⟨h.ch.len,h.ch.own.keep fun k hk hl=>ho.block k hl (by omega)⟩,⟨h.tb.len,h.tb.own.keep fun k hk hl=>ho.block k hl (by omega)⟩,fun x hx=>?_,fun t ht=>?_,h.d12,h.d13,h.d23⟩
 ·obtain⟨p1,p2⟩:=h.pt x hx;exact⟨p1.only ho fun k hk e=>by have:=(p2 k hk).1;omega,fun k hk=>⟨(p2 k hk).1,Nat.lt_of_lt_of_le (p2 k hk).2.1 ho.size,(p2 k hk).2.2⟩⟩
 obtain⟨p1,p2⟩:=h.tt t ht;exact⟨⟨p1.1.only ho fun k hk e=>by have:=(p2 k hk).1;omega,p1.2⟩,fun k hk=>⟨(p2 k hk).1,Nat.lt_of_lt_of_le (p2 k hk).2.1 ho.size,(p2 k hk).2.2⟩⟩
theorem CfgS.bel(h:CfgS B b A m c f w gr gc BB A1 A2 A3 n1 n2 n3 c1 c2 c3 P C T wr)(hB:CfgB b w gr gc BB)(hb:Below wr.heap.size wr w'):CfgS B b A m c f w gr gc BB A1 A2 A3 n1 n2 n3 c1 c2 c3 P C T w':=by
 obtain⟨at_,ht⟩:=h.tp;exact h.only hB (Only.bel hb) ⟨at_,ht.below hb ht.lt⟩
theorem CfgS.next(h:CfgS B b A m c f w gr gc BB A1 A2 A3 n1 n2 n3 c1 c2 c3 P C T wr)(hB:CfgB b w gr gc BB){at_:Nat}(ht:TapeW w' B b A m c f at_)(hg:wr.grownBy w' (some b)):CfgS B b A m c f w gr gc BB A1 A2 A3 n1 n2 n3 c1 c2 c3 P C T w' :=
 h.only hB (Only.gb hg rfl) ⟨at_,ht⟩
theorem Grew.keep{A0 A':Option Addr}{k:Nat}(hg:Grew A0 A' wr w')(hk:k < wr.heap.size)(hn:obk A0≠some k):w'.heap[k]? = wr.heap[k]?:=hg.gb.block k hk fun e=>hn e.symm
theorem Grew.apart{A0 A':Option Addr}{k:Nat}(hg:Grew A0 A' wr w')(hk:k < wr.heap.size)(hn:obk A0≠some k):obk A'≠some k:=by
 rcases hg.at_ with e | ⟨g,e,h⟩
 ·rw[e];exact hn
 rw[e];intro e2;injection e2 with e2;omega
theorem Grew.apart'{A0 A' D:Option Addr}(hg:Grew A0 A' wr w')(hD:∀ k,obk D=some k→k < wr.heap.size)(hn:∀ k,obk A0=some k→obk D≠some k):∀ k,obk A'=some k→obk D≠some k:=fun k e e2=>by
 rcases hg.at_ with e3 | ⟨g,e3,h⟩
 ·exact hn k (by rw[← e3];exact e) e2
 ·have:=hD k e2
  rw[e3] at e
  injection e with e
  omega
theorem CfgS.part(h:CfgS B b A m c f w gr gc BB A1 A2 A3 n1 n2 n3 c1 c2 c3 P C T wr)(hB:CfgB b w gr gc BB){A':Option Addr}{c':Nat}{x:PtV}(hg:Grew A1 A' wr w')(ho:OwnV 57 11 w' BB A' (n1+1) c' ((P++[x]).flatMap pcl))(hx:PtAt wr wr.heap.size x∧∀ k,obk x.pa=some k→BB≤k∧k < wr.heap.size∧obk A1≠some k∧obk A2≠some k∧obk A3≠some k):
  CfgS B b A m c f w gr gc BB A' A2 A3 (n1+1) n2 n3 c' c2 c3 (P++[x]) C T (w'.setCell ⟨gc,0,none⟩ (.slice A' (n1+1) c')):=by
 have h1:=hB.br;have h2:=hB.wr;have h3:=hB.rc;have h4:=hB.cB;have hs:=h.gb.size;have hgc:obk A1≠some gc:=fun e=>by have:=(h.pp.own.obk_ge e).1;omega
 have hgc':obk A'≠some gc:=hg.apart h.cf.lt hgc;have hlo:∀ k,k < BB→k < wr.heap.size→w'.heap[k]? = wr.heap[k]?:=fun k hk hl=>hg.keep hl fun e=>by have:=(h.pp.own.obk_ge e).1;omega
 have hset:∀ k v,k≠gc→(w'.setCell ⟨gc,0,none⟩ v).heap[k]? = w'.heap[k]?:=fun k v hk=>Below.heap_setCell _ _ _ _ hk;have hss:∀ v,(w'.setCell ⟨gc,0,none⟩ v).heap.size=w'.heap.size:=fun v=>by simp
 have hon:∀ v,Only (fun k=>obk A1=some k∨k=gc) wr (w'.setCell ⟨gc,0,none⟩ v):=fun v=>⟨hg.gb.os,hg.gb.tape,hg.gb.output,by rw[hss];exact hg.gb.size,fun k hk hn=>(hset k v fun e=>hn (.inr e)).trans (hg.keep hk fun e=>hn (.inl e))⟩;have hkeep:∀ v k,k < wr.heap.size→obk A1≠some k→k≠gc→(w'.setCell ⟨gc,0,none⟩ v).heap[k]? = wr.heap[k]?:=fun v k hk h1 h2=>(hset k v h2).trans (hg.keep hk h1);obtain⟨at_,ht⟩:=h.tp;refine⟨⟨at_,ht.below (Bs:=gc) ⟨hg.gb.os,hg.gb.tape,hg.gb.output,by rw[hss];exact hg.gb.size,fun k hk=>(hset k _ (by omega)).trans (hlo k (by omega) (by have:=h.cf.lt;omega))⟩ (by omega)⟩,⟨hg.gb.os.trans h.gb.os,hg.gb.tape.trans h.gb.tape,hg.gb.output.trans h.gb.output,by rw[hss];exact Nat.le_trans h.gb.size hg.gb.size,fun k hk hne=>((hset k _ (by omega)).trans (hlo k (by omega) (by omega))).trans (h.gb.block k hk hne)⟩,
  ((h.cf.keep (hg.keep h.cf.lt hgc) hg.gb.size).set 0 _).congr fun j hj=>?_,h.rs.keep (hkeep _ gr h.rs.lt (fun e=>by have:=(h.pp.own.obk_ge e).1;omega) (by omega)) (by rw[hss];exact hg.gb.size),⟨by rw[List.length_append,h.pp.len];rfl,ho.other ⟨gc,0,none⟩ _ fun g e e2=>hgc' (by rw[e];exact congrArg some e2)⟩,⟨h.ch.len,h.ch.own.keep' fun k hk=>hkeep _ k (h.ch.own.obk_ge hk).2 (fun e=>h.d12 k e hk) (by have:=(h.ch.own.obk_ge hk).1;omega)⟩,⟨h.tb.len,h.tb.own.keep' fun k hk=>hkeep _ k (h.tb.own.obk_ge hk).2 (fun e=>h.d13 k e hk) (by have:=(h.tb.own.obk_ge hk).1;omega)⟩,fun y hy=>?_,fun y hy=>?_,hg.apart' (fun k hk=>(h.ch.own.obk_ge hk).2) h.d12,hg.apart' (fun k hk=>(h.tb.own.obk_ge hk).2) h.d13,h.d23⟩
 ·unfold put1 box3;rcases(by omega:j=0∨j=1∨j=2) with rfl | rfl | rfl <;> rfl
 ·rcases List.mem_append.1 hy with hy | hy
  ·obtain⟨p1,p2⟩:=h.pt y hy;exact⟨p1.only (hon _) (fun k hk e=>by
     rcases e with e | e
     ·exact(p2 k hk).2.2.1 e
     have:=(p2 k hk).1;omega),fun k hk=>⟨(p2 k hk).1,by rw[hss];exact Nat.lt_of_lt_of_le (p2 k hk).2.1 hg.gb.size,hg.apart (p2 k hk).2.1 (p2 k hk).2.2.1,(p2 k hk).2.2.2.1,(p2 k hk).2.2.2.2⟩⟩
  simp at hy;subst hy;obtain⟨p1,p2⟩:=hx;exact⟨p1.only (hon _) (fun k hk e=>by
    rcases e with e | e
    ·exact(p2 k hk).2.2.1 e
    have:=(p2 k hk).1;omega),fun k hk=>⟨(p2 k hk).1,by rw[hss];exact Nat.lt_of_lt_of_le (p2 k hk).2.1 hg.gb.size,hg.apart (p2 k hk).2.1 (p2 k hk).2.2.1,(p2 k hk).2.2.2.1,(p2 k hk).2.2.2.2⟩⟩
 obtain⟨p1,p2⟩:=h.tt y hy;exact⟨⟨p1.1.only (hon _) (fun k hk e=>by
   rcases e with e | e
   ·exact(p2 k hk).2.2.1 e
   have:=(p2 k hk).1;omega),p1.2⟩,fun k hk=>⟨(p2 k hk).1,by rw[hss];exact Nat.lt_of_lt_of_le (p2 k hk).2.1 hg.gb.size,hg.apart (p2 k hk).2.1 (p2 k hk).2.2.1,(p2 k hk).2.2.2.1,(p2 k hk).2.2.2.2⟩⟩
theorem CfgS.chan(h:CfgS B b A m c f w gr gc BB A1 A2 A3 n1 n2 n3 c1 c2 c3 P C T wr)(hB:CfgB b w gr gc BB){A':Option Addr}{c':Nat}{x:ChV}(hg:Grew A2 A' wr w')(ho:OwnV 63 6 w' BB A' (n2+1) c' ((C++[x]).flatMap cc)):
  CfgS B b A m c f w gr gc BB A1 A' A3 n1 (n2+1) n3 c1 c' c3 P (C++[x]) T (w'.setCell ⟨gc,1,none⟩ (.slice A' (n2+1) c')):=by
 have h1:=hB.br;have h2:=hB.wr;have h3:=hB.rc;have h4:=hB.cB;have hs:=h.gb.size;have hgc:obk A2≠some gc:=fun e=>by have:=(h.ch.own.obk_ge e).1;omega
 have hgc':obk A'≠some gc:=hg.apart h.cf.lt hgc;have hlo:∀ k,k < BB→k < wr.heap.size→w'.heap[k]? = wr.heap[k]?:=fun k hk hl=>hg.keep hl fun e=>by have:=(h.ch.own.obk_ge e).1;omega
 have hset:∀ k v,k≠gc→(w'.setCell ⟨gc,1,none⟩ v).heap[k]? = w'.heap[k]?:=fun k v hk=>Below.heap_setCell _ _ _ _ hk;have hss:∀ v,(w'.setCell ⟨gc,1,none⟩ v).heap.size=w'.heap.size:=fun v=>by simp
 have hon:∀ v,Only (fun k=>obk A2=some k∨k=gc) wr (w'.setCell ⟨gc,1,none⟩ v):=fun v=>⟨hg.gb.os,hg.gb.tape,hg.gb.output,by rw[hss];exact hg.gb.size,fun k hk hn=>(hset k v fun e=>hn (.inr e)).trans (hg.keep hk fun e=>hn (.inl e))⟩;have hkeep:∀ v k,k < wr.heap.size→obk A2≠some k→k≠gc→(w'.setCell ⟨gc,1,none⟩ v).heap[k]? = wr.heap[k]?:=fun v k hk h1 h2=>(hset k v h2).trans (hg.keep hk h1);obtain⟨at_,ht⟩:=h.tp;refine⟨⟨at_,ht.below (Bs:=gc) ⟨hg.gb.os,hg.gb.tape,hg.gb.output,by rw[hss];exact hg.gb.size,fun k hk=>(hset k _ (by omega)).trans (hlo k (by omega) (by have:=h.cf.lt;omega))⟩ (by omega)⟩,⟨hg.gb.os.trans h.gb.os,hg.gb.tape.trans h.gb.tape,hg.gb.output.trans h.gb.output,by rw[hss];exact Nat.le_trans h.gb.size hg.gb.size,fun k hk hne=>((hset k _ (by omega)).trans (hlo k (by omega) (by omega))).trans (h.gb.block k hk hne)⟩,
  ((h.cf.keep (hg.keep h.cf.lt hgc) hg.gb.size).set 1 _).congr fun j hj=>?_,h.rs.keep (hkeep _ gr h.rs.lt (fun e=>by have:=(h.ch.own.obk_ge e).1;omega) (by omega)) (by rw[hss];exact hg.gb.size),⟨h.pp.len,h.pp.own.keep' fun k hk=>hkeep _ k (h.pp.own.obk_ge hk).2 (fun e=>h.d12 k hk e) (by have:=(h.pp.own.obk_ge hk).1;omega)⟩,⟨by rw[List.length_append,h.ch.len];rfl,ho.other ⟨gc,1,none⟩ _ fun g e e2=>hgc' (by rw[e];exact congrArg some e2)⟩,⟨h.tb.len,h.tb.own.keep' fun k hk=>hkeep _ k (h.tb.own.obk_ge hk).2 (fun e=>h.d23 k e hk) (by have:=(h.tb.own.obk_ge hk).1;omega)⟩,fun y hy=>?_,fun y hy=>?_,fun k hk e=>hg.apart' (D:=A1) (fun k hk=>(h.pp.own.obk_ge hk).2) (fun k e e2=>h.d12 k e2 e) k e hk,h.d13,hg.apart' (fun k hk=>(h.tb.own.obk_ge hk).2) h.d23⟩
 ·unfold put1 box3;rcases(by omega:j=0∨j=1∨j=2) with rfl | rfl | rfl <;> rfl
 ·obtain⟨p1,p2⟩:=h.pt y hy;exact⟨p1.only (hon _) (fun k hk e=>by
    rcases e with e | e
    ·exact(p2 k hk).2.2.2.1 e
    have:=(p2 k hk).1;omega),fun k hk=>⟨(p2 k hk).1,by rw[hss];exact Nat.lt_of_lt_of_le (p2 k hk).2.1 hg.gb.size,(p2 k hk).2.2.1,hg.apart (p2 k hk).2.1 (p2 k hk).2.2.2.1,(p2 k hk).2.2.2.2⟩⟩
 obtain⟨p1,p2⟩:=h.tt y hy;exact⟨⟨p1.1.only (hon _) (fun k hk e=>by
   rcases e with e | e
   ·exact(p2 k hk).2.2.2.1 e
   have:=(p2 k hk).1;omega),p1.2⟩,fun k hk=>⟨(p2 k hk).1,by rw[hss];exact Nat.lt_of_lt_of_le (p2 k hk).2.1 hg.gb.size,(p2 k hk).2.2.1,hg.apart (p2 k hk).2.1 (p2 k hk).2.2.2.1,(p2 k hk).2.2.2.2⟩⟩
theorem CfgS.tabl(h:CfgS B b A m c f w gr gc BB A1 A2 A3 n1 n2 n3 c1 c2 c3 P C T wr)(hB:CfgB b w gr gc BB){A':Option Addr}{c':Nat}{x:TbV}(hg:Grew A3 A' wr w')(ho:OwnV 64 1 w' BB A' (n3+1) c' ((T++[x]).flatMap tcl))(hx:(TbAt wr wr.heap.size x∧Frame x)∧∀ k,obk x.A=some k→BB≤k∧k < wr.heap.size∧obk A1≠some k∧obk A2≠some k∧obk A3≠some k):
  CfgS B b A m c f w gr gc BB A1 A2 A' n1 n2 (n3+1) c1 c2 c' P C (T++[x]) (w'.setCell ⟨gc,2,none⟩ (.slice A' (n3+1) c')):=by
 have h1:=hB.br;have h2:=hB.wr;have h3:=hB.rc;have h4:=hB.cB;have hs:=h.gb.size;have hgc:obk A3≠some gc:=fun e=>by have:=(h.tb.own.obk_ge e).1;omega
 have hgc':obk A'≠some gc:=hg.apart h.cf.lt hgc;have hlo:∀ k,k < BB→k < wr.heap.size→w'.heap[k]? = wr.heap[k]?:=fun k hk hl=>hg.keep hl fun e=>by have:=(h.tb.own.obk_ge e).1;omega
 have hset:∀ k v,k≠gc→(w'.setCell ⟨gc,2,none⟩ v).heap[k]? = w'.heap[k]?:=fun k v hk=>Below.heap_setCell _ _ _ _ hk;have hss:∀ v,(w'.setCell ⟨gc,2,none⟩ v).heap.size=w'.heap.size:=fun v=>by simp
 have hon:∀ v,Only (fun k=>obk A3=some k∨k=gc) wr (w'.setCell ⟨gc,2,none⟩ v):=fun v=>⟨hg.gb.os,hg.gb.tape,hg.gb.output,by rw[hss];exact hg.gb.size,fun k hk hn=>(hset k v fun e=>hn (.inr e)).trans (hg.keep hk fun e=>hn (.inl e))⟩;have hkeep:∀ v k,k < wr.heap.size→obk A3≠some k→k≠gc→(w'.setCell ⟨gc,2,none⟩ v).heap[k]? = wr.heap[k]?:=fun v k hk h1 h2=>(hset k v h2).trans (hg.keep hk h1);obtain⟨at_,ht⟩:=h.tp;refine⟨⟨at_,ht.below (Bs:=gc) ⟨hg.gb.os,hg.gb.tape,hg.gb.output,by rw[hss];exact hg.gb.size,fun k hk=>(hset k _ (by omega)).trans (hlo k (by omega) (by have:=h.cf.lt;omega))⟩ (by omega)⟩,⟨hg.gb.os.trans h.gb.os,hg.gb.tape.trans h.gb.tape,hg.gb.output.trans h.gb.output,by rw[hss];exact Nat.le_trans h.gb.size hg.gb.size,fun k hk hne=>((hset k _ (by omega)).trans (hlo k (by omega) (by omega))).trans (h.gb.block k hk hne)⟩,
  ((h.cf.keep (hg.keep h.cf.lt hgc) hg.gb.size).set 2 _).congr fun j hj=>?_,h.rs.keep (hkeep _ gr h.rs.lt (fun e=>by have:=(h.tb.own.obk_ge e).1;omega) (by omega)) (by rw[hss];exact hg.gb.size),⟨h.pp.len,h.pp.own.keep' fun k hk=>hkeep _ k (h.pp.own.obk_ge hk).2 (fun e=>h.d13 k hk e) (by have:=(h.pp.own.obk_ge hk).1;omega)⟩,⟨h.ch.len,h.ch.own.keep' fun k hk=>hkeep _ k (h.ch.own.obk_ge hk).2 (fun e=>h.d23 k hk e) (by have:=(h.ch.own.obk_ge hk).1;omega)⟩,⟨by rw[List.length_append,h.tb.len];rfl,ho.other ⟨gc,2,none⟩ _ fun g e e2=>hgc' (by rw[e];exact congrArg some e2)⟩,fun y hy=>?_,fun y hy=>?_,h.d12,fun k hk e=>hg.apart' (D:=A1) (fun k hk=>(h.pp.own.obk_ge hk).2) (fun k e e2=>h.d13 k e2 e) k e hk,fun k hk e=>hg.apart' (D:=A2) (fun k hk=>(h.ch.own.obk_ge hk).2) (fun k e e2=>h.d23 k e2 e) k e hk⟩
 ·unfold put1 box3;rcases(by omega:j=0∨j=1∨j=2) with rfl | rfl | rfl <;> rfl
 ·obtain⟨p1,p2⟩:=h.pt y hy;exact⟨p1.only (hon _) (fun k hk e=>by
    rcases e with e | e
    ·exact(p2 k hk).2.2.2.2 e
    have:=(p2 k hk).1;omega),fun k hk=>⟨(p2 k hk).1,by rw[hss];exact Nat.lt_of_lt_of_le (p2 k hk).2.1 hg.gb.size,(p2 k hk).2.2.1,(p2 k hk).2.2.2.1,hg.apart (p2 k hk).2.1 (p2 k hk).2.2.2.2⟩⟩
 rcases List.mem_append.1 hy with hy | hy
 ·obtain⟨p1,p2⟩:=h.tt y hy;exact⟨⟨p1.1.only (hon _) (fun k hk e=>by
    rcases e with e | e
    ·exact(p2 k hk).2.2.2.2 e
    have:=(p2 k hk).1;omega),p1.2⟩,fun k hk=>⟨(p2 k hk).1,by rw[hss];exact Nat.lt_of_lt_of_le (p2 k hk).2.1 hg.gb.size,(p2 k hk).2.2.1,(p2 k hk).2.2.2.1,hg.apart (p2 k hk).2.1 (p2 k hk).2.2.2.2⟩⟩
 simp at hy;subst hy;obtain⟨p1,p2⟩:=hx;exact⟨⟨p1.1.only (hon _) (fun k hk e=>by
   rcases e with e | e
   ·exact(p2 k hk).2.2.2.2 e
   have:=(p2 k hk).1;omega),p1.2⟩,fun k hk=>⟨(p2 k hk).1,by rw[hss];exact Nat.lt_of_lt_of_le (p2 k hk).2.1 hg.gb.size,(p2 k hk).2.2.1,(p2 k hk).2.2.2.1,hg.apart (p2 k hk).2.1 (p2 k hk).2.2.2.2⟩⟩
end
end Go.Proofs.YtdkngfdnfekgfaaGreat
