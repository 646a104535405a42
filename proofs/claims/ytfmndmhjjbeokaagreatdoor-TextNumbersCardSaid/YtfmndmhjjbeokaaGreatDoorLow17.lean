import Derived.Test.YtfmndmhjjbeokaaGreatDoorLow16
set_option maxHeartbeats 4000000
set_option maxRecDepth 100000
set_option linter.unusedSimpArgs false
set_option linter.unusedVariables false
namespace Go.Proofs.YtfmndmhjjbeokaaGreatDoor
open Go.RowKit Tab
def km(B b:Nat)(A:Option Addr)(m c:Nat)(f:Nat->Int)(Q:Nat)(w:World)(e:Ending)(w':World):Prop :=
 ∃(x:Nd) (k:F) (A':Option Addr) (n' c' at':Nat),e=.returned (.slice A' n' c')/\(F.cons x k .nil).ok/\Ft w' w.heap.size A' n' c' (x::k.flat)/\ofz n' (k.dep+1) (one x k.lvs)=0/\ticks (one x k.lvs)<=90/\(tidy (one x k.lvs)).length<=24/\(∀ y∈x::k.flat,0<=y.p/\y.p < (Q:Int))/\Eb w' B b A m c f at'/\w.grownBy w' (some b)
theorem U0{n D:Nat}{L:List Rn}(h1:n<=128)(h2:D<=16)(h3:ticks L<=4096)(h4:(tidy L).length<=96):ofz n D L=0:=by
 have e:rt n D (ticks L)=0:=by
  unfold rt;rw[if_neg (by omega),if_neg (by omega),if_neg (by omega)]
 unfold ofz;rw[if_pos e,if_neg (by omega)]
theorem Jl{B b:Nat}{A:Option Addr}{m c:Nat}{f:Nat->Int}{w w6:World}{aA p Q:Nat}(hp:p < 6)(aB:p < Q)(T6:Eb w6 B b A m c f aA)(G6:w.grownBy w6 (some b)):
  km B b A m c f Q w (.returned (.slice (some ⟨w6.heap.size,0,none⟩) 3 3)) (w6.alloc (.cells #[.int .i64 3,.int .i64 0,.int .i64 2,.int .i64 1,.int .i64 (p:Int),.int .i64 3,.int .i64 2,.int .i64 0,.int .i64 2] 54)):=by
 have e1:one ⟨3,0,2⟩ (F.cons ⟨1,(p:Int),3⟩ .nil (.cons ⟨2,0,2⟩ .nil .nil)).lvs=[⟨(p:Int),3⟩,⟨-1,2⟩]:=rfl;have ht:ticks [(⟨(p:Int),3⟩:Rn),⟨-1,2⟩]=5:=rfl;have hl:=tidy_le [(⟨(p:Int),3⟩:Rn),⟨-1,2⟩];simp only[Ad,Bh] at hl;refine⟨⟨3,0,2⟩,.cons ⟨1,(p:Int),3⟩ .nil (.cons ⟨2,0,2⟩ .nil .nil),_,3,3,aA,rfl,⟨by decide,by simp[F.cnt,kn],⟨(Em _ _ _).2 (by omega),by simp[F.cnt,kn],trivial,by decide,by simp[F.cnt,kn],trivial,trivial⟩,trivial⟩,?_,?_,by rw[e1,ht];omega,by rw[e1];omega,(by intro y hy;simp[F.flat] at hy;rcases hy with rfl | rfl | rfl <;> (dsimp only;omega)),T6.below (bl1 _ _) T6.lt,Es G6 _⟩
 ·refine Ft.lit w6 w.heap.size _ _ 3 rfl rfl G6.size (by omega) fun y hy=>?_;simp[F.flat] at hy;rcases hy with rfl | rfl | rfl <;> exact Ff (by omega) (by omega) (by omega)
 rw[e1];exact U0 (by omega) (by simp[F.dep]) (by rw[ht];omega) (by omega)
theorem Vm(B b:Nat)(A:Option Addr)(m c:Nat)(f:Nat->Int)(hm:m<=140737488351232)(parts:Nat)(bB:1<=parts)(bL:parts<=6)(at_:Nat)(w:World)(T:Eb w B b A m c f at_):
  Calls Tryz.prog 25 #[.pointer (some ⟨b,0,none⟩),.int .i64 (parts:Int)] w (km B b A m c f parts w):=by
 have bO:=T.lt;have bG:=hid (Ub B b A m c f hm parts bB bL 4 at_ w (by omega) T);have aC:∀(w1:World) (aQ:Nat),Eb w1 B b A m c f aQ->w.grownBy w1 (some b)->True:=fun _ _ _ _=>trivial;clear T aC;go_in;go_wp2_with fail;refine bG.o.mono ?_;rintro e w1⟨x,k,A1,n1,c1,aQ,rfl,aF,aB,aY,bN,bA,T1,G1⟩;have h5:5 ^ (4+1)=3125:=rfl;rw[h5] at aY;have bC:=aB.len;rw[Ad,F.flat_length] at bC;have aE:=hid (Wi A1 n1 c1 x k w1 aB.rdn aB.cap aF (by omega));obtain⟨z,hz⟩:∃ z,z=ofz n1 (k.dep+1) (one x k.lvs):=⟨_,rfl⟩;rw[<- hz] at aE;have aM:ticks (tidy (one x k.lvs))=ticks (one x k.lvs):=ticks_tidy _;obtain⟨R,hR⟩:∃ R,R=tidy (one x k.lvs):=⟨_,rfl⟩;rw[<- hR] at aE aM;have bT:=hid aF;have bS:=hid bA;have bK:=hid aB;have HZ:=hid hz;have HR:=hid hR;have bE:=hid aM;have bI:=hid T1;have aT:=hid G1;have bP:Hd (z=0->ticks R<=4096):=hid fun h0=>by
  rw[bE.o];rw[HZ.o] at h0;exact(L9 h0).2.2.1
 have aJ:b < w1.heap.size:=T1.lt;clear aB aF hz hR aM T1 G1 bG aY bN bC h5 bA;go_wp2_with fail;refine aE.o.mono ?_;rintro e w2⟨A2,m2,c2,rfl,aG,aZ,aL⟩;have bR:=hid aZ;have T2:=bI.o.below aL aJ;have aD:=hid T2;have aA:=hid (F8 aT.o aL aT.o.size);have bJ:=hid (Ft.keep bK.o (w':=w2) fun k _ aH=>aL.block k aH);clear aZ T2 aE bI aT bK;have aU:Hd (∀(w5:World) (aP:Nat),Eb w5 B b A m c f aP->w.grownBy w5 (some b)->Calls Tryz.prog 24 #[.pointer (some ⟨b,0,none⟩),.int .i64 (parts:Int)] w5 (fa B b A m c f parts w5)):=hid fun w5 aP T5 G5=>St B b A m c f aP parts w5 T5 bB (by omega) hm;by_cases h0:z=0
 ·have hr:=bR.o h0;have aX:=bP.o h0;by_cases bW:24 < m2
  ·have aO:(24:Int) < (m2:Int):=by omega
   have aV:(z != 0)=false:=by rw[h0];rfl
   subst h0;clear hr aX;go_wp2_with fail;refine(aU.o w2 _ aD.o aA.o).mono ?_;rintro e w6⟨p,bD,hp,rfl,T6,G6⟩;have F6:=hid (Jl (w:=w) (p:=p) (Q:=parts) (by omega) hp T6 (D8 aA.o G6));clear T6 G6;go_wp2;go_ret;exact F6.o
  have aO:¬ (24:Int) < (m2:Int):=by omega
  have bF:=hid (Pu A2 m2 c2 R w2 hr aG (by omega) (by omega));have bM:=hr.len;have aV:(z != 0)=false:=by rw[h0];rfl
  obtain⟨t,ht⟩:∃ t,t=ticks R:=⟨_,rfl⟩;rw[<- ht] at bF aX;have bQ:=hid ht;have bX:=hid h0;clear ht hr;subst h0;go_wp2_with fail;refine bF.o.mono ?_;rintro e w3⟨rfl,aK⟩;have aI:b < w2.heap.size:=aD.o.lt;have T3:=aD.o.below aK aI;have G3:=F8 aA.o aK aA.o.size;have bU:=hid (Ft.keep bJ.o (w':=w3) fun k _ aH=>aK.block k aH);have bH:=hid T3;have aR:=hid G3;clear T3 G3 bJ;by_cases bV:90 < t
  ·have aN:(90:Int) < (t:Int):=by omega
   go_wp2_with fail;refine(aU.o w3 _ bH.o aR.o).mono ?_;rintro e w6⟨p,bD,hp,rfl,T6,G6⟩;have F6:=hid (Jl (w:=w) (p:=p) (Q:=parts) (by omega) hp T6 (D8 aR.o G6));clear T6 G6;go_wp2;go_ret;exact F6.o
  have aN:¬ (90:Int) < (t:Int):=by omega
  go_wp2;go_ret;refine⟨x,k,A1,n1,c1,aQ,rfl,bT.o,bU.o,HZ.o.symm,?_,?_,bS.o,bH.o,aR.o⟩
  ·rw[<- bE.o,<- bQ.o];omega
  rw[<- HR.o,bM];omega
 have aV:(z != 0)=true:=Bz.2 h0;go_wp2_with fail;refine(aU.o w2 _ aD.o aA.o).mono ?_;rintro e w6⟨p,bD,hp,rfl,T6,G6⟩;have F6:=hid (Jl (w:=w) (p:=p) (Q:=parts) (by omega) hp T6 (D8 aA.o G6));clear T6 G6;go_wp2;go_ret;exact F6.o
theorem one_parts{Q:Int}(hQ:0<=Q){x:Nd}{s:List Rn}(hx:x.p < Q)(hs:∀ r∈s,r.p < Q):∀ r∈one x s,r.p < Q:=fun r hr=>by
 unfold one at hr
 split at hr
 ·exact hs r hr
 ·split at hr
  ·exact hs r (reps_mem hr)
  ·simp at hr
   subst hr
   show whose x < Q
   unfold whose
   split <;> omega
theorem lvs_parts{Q:Int}(hQ:0<=Q)(k:F)(h:∀ y∈k.flat,y.p < Q):∀ r∈k.lvs,r.p < Q:=by
 induction k with
 | nil=>intro r hr;simp[F.lvs] at hr
 | cons x k r hk hr =>
  intro q hq;have e:(F.cons x k r).flat=x::(k.flat++r.flat):=by simp[F.flat]
  rw[e] at h;rcases Ay.1 hq with hq | hq
  ·exact one_parts hQ (h x (by simp)) (hk fun y hy=>h y (by simp[hy])) q hq
  exact hr (fun y hy=>h y (by simp[hy])) q hq
structure Only(p:Nat->Prop)(w w':World):Prop where
 os:w'.os=w.os
 tape:w'.tape=w.tape
 output:w'.output=w.output
 size:w.heap.size<=w'.heap.size
 block:∀ k,k < w.heap.size->¬ p k->w'.heap[k]? = w.heap[k]?
section
variable {p:Nat->Prop} {w w' w2:World}
theorem Only.refl(p:Nat->Prop)(w:World):Only p w w:=⟨rfl,rfl,rfl,Ag _,fun _ _ _=>rfl⟩
theorem Only.trans(h:Only p w w')(k:Only p w' w2):Only p w w2 :=
 ⟨k.os.trans h.os,k.tape.trans h.tape,k.output.trans h.output,Ai h.size k.size,fun i hi hn=>(k.block i (Bc hi h.size) hn).trans (h.block i hi hn)⟩
theorem Only.bel(h:Below w.heap.size w w'):Only p w w':=⟨h.os,h.tape,h.output,h.size,fun k hk _=>h.block k hk⟩
theorem Only.gb{b:Nat}(h:w.grownBy w' (some b))(hb:p b):Only p w w':=⟨h.os,h.tape,h.output,h.size,fun k hk hn=>h.block k hk fun e=>by injection e with e;subst e;exact hn hb⟩
theorem Only.set(w:World)(a:Addr)(v:Value)(hb:p a.block):Only p w (w.setCell a v) :=
 ⟨rfl,rfl,rfl,by simp,fun k hk hn=>Bn w a v k fun e=>by subst e;exact hn hb⟩
theorem Only.rdv{B:Nat}{A:Option Addr}{l:List Value}(h:Only p w w')(hr:RdV w w.heap.size A l)(hA:∀ b,obk A=some b->¬ p b):RdV w' w'.heap.size A l:=fun hl=>by
 obtain⟨ad,e,hb,hc⟩:=hr hl
 refine⟨ad,e,Bc hb h.size,fun j v hj=>?_⟩
 rw[Bf (h.block (ad.add j).block (by rw[Eh];exact hb) (by rw[Eh];exact hA _ (by rw[e];rfl)))]
 exact hc j v hj
end
theorem Qba:Elt 94 90 1 24 (.slice none 0 0):=⟨Tryz.underlying94,by kernel_rfl,rfl,by omega⟩
structure Rw where
 a:Option Addr
 n:Nat
 c:Nat
 l:List Rn
def Rw.v(r:Rw):Value:=.slice r.a r.n r.c
theorem gf(T:List Rw):∀ u∈T.map Rw.v,u.oneCell'=true:=by
 intro u hu;obtain⟨s,_,rfl⟩:=By.1 hu;rfl
structure Ot(w:World)(r:Rw):Prop where
 rd:RdR w w.heap.size r.a r.n r.l
 cap:r.n<=r.c
 few:r.n<=96
 tk:ticks r.l<=90
theorem Ot.on{w w':World}{r:Rw}(h:Ot w r)(hb:Below w.heap.size w w'):Ot w' r:=⟨h.rd.on hb,h.cap,h.few,h.tk⟩
theorem Ot.only{p:Nat->Prop}{w w':World}{r:Rw}(h:Ot w r)(ho:Only p w w')(hA:∀ b,obk r.a=some b->¬ p b):Ot w' r:=⟨⟨h.rd.len,ho.rdv (B:=0) h.rd.rd hA⟩,h.cap,h.few,h.tk⟩
def Lu(t:TbV):Prop:=ofz t.n (t.k.dep+1) (one t.x t.k.lvs)=0/\ticks (one t.x t.k.lvs)<=90
def E8(t:TbV):List Rn:=tidy (one t.x t.k.lvs)
theorem gh(t:TbV)(w:World)(h:Mg w w.heap.size t)(hf:Lu t):
  Calls Tryz.prog 51 #[.slice t.A t.n t.c] w fun e w'=>∃ r:Rw,e=.returned (.tuple #[r.v,.int .i64 0])/\Ot w' r/\Below w.heap.size w w'/\(∀ b,obk r.a=some b->w.heap.size<=b/\b < w'.heap.size)/\r.l=E8 t:=by
 obtain⟨hz,ht⟩:=hf;have hk:=L9 hz;have hR:=Jb t.A t.n t.c _ t.x t.k w h.rd h.cap h.few h.ok rfl;have e:F.tick t.x t.k.len=ticks (one t.x t.k.lvs):=by rw[one_ticks,lvs_ticks]
 have h0:rt t.n (t.k.dep+1) (F.tick t.x t.k.len)=0:=by
  rw[e];unfold rt;rw[if_neg (by omega),if_neg (by omega),if_neg (by omega)]
 rw[h0] at hR;refine(R8 t.A t.n t.c t.x t.k w h.rd h.cap h.ok hk.1 hk.2.1 (by rw[e];exact hk.2.2.1) hR).mono fun e w' ho=>?_;unfold OfR at ho;rw[if_neg (by omega)] at ho;obtain⟨A,c,rfl,hr,hc,hb,hn⟩:=ho;refine⟨⟨A,_,c,tidy (one t.x t.k.lvs)⟩,rfl,⟨hr,hc,hk.2.2.2,by rw[ticks_tidy];exact ht⟩,hb,fun b hb=>?_,rfl⟩;cases A with
 | none=>cases hb
 | some ad =>
  injection hb with hb;have hb:ad.block=b:=hb;have h1:=hn ad rfl;obtain⟨aA,_,e1,h2,_⟩:=hr.at_ (i:=0) (bq h.ok).1;injection e1 with e1;subst e1;omega
structure Tp(p:Nat->Prop)(w:World)(A3:Option Addr)(n3:Nat)(P:List PtV)(T:List TbV):Prop where
 t:RdB tcl w w.heap.size A3 n3 T
 tt:∀ t∈T,Mg w w.heap.size t/\Lu t
 pt:∀ x∈P,Ov w w.heap.size x
 s3:∀ b,obk A3=some b->¬ p b
 st:∀ t∈T,∀ b,obk t.A=some b->¬ p b
 sp:∀ x∈P,∀ b,obk x.pa=some b->¬ p b
theorem F9.only{p:Nat->Prop}{w w':World}{A:Option Addr}{n:Nat}(h:F9 w w.heap.size A n)(ho:Only p w w')(hA:∀ b,obk A=some b->¬ p b):F9 w' w'.heap.size A n:=fun i hi=>by
 obtain⟨ad,e,q,h1,hB,h2,h3,h4⟩:=h i hi
 have hk:=ho.block ad.block hB (hA _ (by rw[h1];rfl))
 refine⟨ad,e,q,h1,Bc hB ho.size,?_,?_,h4⟩
 ·exact(Bf (w:=w) (w':=w') (a:=ad.add (i*2)) (by rw[Eh];exact hk)).trans h2
 ·exact(Bf (w:=w) (w':=w') (a:=⟨(ad.add (i*2)).block,(ad.add (i*2)).off+1,none⟩) (by show w'.heap[(ad.add (i*2)).block]? = w.heap[(ad.add (i*2)).block]?;rw[Eh];exact hk)).trans h3
theorem Tp.only{p:Nat->Prop}{w w':World}{A3:Option Addr}{n3:Nat}{P:List PtV}{T:List TbV}(h:Tp p w A3 n3 P T)(ho:Only p w w'):Tp p w' A3 n3 P T :=
 ⟨⟨h.t.len,ho.rdv (B:=0) h.t.rd h.s3⟩,fun t ht=>⟨⟨⟨(h.tt t ht).1.rd.len,ho.rdv (B:=0) (h.tt t ht).1.rd.rd (h.st t ht),(h.tt t ht).1.rd.bd⟩,(h.tt t ht).1.cap,(h.tt t ht).1.ok,(h.tt t ht).1.few⟩,(h.tt t ht).2⟩,
  fun x hx=>⟨(h.pt x hx).per,(h.pt x hx).name,(h.pt x hx).few,(h.pt x hx).procs.only ho (h.sp x hx)⟩,h.s3,h.st,h.sp⟩
theorem Ey.cell{α:Type}{E s:Nat}{f:α->List Value}{w:World}{B g n c:Nat}{l:List α}(h:Ey E s f w B (some ⟨g,0,none⟩) n c l)(hf:∀ x,(f x).length=s){i k:Nat}{x:α}{v:Value}(hx:l[i]? = some x)(hk:k < s)(hv:(f x)[k]? = some v):w.cell? ⟨g,i*s+k,none⟩=some v/\w.frozen? ⟨g,i*s+k,none⟩=false:=by
 have hi:i < l.length:=(Af.1 hx).1;have h1:(i+1)*s<=l.length*s:=Cd _ hi;rw[Db] at h1;refine⟨?_,Aq h.own _⟩;rw[Ah h.own (i*s+k) (by rw[<- h.len];omega),Lo hf l i k x hx hk];exact hv
theorem Ey.put{α:Type}{E s:Nat}{f:α->List Value}{w:World}{B g n c:Nat}{l:List α}(h:Ey E s f w B (some ⟨g,0,none⟩) n c l)(hf:∀ x,(f x).length=s){i k:Nat}{x y:α}{v:Value}(hx:l[i]? = some x)(hk:k < s)(hy:f y=(f x).set k v):
  Ey E s f (w.setCell ⟨g,i*s+k,none⟩ v) B (some ⟨g,0,none⟩) n c (l.set i y):=by
 have hi:i < l.length:=(Af.1 hx).1;have h1:(i+1)*s<=l.length*s:=Cd _ hi;rw[Db] at h1;refine⟨by rw[List.length_set];exact h.len,?_⟩;rw[df hf l i k x y v hx hk hy];refine h.own.set (i*s+k) v ?_;rw[Ln hf];omega
theorem Ey.gb{α:Type}{E s:Nat}{f:α->List Value}{w w':World}{B b n c:Nat}{A:Option Addr}{l:List α}(h:Ey E s f w B A n c l)(hg:w.grownBy w' (some b))(hb:b < B):Ey E s f w' B A n c l:=⟨h.len,h.own.gb hg hb⟩
def coreP(x:PtV):PtV:={ x with bud:=0,per:=0 }
def coreC(x:ChV):ChV:={ x with late:=0 }
structure Gv(p:Nat->Prop)(B b:Nat)(A:Option Addr)(m c:Nat)(f:Nat->Int)(A1 A2:Option Addr)(n1 n2 c1 c2 B1:Nat)(P0:List PtV)(C0:List ChV)(W w:World)(P:List PtV)(C:List ChV):Prop where
 pp:Ey 60 11 pcl w B1 A1 n1 c1 P
 ch:Ey 66 6 cc w B1 A2 n2 c2 C
 pm:P.map coreP=P0.map coreP
 cm:C.map coreC=C0.map coreC
 tp:∃ at_,Eb w B b A m c f at_
 on:Only p W w
section
variable {p:Nat->Prop} {B b:Nat} {A:Option Addr} {m c:Nat} {f:Nat->Int} {A1 A2:Option Addr} {n1 n2 c1 c2 B1:Nat} {P0:List PtV} {C0:List ChV} {W w w':World} {P:List PtV} {C:List ChV}
theorem Gv.bel(h:Gv p B b A m c f A1 A2 n1 n2 c1 c2 B1 P0 C0 W w P C)(hb:Below w.heap.size w w'):Gv p B b A m c f A1 A2 n1 n2 c1 c2 B1 P0 C0 W w' P C:=by
 obtain⟨at_,T⟩:=h.tp;exact⟨h.pp.below hb,h.ch.below hb,h.pm,h.cm,⟨at_,T.below hb T.lt⟩,h.on.trans (Only.bel hb)⟩
theorem Gv.next(h:Gv p B b A m c f A1 A2 n1 n2 c1 c2 B1 P0 C0 W w P C){at_:Nat}(T:Eb w' B b A m c f at_)(hg:w.grownBy w' (some b))(hb:b < B1)(hp:p b):Gv p B b A m c f A1 A2 n1 n2 c1 c2 B1 P0 C0 W w' P C :=
 ⟨h.pp.gb hg hb,h.ch.gb hg hb,h.pm,h.cm,⟨at_,T⟩,h.on.trans (Only.gb hg hp)⟩
theorem Eb.other{at_:Nat}(h:Eb w B b A m c f at_)(q:Addr)(v:Value)(hq:B1<=q.block)(hb:b < B1):Eb (w.setCell q v) B b A m c f at_ :=
 h.below (Bs:=B1) ((Aj _ _).setCell hq v) hb
theorem Lj{α β:Type}{f:α->β}{l:List α}{i:Nat}{x y:α}(hx:l[i]? = some x)(h:f y=f x):(l.set i y).map f=l.map f:=by
 obtain⟨hi,e⟩:=Af.1 hx;apply List.ext_getElem?;intro j;rw[Bm,Bm,List.getElem?_set];by_cases hj:i=j
 ·subst hj;rw[if_pos rfl,if_pos hi,hx];simp[h]
 rw[if_neg hj]
theorem Gv.late{g:Nat}(h:Gv p B b A m c f A1 (some ⟨g,0,none⟩) n1 n2 c1 c2 B1 P0 C0 W w P C){i:Nat}{x:ChV}(hx:C[i]? = some x)(z:Int)(hb:b < B1)(hp:p g)(aB:obk A1≠some g):
  Gv p B b A m c f A1 (some ⟨g,0,none⟩) n1 n2 c1 c2 B1 P0 C0 W (w.setCell ⟨g,i*6+5,none⟩ (.int .i64 z)) P (C.set i { x with late:=z }):=by
 obtain⟨at_,T⟩:=h.tp;have aA:B1<=g:=(h.ch.own.obk_ge rfl).1;exact⟨h.pp.other _ _ fun g' e=>fun e2=>aB (by rw[e];exact congrArg some e2),h.ch.put Gk hx (by omega) (jj x z),h.pm,(Lj hx (show coreC { x with late:=z }=coreC x from rfl)).trans h.cm,⟨at_,T.other ⟨g,i*6+5,none⟩ _ aA hb⟩,h.on.trans (Only.set _ _ _ hp)⟩
theorem Gv.ask{g:Nat}(h:Gv p B b A m c f (some ⟨g,0,none⟩) A2 n1 n2 c1 c2 B1 P0 C0 W w P C){i:Nat}{x:PtV}(hx:P[i]? = some x)(y z:Int)(hb:b < B1)(hp:p g)(aB:obk A2≠some g):
  Gv p B b A m c f (some ⟨g,0,none⟩) A2 n1 n2 c1 c2 B1 P0 C0 W ((w.setCell ⟨g,i*11+1,none⟩ (.int .i64 y)).setCell ⟨g,i*11+2,none⟩ (.int .i64 z)) (P.set i { x with bud:=y,per:=z }) C:=by
 obtain⟨at_,T⟩:=h.tp;have aA:B1<=g:=(h.pp.own.obk_ge rfl).1;have h1:=h.pp.put Hn hx (by omega) (g8 x y);have aC:(P.set i { x with bud:=y })[i]? = some { x with bud:=y }:=List.getElem?_set_self (Af.1 hx).1;have h2:=h1.put Hn aC (by omega) (gz { x with bud:=y } z);rw[List.set_set] at h2;exact⟨h2,(h.ch.other _ _ fun g' e=>fun e2=>aB (by rw[e];exact congrArg some e2)).other _ _ fun g' e=>fun e2=>aB (by rw[e];exact congrArg some e2),(Lj hx (show coreP { x with bud:=y,per:=z }=coreP x from rfl)).trans h.pm,h.cm,
  ⟨at_,(T.other ⟨g,i*11+1,none⟩ _ aA hb).other ⟨g,i*11+2,none⟩ _ aA hb⟩,(h.on.trans (Only.set _ _ _ hp)).trans (Only.set _ _ _ hp)⟩
end
theorem Ra{w:World}{g:Nat}{v0 v1 v2:Value}(h0:w.cell? ⟨g,0,none⟩=some v0)(h1:w.cell? ⟨g,1,none⟩=some v1)(h2:w.cell? ⟨g,2,none⟩=some v2):(loadVar 31 ⟨g,0,none⟩).run Tryz.prog w=.ok (.agg #[v0,v1,v2]) w:=by
 have e:(isAgg 31).run Tryz.prog w=.ok true w:=by go_simp
 have e2:(sizeOf 31).run Tryz.prog w=.ok 3 w:=by go_simp
 unfold loadVar;rw[Sem.run_bind,e,At];simp only[if_true];rw[Sem.run_bind,e2,At,Sem.run_bind];have:=run_loadCells_list (P:=Tryz.prog) (w:=w) ⟨g,0,none⟩ [v0,v1,v2] (fun j v hj=>by
  match j with
  | 0=>simp at hj;subst hj;simpa [Addr.add] using h0
  | 1=>simp at hj;subst hj;simpa [Addr.add] using h1
  | 2=>simp at hj;subst hj;simpa [Addr.add] using h2
  | j+3=>simp at hj)
 simp only[Ad,Bh] at this;rw[this,At];rfl
theorem Ik{fn:Func}{p:Tmp}(h:fn.results=#[.cell p 31]){aA:Array Value}{w:World}{g:Nat}{v0 v1 v2:Value}(hp:aA.getD p undef=.pointer (some ⟨g,0,none⟩))(h0:w.cell? ⟨g,0,none⟩=some v0)(h1:w.cell? ⟨g,1,none⟩=some v1)(h2:w.cell? ⟨g,2,none⟩=some v2):
  (results fn aA).run Tryz.prog w=.ok (.agg #[v0,v1,v2]) w:=by
 have e:(asAddr (.pointer (some ⟨g,0,none⟩))).run Tryz.prog w=.ok ⟨g,0,none⟩ w:=rfl;rw[Gm h,hp,e,At,Ra h0 h1 h2]
theorem Only.new{p:Nat->Prop}{w w':World}(h:Only p w w')(a:Addr)(v:Value)(ha:w.heap.size<=a.block):Only p w (w'.setCell a v) :=
 ⟨h.os,h.tape,h.output,by have:=h.size;simpa using this,fun k hk hn=>(Bn w' a v k (by omega)).trans (h.block k hk hn)⟩
def Fo(w:World)(g:Nat)(v0 v1 v2:Value):World:=((w.setCell ⟨g,0,none⟩ v0).setCell ⟨g,1,none⟩ v1).setCell ⟨g,2,none⟩ v2
theorem Ns{w:World}{g:Nat}{f:Nat->Value}(h:Vec w g 3 f)(v0 v1 v2:Value):(Fo w g v0 v1 v2).cell? ⟨g,0,none⟩=some v0/\(Fo w g v0 v1 v2).cell? ⟨g,1,none⟩=some v1/\(Fo w g v0 v1 v2).cell? ⟨g,2,none⟩=some v2:=by
 have h3:=((h.set 0 v0).set 1 v1).set 2 v2;refine⟨(h3.cell 0 (by omega)).trans ?_,(h3.cell 1 (by omega)).trans ?_,(h3.cell 2 (by omega)).trans ?_⟩ <;> rfl
theorem Gv.res{p:Nat->Prop}{B b:Nat}{A:Option Addr}{m c:Nat}{f:Nat->Int}{A1 A2:Option Addr}{n1 n2 c1 c2 B1:Nat}{P0:List PtV}{C0:List ChV}{w0 W w:World}{P:List PtV}{C:List ChV}
  (h:Gv p B b A m c f A1 A2 n1 n2 c1 c2 B1 P0 C0 W w P C) (h0:Only p w0 W) (g:Nat) (v0 v1 v2:Value) (hg:w0.heap.size<=g) (hp:∀ k,p k->k < w0.heap.size) (hb:p b) (h1:∀ k,obk A1=some k->p k) (h2:∀ k,obk A2=some k->p k) :
  RdB pcl (Fo w g v0 v1 v2) (Fo w g v0 v1 v2).heap.size A1 n1 P/\RdB cc (Fo w g v0 v1 v2) (Fo w g v0 v1 v2).heap.size A2 n2 C/\(∃ at_,Eb (Fo w g v0 v1 v2) B b A m c f at_)/\Only p w0 (Fo w g v0 v1 v2)/\Ey 60 11 pcl (Fo w g v0 v1 v2) B1 A1 n1 c1 P/\Ey 66 6 cc (Fo w g v0 v1 v2) B1 A2 n2 c2 C:=by
 have hs:(Fo w g v0 v1 v2).heap.size=w.heap.size:=by simp[Fo]
 have aB:∀ k,obk A1=some k->k≠g:=fun k e=>by have:=hp k (h1 k e);omega
 have aA:∀ k,obk A2=some k->k≠g:=fun k e=>by have:=hp k (h2 k e);omega
 obtain⟨at_,T⟩:=h.tp;have aC:Below w0.heap.size w (Fo w g v0 v1 v2):=(((Aj _ _).setCell (p:=⟨g,0,none⟩) hg v0).setCell (p:=⟨g,1,none⟩) hg v1).setCell (p:=⟨g,2,none⟩) hg v2;refine⟨?_,?_,⟨at_,T.below aC (hp b hb)⟩,(((h0.trans h.on).new ⟨g,0,none⟩ v0 hg).new ⟨g,1,none⟩ v1 hg).new ⟨g,2,none⟩ v2 hg,?_,?_⟩
 ·rw[hs];exact((h.pp.rdb.other ⟨g,0,none⟩ v0 aB).other ⟨g,1,none⟩ v1 aB).other ⟨g,2,none⟩ v2 aB
 ·rw[hs];exact((h.ch.rdb.other ⟨g,0,none⟩ v0 aA).other ⟨g,1,none⟩ v1 aA).other ⟨g,2,none⟩ v2 aA
 ·have k1:∀ g':Nat,A1=some ⟨g',0,none⟩->g'≠g:=fun g' e=>aB g' (by rw[e];rfl);exact((h.pp.other ⟨g,0,none⟩ v0 k1).other ⟨g,1,none⟩ v1 k1).other ⟨g,2,none⟩ v2 k1
 have k2:∀ g':Nat,A2=some ⟨g',0,none⟩->g'≠g:=fun g' e=>aA g' (by rw[e];rfl);exact((h.ch.other ⟨g,0,none⟩ v0 k2).other ⟨g,1,none⟩ v1 k2).other ⟨g,2,none⟩ v2 k2
def Vv(v0 v1 v2:Value)(j:Nat):Value:=if j=0 then v0 else if j=1 then v1 else v2
structure CfgS(B b:Nat)(A:Option Addr)(m c:Nat)(f:Nat->Int)(w:World)(gr gc BB:Nat)(A1 A2 A3:Option Addr)(n1 n2 n3 c1 c2 c3:Nat)(P:List PtV)(C:List ChV)(T:List TbV)(wr:World):Prop where
 tp:∃ at_,Eb wr B b A m c f at_
 gb:w.grownBy wr (some b)
 cf:Vec wr gc 3 (Vv (.slice A1 n1 c1) (.slice A2 n2 c2) (.slice A3 n3 c3))
 rs:Vec wr gr 3 (Vv (.slice none 0 0) (.slice none 0 0) (.slice none 0 0))
 pp:Ey 60 11 pcl wr BB A1 n1 c1 P
 ch:Ey 66 6 cc wr BB A2 n2 c2 C
 tb:Ey 34 1 tcl wr BB A3 n3 c3 T
 pt:∀ x∈P,Ov wr wr.heap.size x/\∀ k,obk x.pa=some k->BB<=k/\k < wr.heap.size/\obk A1≠some k/\obk A2≠some k/\obk A3≠some k
 tt:∀ t∈T,(Mg wr wr.heap.size t/\Lu t)/\∀ k,obk t.A=some k->BB<=k/\k < wr.heap.size/\obk A1≠some k/\obk A2≠some k/\obk A3≠some k
 d12:∀ k,obk A1=some k->obk A2≠some k
 d13:∀ k,obk A1=some k->obk A3≠some k
 d23:∀ k,obk A2=some k->obk A3≠some k
structure CfgB(b:Nat)(w:World)(gr gc BB:Nat):Prop where
 br:b < gr
 wr:gr=w.heap.size
 rc:gc=gr+1
 cB:BB=gc+1
section
variable {B b:Nat} {A:Option Addr} {m c:Nat} {f:Nat->Int} {w:World} {gr gc BB:Nat} {A1 A2 A3:Option Addr} {n1 n2 n3 c1 c2 c3:Nat} {P:List PtV} {C:List ChV} {T:List TbV} {wr w':World}
theorem Ov.only{p:Nat->Prop}{x:PtV}(h:Ov wr wr.heap.size x)(ho:Only p wr w')(hA:∀ b,obk x.pa=some b->¬ p b):Ov w' w'.heap.size x:=⟨h.per,h.name,h.few,h.procs.only ho hA⟩
theorem Mg.only{p:Nat->Prop}{t:TbV}(h:Mg wr wr.heap.size t)(ho:Only p wr w')(hA:∀ b,obk t.A=some b->¬ p b):Mg w' w'.heap.size t:=⟨⟨h.rd.len,ho.rdv (B:=0) h.rd.rd hA,h.rd.bd⟩,h.cap,h.ok,h.few⟩
theorem CfgS.only(h:CfgS B b A m c f w gr gc BB A1 A2 A3 n1 n2 n3 c1 c2 c3 P C T wr)(hB:CfgB b w gr gc BB)(ho:Only (fun k=>k=b) wr w')(ht:∃ at_,Eb w' B b A m c f at_):CfgS B b A m c f w gr gc BB A1 A2 A3 n1 n2 n3 c1 c2 c3 P C T w':=by
 have h1:=hB.br;have h2:=hB.wr;have h3:=hB.rc;have h4:=hB.cB;have hs:=h.gb.size;refine⟨ht,⟨ho.os.trans h.gb.os,ho.tape.trans h.gb.tape,ho.output.trans h.gb.output,Ai h.gb.size ho.size,fun k hk aA=>(ho.block k (by omega) fun e=>aA (by rw[e])).trans (h.gb.block k hk aA)⟩,
  h.cf.keep (ho.block gc h.cf.lt (by omega)) ho.size,h.rs.keep (ho.block gr h.rs.lt (by omega)) ho.size,⟨h.pp.len,h.pp.own.keep fun k hk hl=>ho.block k hl (by omega)⟩,⟨h.ch.len,h.ch.own.keep fun k hk hl=>ho.block k hl (by omega)⟩,⟨h.tb.len,h.tb.own.keep fun k hk hl=>ho.block k hl (by omega)⟩,fun x hx=>?_,fun t ht=>?_,h.d12,h.d13,h.d23⟩
 ·obtain⟨p1,p2⟩:=h.pt x hx;exact⟨p1.only ho fun k hk e=>by have:=(p2 k hk).1;omega,fun k hk=>⟨(p2 k hk).1,Bc (p2 k hk).2.1 ho.size,(p2 k hk).2.2⟩⟩
 obtain⟨p1,p2⟩:=h.tt t ht;exact⟨⟨p1.1.only ho fun k hk e=>by have:=(p2 k hk).1;omega,p1.2⟩,fun k hk=>⟨(p2 k hk).1,Bc (p2 k hk).2.1 ho.size,(p2 k hk).2.2⟩⟩
theorem CfgS.bel(h:CfgS B b A m c f w gr gc BB A1 A2 A3 n1 n2 n3 c1 c2 c3 P C T wr)(hB:CfgB b w gr gc BB)(hb:Below wr.heap.size wr w'):CfgS B b A m c f w gr gc BB A1 A2 A3 n1 n2 n3 c1 c2 c3 P C T w':=by
 obtain⟨at_,ht⟩:=h.tp;exact h.only hB (Only.bel hb) ⟨at_,ht.below hb ht.lt⟩
theorem CfgS.next(h:CfgS B b A m c f w gr gc BB A1 A2 A3 n1 n2 n3 c1 c2 c3 P C T wr)(hB:CfgB b w gr gc BB){at_:Nat}(ht:Eb w' B b A m c f at_)(hg:wr.grownBy w' (some b)):CfgS B b A m c f w gr gc BB A1 A2 A3 n1 n2 n3 c1 c2 c3 P C T w' :=
 h.only hB (Only.gb hg rfl) ⟨at_,ht⟩
theorem Grew.keep{A0 A':Option Addr}{k:Nat}(hg:Grew A0 A' wr w')(hk:k < wr.heap.size)(hn:obk A0≠some k):w'.heap[k]? = wr.heap[k]?:=hg.gb.block k hk fun e=>hn e.symm
theorem Grew.apart{A0 A':Option Addr}{k:Nat}(hg:Grew A0 A' wr w')(hk:k < wr.heap.size)(hn:obk A0≠some k):obk A'≠some k:=by
 rcases hg.at_ with e | ⟨g,e,h⟩
 ·rw[e];exact hn
 rw[e];intro e2;injection e2 with e2;omega
theorem Grew.apart'{A0 A' D:Option Addr}(hg:Grew A0 A' wr w')(hD:∀ k,obk D=some k->k < wr.heap.size)(hn:∀ k,obk A0=some k->obk D≠some k):∀ k,obk A'=some k->obk D≠some k:=fun k e e2=>by
 rcases hg.at_ with e3 | ⟨g,e3,h⟩
 ·exact hn k (by rw[<- e3];exact e) e2
 ·have:=hD k e2
  rw[e3] at e
  injection e with e
  omega
theorem CfgS.part(h:CfgS B b A m c f w gr gc BB A1 A2 A3 n1 n2 n3 c1 c2 c3 P C T wr)(hB:CfgB b w gr gc BB){A':Option Addr}{c':Nat}{x:PtV}(hg:Grew A1 A' wr w')(ho:OwnV 60 11 w' BB A' (n1+1) c' ((P++[x]).flatMap pcl))(hx:Ov wr wr.heap.size x/\∀ k,obk x.pa=some k->BB<=k/\k < wr.heap.size/\obk A1≠some k/\obk A2≠some k/\obk A3≠some k):
  CfgS B b A m c f w gr gc BB A' A2 A3 (n1+1) n2 n3 c' c2 c3 (P++[x]) C T (w'.setCell ⟨gc,0,none⟩ (.slice A' (n1+1) c')):=by
 have h1:=hB.br;have h2:=hB.wr;have h3:=hB.rc;have h4:=hB.cB;have hs:=h.gb.size;have aG:obk A1≠some gc:=fun e=>by have:=(h.pp.own.obk_ge e).1;omega
 have aE:obk A'≠some gc:=hg.apart h.cf.lt aG;have aF:∀ k,k < BB->k < wr.heap.size->w'.heap[k]? = wr.heap[k]?:=fun k hk hl=>hg.keep hl fun e=>by have:=(h.pp.own.obk_ge e).1;omega
 have aB:∀ k v,k≠gc->(w'.setCell ⟨gc,0,none⟩ v).heap[k]? = w'.heap[k]?:=fun k v hk=>Bn _ _ _ _ hk;have aC:∀ v,(w'.setCell ⟨gc,0,none⟩ v).heap.size=w'.heap.size:=fun v=>by simp
 have aD:∀ v,Only (fun k=>obk A1=some k\/k=gc) wr (w'.setCell ⟨gc,0,none⟩ v):=fun v=>⟨hg.gb.os,hg.gb.tape,hg.gb.output,by rw[aC];exact hg.gb.size,fun k hk hn=>(aB k v fun e=>hn (.inr e)).trans (hg.keep hk fun e=>hn (.inl e))⟩;have aA:∀ v k,k < wr.heap.size->obk A1≠some k->k≠gc->(w'.setCell ⟨gc,0,none⟩ v).heap[k]? = wr.heap[k]?:=fun v k hk h1 h2=>(aB k v h2).trans (hg.keep hk h1);obtain⟨at_,ht⟩:=h.tp;refine⟨⟨at_,ht.below (Bs:=gc) ⟨hg.gb.os,hg.gb.tape,hg.gb.output,by rw[aC];exact hg.gb.size,fun k hk=>(aB k _ (by omega)).trans (aF k (by omega) (by have:=h.cf.lt;omega))⟩ (by omega)⟩,⟨hg.gb.os.trans h.gb.os,hg.gb.tape.trans h.gb.tape,hg.gb.output.trans h.gb.output,by rw[aC];exact Ai h.gb.size hg.gb.size,fun k hk aH=>((aB k _ (by omega)).trans (aF k (by omega) (by omega))).trans (h.gb.block k hk aH)⟩,
  ((h.cf.keep (hg.keep h.cf.lt aG) hg.gb.size).set 0 _).congr fun j hj=>?_,h.rs.keep (aA _ gr h.rs.lt (fun e=>by have:=(h.pp.own.obk_ge e).1;omega) (by omega)) (by rw[aC];exact hg.gb.size),⟨by rw[Aa,h.pp.len];rfl,ho.other ⟨gc,0,none⟩ _ fun g e e2=>aE (by rw[e];exact congrArg some e2)⟩,⟨h.ch.len,h.ch.own.keep' fun k hk=>aA _ k (h.ch.own.obk_ge hk).2 (fun e=>h.d12 k e hk) (by have:=(h.ch.own.obk_ge hk).1;omega)⟩,⟨h.tb.len,h.tb.own.keep' fun k hk=>aA _ k (h.tb.own.obk_ge hk).2 (fun e=>h.d13 k e hk) (by have:=(h.tb.own.obk_ge hk).1;omega)⟩,fun y hy=>?_,fun y hy=>?_,hg.apart' (fun k hk=>(h.ch.own.obk_ge hk).2) h.d12,hg.apart' (fun k hk=>(h.tb.own.obk_ge hk).2) h.d13,h.d23⟩
 ·unfold put1 Vv;rcases(by omega:j=0\/j=1\/j=2) with rfl | rfl | rfl <;> rfl
 ·rcases Ay.1 hy with hy | hy
  ·obtain⟨p1,p2⟩:=h.pt y hy;exact⟨p1.only (aD _) (fun k hk e=>by
     rcases e with e | e
     ·exact(p2 k hk).2.2.1 e
     have:=(p2 k hk).1;omega),fun k hk=>⟨(p2 k hk).1,by rw[aC];exact Bc (p2 k hk).2.1 hg.gb.size,hg.apart (p2 k hk).2.1 (p2 k hk).2.2.1,(p2 k hk).2.2.2.1,(p2 k hk).2.2.2.2⟩⟩
  simp at hy;subst hy;obtain⟨p1,p2⟩:=hx;exact⟨p1.only (aD _) (fun k hk e=>by
    rcases e with e | e
    ·exact(p2 k hk).2.2.1 e
    have:=(p2 k hk).1;omega),fun k hk=>⟨(p2 k hk).1,by rw[aC];exact Bc (p2 k hk).2.1 hg.gb.size,hg.apart (p2 k hk).2.1 (p2 k hk).2.2.1,(p2 k hk).2.2.2.1,(p2 k hk).2.2.2.2⟩⟩
 obtain⟨p1,p2⟩:=h.tt y hy;exact⟨⟨p1.1.only (aD _) (fun k hk e=>by
   rcases e with e | e
   ·exact(p2 k hk).2.2.1 e
   have:=(p2 k hk).1;omega),p1.2⟩,fun k hk=>⟨(p2 k hk).1,by rw[aC];exact Bc (p2 k hk).2.1 hg.gb.size,hg.apart (p2 k hk).2.1 (p2 k hk).2.2.1,(p2 k hk).2.2.2.1,(p2 k hk).2.2.2.2⟩⟩
theorem CfgS.chan(h:CfgS B b A m c f w gr gc BB A1 A2 A3 n1 n2 n3 c1 c2 c3 P C T wr)(hB:CfgB b w gr gc BB){A':Option Addr}{c':Nat}{x:ChV}(hg:Grew A2 A' wr w')(ho:OwnV 66 6 w' BB A' (n2+1) c' ((C++[x]).flatMap cc)):
  CfgS B b A m c f w gr gc BB A1 A' A3 n1 (n2+1) n3 c1 c' c3 P (C++[x]) T (w'.setCell ⟨gc,1,none⟩ (.slice A' (n2+1) c')):=by
 have h1:=hB.br;have h2:=hB.wr;have h3:=hB.rc;have h4:=hB.cB;have hs:=h.gb.size;have aG:obk A2≠some gc:=fun e=>by have:=(h.ch.own.obk_ge e).1;omega
 have aD:obk A'≠some gc:=hg.apart h.cf.lt aG;have aF:∀ k,k < BB->k < wr.heap.size->w'.heap[k]? = wr.heap[k]?:=fun k hk hl=>hg.keep hl fun e=>by have:=(h.ch.own.obk_ge e).1;omega
 have aB:∀ k v,k≠gc->(w'.setCell ⟨gc,1,none⟩ v).heap[k]? = w'.heap[k]?:=fun k v hk=>Bn _ _ _ _ hk;have aC:∀ v,(w'.setCell ⟨gc,1,none⟩ v).heap.size=w'.heap.size:=fun v=>by simp
 have aE:∀ v,Only (fun k=>obk A2=some k\/k=gc) wr (w'.setCell ⟨gc,1,none⟩ v):=fun v=>⟨hg.gb.os,hg.gb.tape,hg.gb.output,by rw[aC];exact hg.gb.size,fun k hk hn=>(aB k v fun e=>hn (.inr e)).trans (hg.keep hk fun e=>hn (.inl e))⟩;have aA:∀ v k,k < wr.heap.size->obk A2≠some k->k≠gc->(w'.setCell ⟨gc,1,none⟩ v).heap[k]? = wr.heap[k]?:=fun v k hk h1 h2=>(aB k v h2).trans (hg.keep hk h1);obtain⟨at_,ht⟩:=h.tp;refine⟨⟨at_,ht.below (Bs:=gc) ⟨hg.gb.os,hg.gb.tape,hg.gb.output,by rw[aC];exact hg.gb.size,fun k hk=>(aB k _ (by omega)).trans (aF k (by omega) (by have:=h.cf.lt;omega))⟩ (by omega)⟩,⟨hg.gb.os.trans h.gb.os,hg.gb.tape.trans h.gb.tape,hg.gb.output.trans h.gb.output,by rw[aC];exact Ai h.gb.size hg.gb.size,fun k hk aH=>((aB k _ (by omega)).trans (aF k (by omega) (by omega))).trans (h.gb.block k hk aH)⟩,
  ((h.cf.keep (hg.keep h.cf.lt aG) hg.gb.size).set 1 _).congr fun j hj=>?_,h.rs.keep (aA _ gr h.rs.lt (fun e=>by have:=(h.ch.own.obk_ge e).1;omega) (by omega)) (by rw[aC];exact hg.gb.size),⟨h.pp.len,h.pp.own.keep' fun k hk=>aA _ k (h.pp.own.obk_ge hk).2 (fun e=>h.d12 k hk e) (by have:=(h.pp.own.obk_ge hk).1;omega)⟩,⟨by rw[Aa,h.ch.len];rfl,ho.other ⟨gc,1,none⟩ _ fun g e e2=>aD (by rw[e];exact congrArg some e2)⟩,⟨h.tb.len,h.tb.own.keep' fun k hk=>aA _ k (h.tb.own.obk_ge hk).2 (fun e=>h.d23 k e hk) (by have:=(h.tb.own.obk_ge hk).1;omega)⟩,fun y hy=>?_,fun y hy=>?_,fun k hk e=>hg.apart' (D:=A1) (fun k hk=>(h.pp.own.obk_ge hk).2) (fun k e e2=>h.d12 k e2 e) k e hk,h.d13,hg.apart' (fun k hk=>(h.tb.own.obk_ge hk).2) h.d23⟩
 ·unfold put1 Vv;rcases(by omega:j=0\/j=1\/j=2) with rfl | rfl | rfl <;> rfl
 ·obtain⟨p1,p2⟩:=h.pt y hy;exact⟨p1.only (aE _) (fun k hk e=>by
    rcases e with e | e
    ·exact(p2 k hk).2.2.2.1 e
    have:=(p2 k hk).1;omega),fun k hk=>⟨(p2 k hk).1,by rw[aC];exact Bc (p2 k hk).2.1 hg.gb.size,(p2 k hk).2.2.1,hg.apart (p2 k hk).2.1 (p2 k hk).2.2.2.1,(p2 k hk).2.2.2.2⟩⟩
 obtain⟨p1,p2⟩:=h.tt y hy;exact⟨⟨p1.1.only (aE _) (fun k hk e=>by
   rcases e with e | e
   ·exact(p2 k hk).2.2.2.1 e
   have:=(p2 k hk).1;omega),p1.2⟩,fun k hk=>⟨(p2 k hk).1,by rw[aC];exact Bc (p2 k hk).2.1 hg.gb.size,(p2 k hk).2.2.1,hg.apart (p2 k hk).2.1 (p2 k hk).2.2.2.1,(p2 k hk).2.2.2.2⟩⟩
theorem CfgS.tabl(h:CfgS B b A m c f w gr gc BB A1 A2 A3 n1 n2 n3 c1 c2 c3 P C T wr)(hB:CfgB b w gr gc BB){A':Option Addr}{c':Nat}{x:TbV}(hg:Grew A3 A' wr w')(ho:OwnV 34 1 w' BB A' (n3+1) c' ((T++[x]).flatMap tcl))(hx:(Mg wr wr.heap.size x/\Lu x)/\∀ k,obk x.A=some k->BB<=k/\k < wr.heap.size/\obk A1≠some k/\obk A2≠some k/\obk A3≠some k):
  CfgS B b A m c f w gr gc BB A1 A2 A' n1 n2 (n3+1) c1 c2 c' P C (T++[x]) (w'.setCell ⟨gc,2,none⟩ (.slice A' (n3+1) c')):=by
 have h1:=hB.br;have h2:=hB.wr;have h3:=hB.rc;have h4:=hB.cB;have hs:=h.gb.size;have aG:obk A3≠some gc:=fun e=>by have:=(h.tb.own.obk_ge e).1;omega
 have aE:obk A'≠some gc:=hg.apart h.cf.lt aG;have aF:∀ k,k < BB->k < wr.heap.size->w'.heap[k]? = wr.heap[k]?:=fun k hk hl=>hg.keep hl fun e=>by have:=(h.tb.own.obk_ge e).1;omega
 have aB:∀ k v,k≠gc->(w'.setCell ⟨gc,2,none⟩ v).heap[k]? = w'.heap[k]?:=fun k v hk=>Bn _ _ _ _ hk;have aC:∀ v,(w'.setCell ⟨gc,2,none⟩ v).heap.size=w'.heap.size:=fun v=>by simp
 have aD:∀ v,Only (fun k=>obk A3=some k\/k=gc) wr (w'.setCell ⟨gc,2,none⟩ v):=fun v=>⟨hg.gb.os,hg.gb.tape,hg.gb.output,by rw[aC];exact hg.gb.size,fun k hk hn=>(aB k v fun e=>hn (.inr e)).trans (hg.keep hk fun e=>hn (.inl e))⟩;have aA:∀ v k,k < wr.heap.size->obk A3≠some k->k≠gc->(w'.setCell ⟨gc,2,none⟩ v).heap[k]? = wr.heap[k]?:=fun v k hk h1 h2=>(aB k v h2).trans (hg.keep hk h1);obtain⟨at_,ht⟩:=h.tp;refine⟨⟨at_,ht.below (Bs:=gc) ⟨hg.gb.os,hg.gb.tape,hg.gb.output,by rw[aC];exact hg.gb.size,fun k hk=>(aB k _ (by omega)).trans (aF k (by omega) (by have:=h.cf.lt;omega))⟩ (by omega)⟩,⟨hg.gb.os.trans h.gb.os,hg.gb.tape.trans h.gb.tape,hg.gb.output.trans h.gb.output,by rw[aC];exact Ai h.gb.size hg.gb.size,fun k hk aH=>((aB k _ (by omega)).trans (aF k (by omega) (by omega))).trans (h.gb.block k hk aH)⟩,
  ((h.cf.keep (hg.keep h.cf.lt aG) hg.gb.size).set 2 _).congr fun j hj=>?_,h.rs.keep (aA _ gr h.rs.lt (fun e=>by have:=(h.tb.own.obk_ge e).1;omega) (by omega)) (by rw[aC];exact hg.gb.size),⟨h.pp.len,h.pp.own.keep' fun k hk=>aA _ k (h.pp.own.obk_ge hk).2 (fun e=>h.d13 k hk e) (by have:=(h.pp.own.obk_ge hk).1;omega)⟩,⟨h.ch.len,h.ch.own.keep' fun k hk=>aA _ k (h.ch.own.obk_ge hk).2 (fun e=>h.d23 k hk e) (by have:=(h.ch.own.obk_ge hk).1;omega)⟩,⟨by rw[Aa,h.tb.len];rfl,ho.other ⟨gc,2,none⟩ _ fun g e e2=>aE (by rw[e];exact congrArg some e2)⟩,fun y hy=>?_,fun y hy=>?_,h.d12,fun k hk e=>hg.apart' (D:=A1) (fun k hk=>(h.pp.own.obk_ge hk).2) (fun k e e2=>h.d13 k e2 e) k e hk,fun k hk e=>hg.apart' (D:=A2) (fun k hk=>(h.ch.own.obk_ge hk).2) (fun k e e2=>h.d23 k e2 e) k e hk⟩
 ·unfold put1 Vv;rcases(by omega:j=0\/j=1\/j=2) with rfl | rfl | rfl <;> rfl
 ·obtain⟨p1,p2⟩:=h.pt y hy;exact⟨p1.only (aD _) (fun k hk e=>by
    rcases e with e | e
    ·exact(p2 k hk).2.2.2.2 e
    have:=(p2 k hk).1;omega),fun k hk=>⟨(p2 k hk).1,by rw[aC];exact Bc (p2 k hk).2.1 hg.gb.size,(p2 k hk).2.2.1,(p2 k hk).2.2.2.1,hg.apart (p2 k hk).2.1 (p2 k hk).2.2.2.2⟩⟩
 rcases Ay.1 hy with hy | hy
 ·obtain⟨p1,p2⟩:=h.tt y hy;exact⟨⟨p1.1.only (aD _) (fun k hk e=>by
    rcases e with e | e
    ·exact(p2 k hk).2.2.2.2 e
    have:=(p2 k hk).1;omega),p1.2⟩,fun k hk=>⟨(p2 k hk).1,by rw[aC];exact Bc (p2 k hk).2.1 hg.gb.size,(p2 k hk).2.2.1,(p2 k hk).2.2.2.1,hg.apart (p2 k hk).2.1 (p2 k hk).2.2.2.2⟩⟩
 simp at hy;subst hy;obtain⟨p1,p2⟩:=hx;exact⟨⟨p1.1.only (aD _) (fun k hk e=>by
   rcases e with e | e
   ·exact(p2 k hk).2.2.2.2 e
   have:=(p2 k hk).1;omega),p1.2⟩,fun k hk=>⟨(p2 k hk).1,by rw[aC];exact Bc (p2 k hk).2.1 hg.gb.size,(p2 k hk).2.2.1,(p2 k hk).2.2.2.1,hg.apart (p2 k hk).2.1 (p2 k hk).2.2.2.2⟩⟩
end
end Go.Proofs.YtfmndmhjjbeokaaGreatDoor
namespace Go.Proofs.YtfmndmhjjbeokaaGreatDoor
open Go Go.RowKit
namespace Rgs
open Reg (waits writes left left_set all_listed Closed)
def good(ops:Array Oper)(n:Nat):Bool :=
 (List.range ops.size).all fun i=>match ops[i]? with
  | some o=>(match o.dst with
    | some d=>decide (d < n) && (List.range ops.size).all fun j=>j == i || (match ops[j]? with | some p=>!(p.dst == some d) | none=>true)
    | none=>true) && o.after.toList.all fun e=>!Region.binds .any e || decide (e.on < i)
  | none=>false
theorem good_at{ops:Array Oper}{n:Nat}(h:good ops n=true){i:Nat}{o:Oper}(hi:ops[i]? = some o):
  (∀ d,o.dst=some d->d < n/\∀ j p,ops[j]? = some p->j≠i->p.dst≠some d)/\∀ e∈o.after,Region.binds .any e=true->e.on < i:=by
 have aB:i < ops.size:=(Bt.1 hi).1;have h1:=Ct.1 h i (Cx.2 aB);rw[hi] at h1;simp only[Au] at h1;obtain⟨h2,h3⟩:=h1;refine⟨fun d hd=>?_,fun e he aD=>?_⟩
 ·rw[hd] at h2;simp only[Au,decide_eq_true_iff] at h2;refine⟨h2.1,fun j p hj aA=>?_⟩;have aC:j < ops.size:=(Bt.1 hj).1;have h4:=Ct.1 h2.2 j (Cx.2 aC);rw[hj] at h4;simp only[Dh,Ck,Bool.not_eq_true',Ak] at h4;exact h4.resolve_left aA
 have:=Ct.1 h3 e (Array.mem_toList_iff.2 he);rw[aD] at this;simpa using this
def upd(live:Nat->Bool)(i:Nat):Nat->Bool:=fun j=>j == i || live j
structure Inv(ops:Array Oper)(a0:Act)(V:Nat->Value->World->Prop)(W:(Nat->Bool)->Act->World->Prop)(listed:Array Bool)(a:Act)(w:World):Prop where
 size:a.tmps.size=a0.tmps.size
 defers:a.defers=a0.defers
 env:∀ t,writes ops t=false->a.eval (.tmp t)=a0.eval (.tmp t)
 val:∀ j o,ops[j]? = some o->listed.getD j false=true->∃ v,V j v w/\∀ d,o.dst=some d->a.eval (.tmp d)=v
 world:W (fun j=>listed.getD j false) a w
 closed:Closed ops fun j=>listed.getD j false
def Owes(live:Nat->Bool)(V:Nat->Value->World->Prop)(W:(Nat->Bool)->Act->World->Prop)(i:Nat)(o:Oper)(a:Act)(w:World)(a':Act)(w':World):Prop :=
 ∃ v,a'=a.put o.dst v/\V i v w'/\W (upd live i) (a.put o.dst v) w'/\∀ j v,live j=true->V j v w->V j v w'
theorem live_set{aA:Array Bool}{i:Nat}(hi:i < aA.size):(fun j=>(aA.setIfInBounds i true).getD j false)=upd (fun j=>aA.getD j false) i:=by
 funext j;unfold upd;by_cases h:j=i
 ·subst h;simp[hi]
 rw[getD_set_ne false (Ne.symm h)];simp[h]
theorem upd_off{live:Nat->Bool}{i k:Nat}(h:upd live i k=false):live k=false:=by
 unfold upd at h;cases e:live k with
 | false=>rfl
 | true=>rw[e] at h;simp at h
theorem upd_self(live:Nat->Bool)(i:Nat):upd live i i=true:=by simp[upd]
theorem put_none(a:Act)(v:Value):a.put none v=a:=rfl
theorem Inv.step{ops:Array Oper}{a0:Act}{V:Nat->Value->World->Prop}{W:(Nat->Bool)->Act->World->Prop}{aA:Array Bool}{a a':Act}{w w':World}(hg:good ops a0.tmps.size=true)
  {i:Nat} {o:Oper} (hi:ops[i]? = some o) (aE:i < aA.size) (h:Inv ops a0 V W aA a w) (hr:∀ k,waits o k=true->aA.getD k false=true) (hs:Owes (fun j=>aA.getD j false) V W i o a w a' w'):Inv ops a0 V W (aA.setIfInBounds i true) a' w':=by
 obtain⟨v,rfl,hv,hw,hm⟩:=hs;obtain⟨aI,_⟩:=good_at hg hi;have aF:Closed ops fun j=>(aA.setIfInBounds i true).getD j false:=fun j p hj hl k hk=>by
  by_cases aB:j=i
  ·subst aB;rw[hi] at hj;injection hj with hj;subst hj;exact getD_set_true (hr k hk)
  have aD:(aA.setIfInBounds i true).getD j false=true:=hl;rw[getD_set_ne false (Ne.symm aB)] at aD;exact getD_set_true (h.closed j p hj aD k hk)
 cases hd:o.dst with
 | none =>
  rw[hd] at hw;rw[put_none] at hw |-;refine⟨h.size,h.defers,h.env,fun j p hj hl=>?_,by rw[live_set aE];exact hw,aF⟩;by_cases aB:j=i
  ·subst aB;rw[hi] at hj;injection hj with hj;subst hj;exact⟨v,hv,fun d e=>by rw[hd] at e;cases e⟩
  rw[getD_set_ne false (Ne.symm aB)] at hl;obtain⟨u,hu,he⟩:=h.val j p hj hl;exact⟨u,hm j u hl hu,he⟩
 | some d =>
  rw[hd] at hw;obtain⟨aJ,aC⟩:=aI d hd;have aG:d < a.tmps.size:=by rw[h.size];exact aJ
  refine⟨by simp[Act.put,h.size],by simp[Act.put,h.defers],fun t ht=>?_,fun j p hj hl=>?_,by rw[live_set aE];exact hw,aF⟩
  ·have aH:d≠t:=by
    rintro rfl;have:writes ops d=true:=Ds.2 ⟨o,Array.mem_toList_iff.2 (Array.mem_of_getElem? hi),by simp[hd]⟩;rw[this] at ht;cases ht
   rw[Reg.eval_other _ _ _ _ aH];exact h.env t ht
  by_cases aB:j=i
  ·subst aB;rw[hi] at hj;injection hj with hj;subst hj;exact⟨v,hv,fun d' e=>by rw[hd] at e;injection e with e;subst e;exact Reg.eval_same _ _ _ aG⟩
  rw[getD_set_ne false (Ne.symm aB)] at hl;obtain⟨u,hu,he⟩:=h.val j p hj hl;refine⟨u,hm j u hl hu,fun d' e=>?_⟩;rw[Reg.eval_other _ _ _ _ fun e2=>aC j p hj aB (by rw[e,e2])];exact he d' e
theorem all_live{ops:Array Oper}{n:Nat}(hg:good ops n=true){aA:Array Bool}(hs:aA.size=ops.size)(hr:Region.ready .any ops aA=[]):
  ∀ j,j < ops.size->aA.getD j false=true:=by
 intro j;induction j using Nat.strongRecOn with
 | ind j ih =>
  intro hj;have aD:j < aA.size:=by omega
  cases hb:aA.getD j false with
  | true=>rfl
  | false =>
   have aE:aA.getD j true=false:=by
    simpa [aD] using hb
   obtain⟨o,ho⟩:∃ o,ops[j]? = some o:=⟨_,Array.getElem?_eq_getElem hj⟩;obtain⟨_,aB⟩:=good_at hg ho;have:j∈Region.ready .any ops aA:=mem_ready.2 ⟨aE,o,ho,fun e he aC=>ih e.on (aB e he aC) (by have:=aB e he aC;omega)⟩;rw[hr] at this;cases this
def Goal(P:Program)(ops:Array Oper)(Q:Exit->Act->World->Prop)(V:Nat->Value->World->Prop)(W:(Nat->Bool)->Act->World->Prop)(live:Nat->Bool)(i:Nat)(o:Oper)(a:Act)(w:World):Prop :=
 wpOp P ops Q i (Owes live V W i o a w) a w
def Step(P:Program)(ops:Array Oper)(Q:Exit->Act->World->Prop)(a0:Act)(V:Nat->Value->World->Prop)(W:(Nat->Bool)->Act->World->Prop)(i:Nat)(o:Oper):Prop :=
 ∀(a:Act) (w:World) (live:Nat->Bool),a.tmps.size=a0.tmps.size->(∀ t,writes ops t=false->a.eval (.tmp t)=a0.eval (.tmp t))->
  (∀ j,waits o j=true->∀ p d,ops[j]? = some p->p.dst=some d->V j (a.eval (.tmp d)) w)->Closed ops live->live i=false->(∀ k,waits o k=true->live k=true)->W live a w->Goal P ops Q V W live i o a w
def Steps(P:Program)(ops:Array Oper)(Q:Exit->Act->World->Prop)(a0:Act)(V:Nat->Value->World->Prop)(W:(Nat->Bool)->Act->World->Prop):Prop :=
 ∀ i o,ops[i]? = some o->Step P ops Q a0 V W i o
theorem any_of{P:Program}{ops:Array Oper}{Q:Exit->Act->World->Prop}{a0:Act}{V:Nat->Value->World->Prop}{W:(Nat->Bool)->Act->World->Prop}(hg:good ops a0.tmps.size=true)(aI:Steps P ops Q a0 V W)
  (aD:∀ aA a w,Inv ops a0 V W aA a w->(∀ j,j < ops.size->aA.getD j false=true)->Q .normal a w) :
  ∀(fuel:Nat) (aA:Array Bool) (a:Act) (w:World),aA.size=ops.size->left aA<=fuel->Inv ops a0 V W aA a w->wpAny P .any ops Q fuel aA a w:=by
 intro fuel;induction fuel with
 | zero =>
  intro aA a w hs hl h;have hr:Region.ready .any ops aA=[]:=by
   cases hc:Region.ready .any ops aA with
   | nil=>rfl
   | cons i r =>
    have hi:i∈Region.ready .any ops aA:=by rw[hc];exact List.mem_cons_self
    have:=left_set (mem_ready.1 hi).1;omega
  exact⟨hr,aD aA a w h (all_live hg hs hr)⟩
 | succ fuel ih =>
  intro aA a w hs hl h;refine⟨fun hr=>aD aA a w h (all_live hg hs hr),fun i hi=>?_⟩;obtain⟨h0,o,ho,aE⟩:=mem_ready.1 hi;have aJ:i < ops.size:=(Bt.1 ho).1;have aG:i < aA.size:=by omega
  have aB:∀ k,waits o k=true->k < i/\aA.getD k false=true:=fun k hk=>by
   obtain⟨e,he,aH⟩:=Ds.1 hk;have he:=Array.mem_toList_iff.1 he;simp only[Au,Ck] at aH;obtain⟨rfl,hb⟩:=aH;obtain⟨_,aF⟩:=good_at hg ho;exact⟨aF e he hb,aE e he hb⟩
  have aC:=aI i o ho a w (fun j=>aA.getD j false) h.size h.env (fun j hj p d hp hd=>by
   obtain⟨v,hv,he⟩:=h.val j p hp (aB j hj).2;rw[he d hd];exact hv) h.closed (by simpa [aG] using h0) (fun k hk=>(aB k hk).2) h.world
  refine wpOp_mono (fun a' w' hw=>?_) aC;refine ih _ a' w' (by simpa using hs) ?_ (h.step hg ho aG (fun k hk=>(aB k hk).2) hw);have:=left_set h0;omega
theorem region{P:Program}{id:Nat}{ops:Array Oper}{Q:Exit->Act->World->Prop}{a0:Act}{w0:World}(hm:P.follows .mixedOrders=true)(hg:good ops a0.tmps.size=true)(V:Nat->Value->World->Prop)(W:(Nat->Bool)->Act->World->Prop)
  (hW:W (fun _=>false) a0 w0.drew) (aF:Steps P ops Q a0 V W)
  (aE:∀ a w live,a.tmps.size=a0.tmps.size->a.defers=a0.defers->(∀ t,writes ops t=false->a.eval (.tmp t)=a0.eval (.tmp t))->(∀ j p,ops[j]? = some p->∃ v,V j v w/\∀ d,p.dst=some d->a.eval (.tmp d)=v)->(∀ j,j < ops.size->live j=true)->W live a w->Q .normal a w) :
  (Code.region id ops true).wp P Q a0 w0:=by
 refine wp_region_any hm ?_;have aB:(fun j=>(Array.replicate ops.size false).getD j false)=fun _=>false:=by
  funext j;by_cases hj:j < ops.size <;> simp[hj]
 refine any_of hg aF (fun aA a w h aC=>aE a w (fun j=>aA.getD j false) h.size h.defers h.env (fun j p hj=>h.val j p hj (aC j (Bt.1 hj).1)) aC h.world) ops.size (Array.replicate ops.size false) a0 w0.drew (by simp) ?_ ?_
 ·unfold left;have:=List.countP_le_length (p:=(· == false)) (l:=(Array.replicate ops.size false).toList);simpa using this
 refine⟨rfl,rfl,fun _ _=>rfl,fun j p hj hl=>?_,by rw[aB];exact hW,fun j p hj hl k hk=>?_⟩
 ·have aD:j < ops.size:=(Bt.1 hj).1;simp[aD] at hl
 have aD:j < ops.size:=(Bt.1 hj).1;have aG:(Array.replicate ops.size false).getD j false=true:=hl;simp[aD] at aG
theorem steps_of{P:Program}{l:List Oper}{Q:Exit->Act->World->Prop}{a0:Act}{V:Nat->Value->World->Prop}{W:(Nat->Bool)->Act->World->Prop}
  (h:Reg.All (fun i o=>Step P l.toArray Q a0 V W i o) 0 l):Steps P l.toArray Q a0 V W:=by
 intro i o hi;have:=Reg.All.get l 0 h i o (by simpa using hi);rwa [Dr] at this
section
variable {P:Program} {ops:Array Oper} {Q:Exit->Act->World->Prop} {V:Nat->Value->World->Prop} {W:(Nat->Bool)->Act->World->Prop} {live:Nat->Bool} {i:Nat} {o:Oper} {a:Act} {w:World}
theorem val(hi:ops[i]? = some o)(hw:Region.wanted o (yielded ops a.tmps)=true)(v:Value)(hr:(execOp a.eval o).run P w=.ok (.value v) w)(hv:V i v w)(hW:W (upd live i) (a.put o.dst v) w):Goal P ops Q V W live i o a w:=by
 unfold Goal wpOp;rw[hi];simp only[hw,if_true];refine .inl ?_;unfold Oper.wp;rw[hr];exact⟨v,rfl,hv,hW,fun _ _ _ h=>h⟩
theorem va(v:Value)(hW:W (upd live i) (a.put o.dst v) w)(hr:(execOp a.eval o).run P w=.ok (.value v) w:=by(have c:=Reg.consts a;generalize a.eval=ρ at *;simp [execOp,go_sem,c.1,c.2, *]))(hv:V i v w:=by rfl)(hi:ops[i]? = some o:=by rfl)(hg:o.guard=none:=by rfl):Goal P ops Q V W live i o a w:=val hi (Reg.wanted_free hg) v hr hv hW
theorem grow(hi:ops[i]? = some o)(hw:Region.wanted o (yielded ops a.tmps)=true)(v:Value)(w':World)(hr:(execOp a.eval o).run P w=.ok (.value v) w')(hv:V i v w')(hW:W (upd live i) (a.put o.dst v) w')
  (hm:∀ j v,live j=true->V j v w->V j v w'):Goal P ops Q V W live i o a w:=by
 unfold Goal wpOp;rw[hi];simp only[hw,if_true];refine .inl ?_;unfold Oper.wp;rw[hr];exact⟨v,rfl,hv,hW,hm⟩
theorem store(hi:ops[i]? = some o)(hw:Region.wanted o (yielded ops a.tmps)=true)(w':World)(hr:(execOp a.eval o).run P w=.ok .skip w')(hv:V i undef w')(hW:W (upd live i) (a.put o.dst undef) w')
  (hm:∀ j v,live j=true->V j v w->V j v w'):Goal P ops Q V W live i o a w:=by
 unfold Goal wpOp;rw[hi];simp only[hw,if_true];refine .inl ?_;unfold Oper.wp;rw[hr];exact⟨undef,rfl,hv,hW,hm⟩
theorem call(hi:ops[i]? = some o)(hw:Region.wanted o (yielded ops a.tmps)=true)(f:FuncId)(args:Array Value)(hr:(execOp a.eval o).run P w=.ok (.enter f args) w)
  (hc:Calls P f args w fun e w'=>∃ v,e=.returned v/\V i v w'/\W (upd live i) (a.put o.dst v) w'/\∀ j v,live j=true->V j v w->V j v w'):Goal P ops Q V W live i o a w:=by
 unfold Goal wpOp;rw[hi];simp only[hw,if_true];refine .inl ?_;unfold Oper.wp;rw[hr];refine hc.mono fun e w' he=>?_;obtain⟨v,rfl,h1,h2,h3⟩:=he;exact⟨v,rfl,h1,h2,h3⟩
theorem skip(hi:ops[i]? = some o)(hw:Region.wanted o (yielded ops a.tmps)=false)(hv:V i undef w)(hW:W (upd live i) (a.put o.dst undef) w):Goal P ops Q V W live i o a w:=by
 unfold Goal wpOp;rw[hi];simp only[hw];exact⟨undef,rfl,hv,hW,fun _ _ _ h=>h⟩
end
theorem wanted_not{ops:Array Oper}{o:Oper}{a:Act}{g:Nat}{aA b:Bool}(h:o.guard=some (g,aA)){t:Tmp}(ht:(ops[g]?).bind (·.dst)=some t)(hv:a.eval (.tmp t)=.bool b)(hb:(b == aA)=false):Region.wanted o (yielded ops a.tmps)=false:=by
 have aB:t < a.tmps.size:=by
  rcases Bk t a.tmps.size with h' | h'
  ·exact h'
  simp[Act.eval,Dn h',undef] at hv
 have h2:a.tmps[t]? = some (.bool b):=by
  simpa [Act.eval,aB] using hv
 simp only[Region.wanted,h,yielded,ht,As,h2];have:b≠aA:=by simpa using hb
 simp[this]
theorem foldl_set(g:Nat->Value)(ws:List Nat):∀ aA:Array Value,(ws.foldl (fun r t=>r.setIfInBounds t (g t)) aA).size=aA.size/\∀ t,t < aA.size->(ws.foldl (fun r t=>r.setIfInBounds t (g t)) aA)[t]? = if t∈ws then some (g t) else aA[t]?:=by
 induction ws with
 | nil=>intro aA;exact⟨rfl,fun t _=>by simp⟩
 | cons x ws ih =>
  intro aA;rw[List.foldl_cons];obtain⟨h1,h2⟩:=ih (aA.setIfInBounds x (g x));refine⟨by rw[h1];simp,fun t ht=>?_⟩;rw[h2 t (by simpa using ht)];by_cases hm:t∈ws
  ·rw[if_pos hm,if_pos (List.mem_cons_of_mem _ hm)]
  rw[if_neg hm];by_cases hx:t=x
  ·subst hx;rw[if_pos List.mem_cons_self];simp[ht]
  rw[if_neg (by simp[hx,hm]),Array.getElem?_setIfInBounds_ne (Ne.symm hx)]
theorem act_ws{ops:Array Oper}(a:Act)(T:Array Value)(dl:List Deferred)(hs:a.tmps.size=T.size)(hd:a.defers=dl)(E:∀ t,writes ops t=false->a.eval (.tmp t)=(Act.mk T dl).eval (.tmp t))(ws:List Nat)
  (hw:((List.range T.size).all fun t=>!writes ops t || ws.contains t)=true):a=⟨ws.foldl (fun r t=>r.setIfInBounds t (a.eval (.tmp t))) T,dl⟩:=by
 obtain⟨h1,h2⟩:=foldl_set (fun t=>a.eval (.tmp t)) ws T;obtain⟨aA,defers⟩:=a;simp only at hs hd;subst hd;congr 1;apply Array.ext_getElem?;intro t;by_cases ht:t < T.size
 ·rw[h2 t ht];have aB:aA[t]? = some ((Act.mk aA defers).eval (.tmp t)):=by
   have:t < aA.size:=by omega
   simp[Act.eval,this]
  by_cases hm:t∈ws
  ·rw[if_pos hm,aB]
  rw[if_neg hm,aB];have aC:writes ops t=false:=by
   have:=Ct.1 hw t (Cx.2 ht);simp only[Dh,Bool.not_eq_true'] at this;rcases this with h | h
   ·exact h
   exact absurd (List.contains_iff_mem.1 h) hm
  rw[E t aC];simp[Act.eval,ht]
 rw[Dn (by omega),Dn (by rw[h1];omega)]
section
variable {w0 w:World} {N i:Nat} {p:Addr} {v:Value} {live:Nat->Bool}
end
section
variable {w0 w:World} {N M i:Nat} {p q:Addr} {u v:Value} {live:Nat->Bool}
end
section
variable {w0 w1 w2 w:World} {N M i:Nat} {live:Nat->Bool}
end
end Rgs
section
variable {P:Program} {ops:Array Oper} {Q:Exit->Act->World->Prop} {V:Nat->Value->World->Prop} {W:(Nat->Bool)->Act->World->Prop} {live:Nat->Bool} {i:Nat} {o:Oper} {a:Act} {w:World}
theorem Du(D:∀ j,Reg.waits o j=true->∀ p d,ops[j]? = some p->p.dst=some d->V j (a.eval (.tmp d)) w)(j:Nat){p:Oper}{d:Tmp}(h1:Reg.waits o j=true:=by exact rfl)(h2:ops[j]? = some p:=by exact rfl)(h3:p.dst=some d:=by exact rfl):V j (a.eval (.tmp d)) w:=D j h1 p d h2 h3
theorem Dw{v:Value}(hW:W (Rgs.upd live i) (a.put o.dst v) w)(hv:V i v w:=by exact rfl)(hr:(execOp a.eval o).run P w=.ok (.value v) w:=by(have c:=Reg.consts a;generalize a.eval=ρ at *;simp [execOp,go_sem,c.1,c.2, *]))(hi:ops[i]? = some o:=by rfl)(hg:o.guard=none:=by rfl):Rgs.Goal P ops Q V W live i o a w:=Rgs.val hi (Reg.wanted_free hg) v hr hv hW
theorem K9(v:Value)(hv:V i v w)(hW:W (Rgs.upd live i) (a.put o.dst v) w)(hr:(execOp a.eval o).run P w=.ok (.value v) w:=by(have c:=Reg.consts a;generalize a.eval=ρ at *;simp [execOp,go_sem,c.1,c.2, *]))(hi:ops[i]? = some o:=by rfl)(hg:o.guard=none:=by rfl):Rgs.Goal P ops Q V W live i o a w:=Rgs.val hi (Reg.wanted_free hg) v hr hv hW
theorem Ei(f:FuncId)(args:Array Value)(hc:Calls P f args w fun e w'=>∃ v,e=.returned v/\V i v w'/\W (Rgs.upd live i) (a.put o.dst v) w'/\∀ j v,live j=true->V j v w->V j v w')(hr:(execOp a.eval o).run P w=.ok (.enter f args) w:=by(have c:=Reg.consts a;generalize a.eval=ρ at *;simp [execOp,go_sem,c.1,c.2, *]))(hi:ops[i]? = some o:=by rfl)(hg:o.guard=none:=by rfl):Rgs.Goal P ops Q V W live i o a w:=Rgs.call hi (Reg.wanted_free hg) f args hr hc
theorem Fd(v:Value)(w':World)(hv:V i v w')(hW:W (Rgs.upd live i) (a.put o.dst v) w')(hm:∀ j v,live j=true->V j v w->V j v w')(hr:(execOp a.eval o).run P w=.ok (.value v) w':=by(have c:=Reg.consts a;generalize a.eval=ρ at *;simp [execOp,go_sem,c.1,c.2, *]))(hi:ops[i]? = some o:=by rfl)(hg:o.guard=none:=by rfl):Rgs.Goal P ops Q V W live i o a w:=Rgs.grow hi (Reg.wanted_free hg) v w' hr hv hW hm
theorem Jc(w':World)(hv:V i undef w')(hW:W (Rgs.upd live i) (a.put o.dst undef) w')(hm:∀ j v,live j=true->V j v w->V j v w')(hr:(execOp a.eval o).run P w=.ok .skip w':=by(have c:=Reg.consts a;generalize a.eval=ρ at *;simp [execOp,go_sem,c.1,c.2, *]))(hi:ops[i]? = some o:=by rfl)(hg:o.guard=none:=by rfl):Rgs.Goal P ops Q V W live i o a w:=Rgs.store hi (Reg.wanted_free hg) w' hr hv hW hm
def rgsCh(ops:Array Oper):Nat->List Nat->Nat->Bool
 | i,[],k=>(match ops[k]? with | some o=>Reg.waits o i | none=>false)
 | i,j::L,k=>(match ops[j]? with | some o=>Reg.waits o i | none=>false) && rgsCh ops j L k
theorem D3(C:Reg.Closed ops live):∀{i:Nat}(_:live i=false)(L:List Nat)(k:Nat)(_:rgsCh ops i L k=true),live k=false
 | i,h,[],k,hc=>by
  unfold rgsCh at hc
  cases e:ops[k]? with
  | none=>rw[e] at hc;cases hc
  | some o=>rw[e] at hc;exact Reg.not_live C h e hc
 | i,h,j::L,k,hc=>by
  unfold rgsCh at hc
  rw[Au] at hc
  have hj:live j=false:=by
   cases e:ops[j]? with
   | none=>rw[e] at hc;cases hc.1
   | some o=>rw[e] at hc;exact Reg.not_live C h e hc.1
  exact D3 C hj L k hc.2
