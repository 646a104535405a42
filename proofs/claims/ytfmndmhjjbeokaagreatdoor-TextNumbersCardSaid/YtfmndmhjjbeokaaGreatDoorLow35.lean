import Derived.Test.YtfmndmhjjbeokaaGreatDoorLow34
set_option maxHeartbeats 1000000
set_option maxRecDepth 100000
set_option linter.unusedSimpArgs false
set_option linter.unusedVariables false
namespace Go.Proofs.YtfmndmhjjbeokaaGreatDoor
open Go.RowKit Tab Txt
theorem Sd{P:List Pq}(h:∀ j,j < P.length->ptE P j=0):Mi (namesP P):=by
 constructor
 ·intro s hs;obtain⟨y,hy,rfl⟩:=By.1 hs;obtain⟨k,hk⟩:=Bl hy;exact⟨y.1.name,(Ie.of hk (h k (Af.1 hk).1)).name,rfl⟩
 intro i j s aB hi hj;unfold namesP at hi hj;rw[Bm] at hi hj;obtain⟨x,hx,ex⟩:=Option.map_eq_some_iff.1 hi;obtain⟨y,hy,ey⟩:=Option.map_eq_some_iff.1 hj;have hw:=h j (Af.1 hy).1;have aA:x.1.name=y.1.name:=by
  have e:=congrArg bsOf (ex.trans ey.symm);exact e
 have:=P5 hy aB hx (Ae aA);rw[this] at hw;cases hw
theorem Is{x:List UInt8}(hx:skipB x=true)(i:Nat)(c:Cft)(l:List (List UInt8)):linesP i c (x::l)=linesP (i+1) c l:=by
 show (if skipB x=true then _ else _)=_;rw[if_pos hx]
theorem J0:∀(l:List (List UInt8)) (i j:Nat) (c d:Cft),linesP i c l=.inr d->linesP j c l=.inr d
 | [],_,_,_,_,h=>h
 | x::l,i,j,c,d,h=>by
  unfold linesP at h |-
  split at h
  ·rename_i hs
   rw[if_pos hs]
   exact J0 l _ _ c d h
  ·rename_i hs
   rw[if_neg hs]
   cases hw:wordsP c (splitF 32 x) with
   | none=>rw[hw] at h;cases h
   | some c'=>rw[hw] at h;exact J0 l _ _ c' d h
theorem Ir:∀(l:List (List UInt8)) (i:Nat) (c d:Cft),linesP i c l=.inr d->∀ k,k<=l.length->∃ c',(∀ aA,linesP i c (l.take k++aA)=linesP (i+k) c' aA)/\linesP (i+k) c' (l.drop k)=.inr d
 | l,i,c,d,h,0,_=>⟨c,fun aA=>by simp,by simpa using h⟩
 | [],_,_,_,_,k+1,hk=>by simp at hk
 | x::l,i,c,d,h,k+1,hk=>by
  have aB:k<=l.length:=by simpa using hk
  unfold linesP at h
  split at h
  ·rename_i hs
   obtain⟨c',h1,h2⟩:=Ir l (i+1) c d h k aB
   refine⟨c',fun aA=>?_,?_⟩
   ·rw[List.take_succ_cons,Bo,Is hs,h1 aA,show i+(k+1)=i+1+k by omega]
   ·rw[List.drop_succ_cons,show i+(k+1)=i+1+k by omega]
    exact h2
  ·rename_i hs
   cases hw:wordsP c (splitF 32 x) with
   | none=>rw[hw] at h;cases h
   | some c1 =>
    rw[hw] at h
    obtain⟨c',h1,h2⟩:=Ir l (i+1) c1 d h k aB
    refine⟨c',fun aA=>?_,?_⟩
    ·rw[List.take_succ_cons,Bo]
     show (if skipB x=true then _ else _)=_
     rw[if_neg hs,hw]
     dsimp only
     rw[h1 aA,show i+(k+1)=i+1+k by omega]
    ·rw[List.drop_succ_cons,show i+(k+1)=i+1+k by omega]
     exact h2
theorem ms(l:List (List UInt8))(c d:Cft)(h:linesP 0 c l=.inr d)(k:Nat)(hk:k<=l.length)(aA:List UInt8)(hs:skipB aA=false)(hb:∀ c',wordsP c' (splitF 32 aA)=none)(aB:List (List UInt8)):
  linesP 0 c (l.take k++aA::aB)=.inl (k+1):=by
 obtain⟨c',h1,_⟩:=Ir l 0 c d h k hk;rw[h1];show (if skipB aA=true then _ else _)=_;rw[hs,if_neg (by decide),hb c',Dr]
theorem Ki{w:List (List UInt8)}(h1:w.head?≠some wPart)(h2:w.head?≠some wChan)(h3:w.head?≠some wTable)(c:Cft):wordsP c w=none:=by
 unfold wordsP;rw[if_neg h1,if_neg h2,if_neg h3]
def el(z:Nat):List UInt8:=match z with
 | 0=>[110,111,110,115,101,110,115,101]
 | 1=>[112,97,114,116]
 | 2=>[99,104,97,110,32,97,32,98]
 | 3=>[116,97,98,108,101,32,120]
 | _=>[32]
theorem mt(z:Nat):skipB (el z)=false/\∀ c,wordsP c (splitF 32 (el z))=none:=by
 match z with
 | 0=>exact⟨by decide,fun c=>Ki (by decide) (by decide) (by decide) c⟩
 | 1 =>
  refine⟨by decide,fun c=>?_⟩;rw[show splitF 32 (el 1)=[wPart] from by decide];rfl
 | 2 =>
  refine⟨by decide,fun c=>?_⟩;rw[show splitF 32 (el 2)=[wChan,[97],[98]] from by decide];rfl
 | 3 =>
  refine⟨by decide,fun c=>?_⟩;rw[show splitF 32 (el 3)=[wTable,[120]] from by decide];rfl
 | z+4=>exact⟨show skipB [32]=false by decide,fun c=>Ki (w:=splitF 32 [32]) (by decide) (by decide) (by decide) c⟩
theorem L3{b:UInt8}:∀(x s:List UInt8),splitF b (x++b::s)=splitF b x++splitF b s:=by
 intro x;induction x with
 | nil =>
  intro s;rw[Cw,splitF_cons,if_pos rfl];rfl
 | cons c x ih =>
  intro s;rw[Bo,splitF_cons,splitF_cons];by_cases hc:c=b
  ·rw[if_pos hc,if_pos hc,ih];rfl
  rw[if_neg hc,if_neg hc,ih];cases hx:splitF b x with
  | nil=>exact absurd hx (split_ne b x)
  | cons y l=>rfl
theorem Pe(l:List (List UInt8))(d:Cft)(aA:∀ x∈l,(10:UInt8) ∉ x)(h:linesP 0 cft0 (l++[[]])=.inr d)(hl:(textT l).length<=16300)(hw:(D5 d.P d.C d.T).1=0):
  parseP ([35,10,10]++(textT l++[10,35,32,101,110,100]))=(0,0,d):=by
 have e:splitF 10 ([35,10,10]++(textT l++[10,35,32,101,110,100]))=[35]::[]::(l++[[]]++[[35,32,101,110,100]]):=by
  show splitF 10 ([35]++10::([]++10::(textT l++10::[35,32,101,110,100])))=_;rw[L3,L3,L3,split_text aA];rfl
 have e2:linesP 0 cft0 ([35]::[]::(l++[[]]++[[35,32,101,110,100]]))=.inr d:=by
  rw[Is (by decide),Is (by decide)];have h2:=J0 _ 0 2 _ _ h;obtain⟨c',h3,h4⟩:=Ir (l++[[]]) 2 cft0 d h2 (l++[[]]).length (Ag _);rw[List.take_length] at h3;rw[List.drop_length] at h4;rw[h3,Is (by decide)];exact J0 [] _ _ c' d h4
 unfold parseP;rw[if_neg (by simp only[Aa,Ad,Bh];omega),e,e2];dsimp only;rw[if_pos hw]
theorem Ty{B g b2 b3 gc:Nat}{st:Option (List UInt8)}{w:World}(h:Qce B g st w)(hl:(st.getD []).length<=1048576)(A:Option Addr)(n c:Nat)(P:List Pq)(hP:∀ W,w.grownBy W (some g)->RdB pcq W W.heap.size A n P)(hn:n<=1048576)
  (c2:w.cell? ⟨b2,0,none⟩=some (.pointer (some ⟨g,0,none⟩))) (c3:w.cell? ⟨b3,0,none⟩=some (.pointer (some ⟨gc,0,none⟩))) (c4:w.cell? ⟨gc,0,none⟩=some (.slice A n c)) :
  Calls Tryz.prog 76 #[.pointer (some ⟨b2,0,none⟩),.pointer (some ⟨b3,0,none⟩)] w (jz B g (st.bind (knownS (namesP P) 58)) w):=by
 have hr:Qce B g st w.drew:=OwnV.below h rfl (Aj _ _).drew;have HK:=hid (Qck hr hl 58 58 rfl A n c P (fun W hW=>hP W ⟨hW.os,hW.tape,hW.output,hW.size,hW.block⟩) hn);generalize st.bind (knownS (namesP P) 58)=R at HK |-;clear h hr hl hP hn;go_in;go_wp2_with fail;go_region_with (go_at_call 77;refine HK.o.mono ?_;rintro e w1⟨v,s1,rfl,q1,hg,h1⟩)
 all_goals
  have HG:=hid hg;have HV:=hid q1;have H1:=hid h1;clear hg q1 h1 HK;go_wp2;go_ret;exact⟨v,s1,rfl,HV.o,HG.o,⟨H1.o.rd,H1.o.gb.os,H1.o.gb.tape,H1.o.gb.output,H1.o.gb.size,H1.o.gb.block⟩⟩
structure KpG(g gc:Nat)(A:Option Addr)(w w':World):Prop where
 os:w'.os=w.os
 tape:w'.tape=w.tape
 output:w'.output=w.output
 size:w.heap.size<=w'.heap.size
 block:∀ k,k < w.heap.size->k≠g->k≠gc->obk A≠some k->w'.heap[k]? = w.heap[k]?
section
variable {g gc:Nat} {A:Option Addr} {w w' w'':World}
theorem KpG.refl(w:World):KpG g gc A w w:=⟨rfl,rfl,rfl,Ag _,fun _ _ _ _ _=>rfl⟩
theorem KpG.trans(h:KpG g gc A w w')(k:KpG g gc A w' w''):KpG g gc A w w'':=⟨k.os.trans h.os,k.tape.trans h.tape,k.output.trans h.output,Ai h.size k.size,fun i hi h1 h2 h3=>(k.block i (Bc hi h.size) h1 h2 h3).trans (h.block i hi h1 h2 h3)⟩
theorem KpG.gb(h:w.grownBy w' (some g)):KpG g gc A w w':=⟨h.os,h.tape,h.output,h.size,fun i hi h1 _ _=>h.block i hi (by intro e;injection e with e;exact h1 e)⟩
theorem KpG.kpr(h:KpR gc A w w'):KpG g gc A w w':=⟨h.os,h.tape,h.output,h.size,fun i hi _ h2 h3=>h.block i hi h2 h3⟩
theorem KpG.bel(h:Below w.heap.size w w'):KpG g gc A w w':=⟨h.os,h.tape,h.output,h.size,fun i hi _ _ _=>h.block i hi⟩
theorem KpG.own{E s B n c:Nat}{A1:Option Addr}{l:List Value}(h:KpG g gc A w w')(ho:OwnV E s w B A1 n c l)(h1:obk A1≠some g)(h2:obk A1≠some gc)(h3:∀ k,obk A1=some k->obk A≠some k):OwnV E s w' B A1 n c l :=
 OwnV.keep' ho fun k hk=>h.block k (OwnV.older ho hk) (fun e=>h1 (by rw[hk,e])) (fun e=>h2 (by rw[hk,e])) (h3 k hk)
end
structure Ctn(x:Cf)(c:Cft):Prop where
 ep:x.P.map Ec=c.P
 ec:x.C=c.C
 et:x.T.map (fun t=>ndT0 t.l)=c.T
theorem Ctn.names{x:Cf}{c:Cft}(h:Ctn x c):namesP x.P=namesP c.P:=by rw[<- h.ep,Gr]
section
variable {B Br g gc:Nat} {st:Option (List UInt8)} {x:Cf} {w w':World}
theorem CvS.rdr(h:CvS B gc x w)(hr:Qce Br g st w)(hg:w.grownBy w' (some g)):CvS B gc x w' :=
 ⟨⟨OwnV.gbo h.s.cf hg (Ee h.s.cf hr (by decide)),⟨h.s.pp.len,OwnV.gbo h.s.pp.own hg (Ee h.s.pp.own hr (by decide))⟩,⟨h.s.ch.len,OwnV.gbo h.s.ch.own hg (Ee h.s.ch.own hr (by decide))⟩,⟨h.s.tb.len,OwnV.gbo h.s.tb.own hg (Ee h.s.tb.own hr (by decide))⟩⟩,
  fun y hy=>OwnV.gbo (h.pt y hy) hg (Ee (h.pt y hy) hr (by decide)),fun y hy=>OwnV.gbo (h.tt y hy) hg (Ee (h.tt y hy) hr (by decide)),h.ok⟩
theorem Hj{E s B' n c:Nat}{A:Option Addr}{l:List Value}(h:OwnV E s w B' A n c l)(hc:CvS B gc x w)(hE:E≠31):obk A≠some gc:=fun e=>OwnV.apart h hc.s.cf hE gc e rfl
end
section
variable {B Br g gc:Nat} {st:Option (List UInt8)} {A1 A2 A3 A':Option Addr} {n1 n2 n3 c1 c2 c3 c':Nat} {P:List Pq} {C:List ChV} {T:List NdT} {w w':World}
theorem CvS.part1(h:CvS B gc ⟨A1,A2,A3,n1,n2,n3,c1,c2,c3,P,C,T⟩ w)(hr:Qce Br g st w)(hk:KpG g gc A1 w w')(y:Pq)(hp:OwnV 60 11 w' B A' (n1+1) c' (P.flatMap pcq++pcq y))
  (aB:OwnV 31 3 w' B (some ⟨gc,0,none⟩) 1 1 [.slice A' (n1+1:Nat) c',.slice A2 n2 c2,.slice A3 n3 c3]) (hy:OwnV 62 2 w' B y.1.pa y.1.pn y.1.pc (y.2.flatMap prc))
  (hc:Ef y.1.per/\y.1.name.size<=140737488351232/\y.2.length=y.1.pn/\y.1.pn*16<=140737488351232) (hn:(n1+1)*104<=140737488351232):CvS B gc ⟨A',A2,A3,n1+1,n2,n3,c',c2,c3,P++[y],C,T⟩ w':=by
 have aA:=h.s.pp.own;have o:∀ {E s n c:Nat} {A:Option Addr} {l:List Value},OwnV E s w B A n c l->E≠79->E≠31->E≠60->OwnV E s w' B A n c l:=fun q e1 e2 e3=>hk.own q (Ee q hr e1) (Hj q h e2) (OwnV.apart q aA e3);refine⟨⟨aB,⟨by rw[Aa,h.s.pp.len];rfl,by rw[Bu];simpa using hp⟩,⟨h.s.ch.len,o h.s.ch.own (by decide) (by decide) (by decide)⟩,⟨h.s.tb.len,o h.s.tb.own (by decide) (by decide) (by decide)⟩⟩,fun z hz=>?_,fun z hz=>o (h.tt z hz) (by decide) (by decide) (by decide),⟨by show (P++[y]).length=n1+1;rw[Aa,h.s.pp.len];rfl,h.ok.l2,h.ok.l3,fun z hz=>?_,h.ok.tt,by show n1+1<=_;omega,h.ok.m2,h.ok.m3,hn,h.ok.z.2.1,h.ok.z.2.2.1,fun z hz=>?_,h.ok.z.2.2.2.2⟩⟩
 ·rcases Ay.1 hz with hz | hz
  ·exact o (h.pt z hz) (by decide) (by decide) (by decide)
  rw[Cc.1 hz];exact hy
 ·rcases Ay.1 hz with hz | hz
  ·exact h.ok.pt z hz
  rw[Cc.1 hz];exact⟨hc.1,hc.2.1,hc.2.2.1,by omega⟩
 rcases Ay.1 hz with hz | hz
 ·exact h.ok.z.2.2.2.1 z hz
 rw[Cc.1 hz];exact hc.2.2.2
theorem CvS.chan1(h:CvS B gc ⟨A1,A2,A3,n1,n2,n3,c1,c2,c3,P,C,T⟩ w)(hr:Qce Br g st w)(hk:KpG g gc A2 w w')(y:ChV)(hp:OwnV 66 6 w' B A' (n2+1) c' (C.flatMap cc++cc y))
  (aB:OwnV 31 3 w' B (some ⟨gc,0,none⟩) 1 1 [.slice A1 n1 c1,.slice A' (n2+1:Nat) c',.slice A3 n3 c3]) (hn:(n2+1)*48<=140737488351232):CvS B gc ⟨A1,A',A3,n1,n2+1,n3,c1,c',c3,P,C++[y],T⟩ w':=by
 have aA:=h.s.ch.own;have o:∀ {E s n c:Nat} {A:Option Addr} {l:List Value},OwnV E s w B A n c l->E≠79->E≠31->E≠66->OwnV E s w' B A n c l:=fun q e1 e2 e3=>hk.own q (Ee q hr e1) (Hj q h e2) (OwnV.apart q aA e3);exact⟨⟨aB,⟨h.s.pp.len,o h.s.pp.own (by decide) (by decide) (by decide)⟩,⟨by rw[Aa,h.s.ch.len];rfl,by rw[Bu];simpa using hp⟩,⟨h.s.tb.len,o h.s.tb.own (by decide) (by decide) (by decide)⟩⟩,fun z hz=>o (h.pt z hz) (by decide) (by decide) (by decide),fun z hz=>o (h.tt z hz) (by decide) (by decide) (by decide),⟨h.ok.l1,by show (C++[y]).length=n2+1;rw[Aa,h.s.ch.len];rfl,h.ok.l3,h.ok.pt,h.ok.tt,h.ok.m1,by show n2+1<=_;omega,h.ok.m3,h.ok.z.1,hn,h.ok.z.2.2.1,h.ok.z.2.2.2.1,h.ok.z.2.2.2.2⟩⟩
theorem CvS.tab1(h:CvS B gc ⟨A1,A2,A3,n1,n2,n3,c1,c2,c3,P,C,T⟩ w)(hr:Qce Br g st w)(hk:KpG g gc A3 w w')(y:NdT)(hp:OwnV 34 1 w' B A' (n3+1) c' (T.flatMap tcn++tcn y))
  (aB:OwnV 31 3 w' B (some ⟨gc,0,none⟩) 1 1 [.slice A1 n1 c1,.slice A2 n2 c2,.slice A' (n3+1:Nat) c']) (hy:OwnV 54 3 w' B y.A y.n y.c (ns y.l)) (hl:y.l.length=y.n) (hz:∀ z∈y.l,NdIn z) (hq:y.n*24<=140737488351232) (hn:(n3+1)*24<=140737488351232):CvS B gc ⟨A1,A2,A',n1,n2,n3+1,c1,c2,c',P,C,T++[y]⟩ w':=by
 have aA:=h.s.tb.own;have o:∀ {E s n c:Nat} {A:Option Addr} {l:List Value},OwnV E s w B A n c l->E≠79->E≠31->E≠34->OwnV E s w' B A n c l:=fun q e1 e2 e3=>hk.own q (Ee q hr e1) (Hj q h e2) (OwnV.apart q aA e3);refine⟨⟨aB,⟨h.s.pp.len,o h.s.pp.own (by decide) (by decide) (by decide)⟩,⟨h.s.ch.len,o h.s.ch.own (by decide) (by decide) (by decide)⟩,⟨by rw[Aa,h.s.tb.len];rfl,by rw[Bu];simpa using hp⟩⟩,fun z hz=>o (h.pt z hz) (by decide) (by decide) (by decide),fun z hz=>?_,⟨h.ok.l1,h.ok.l2,by show (T++[y]).length=n3+1;rw[Aa,h.s.tb.len];rfl,h.ok.pt,fun z hz=>?_,h.ok.m1,h.ok.m2,by show n3+1<=_;omega,h.ok.z.1,h.ok.z.2.1,hn,h.ok.z.2.2.2.1,fun z hz=>?_⟩⟩
 ·rcases Ay.1 hz with hz | hz
  ·exact o (h.tt z hz) (by decide) (by decide) (by decide)
  rw[Cc.1 hz];exact hy
 ·rcases Ay.1 hz with hz | hz
  ·exact h.ok.tt z hz
  rw[Cc.1 hz];exact⟨hl,‹_›,by omega⟩
 rcases Ay.1 hz with hz | hz
 ·exact h.ok.z.2.2.2.2 z hz
 rw[Cc.1 hz];exact hq
end
structure KpL(g gc:Nat)(x:Cf)(w w':World):Prop where
 os:w'.os=w.os
 tape:w'.tape=w.tape
 output:w'.output=w.output
 size:w.heap.size<=w'.heap.size
 block:∀ k,k < w.heap.size->k≠g->k≠gc->obk x.A1≠some k->obk x.A2≠some k->obk x.A3≠some k->w'.heap[k]? = w.heap[k]?
theorem KpL.of{g gc:Nat}{x:Cf}{A:Option Addr}{w w':World}(h:KpG g gc A w w')(hA:A=x.A1\/A=x.A2\/A=x.A3):KpL g gc x w w' :=
 ⟨h.os,h.tape,h.output,h.size,fun k hk h1 h2 h3 h4 h5=>h.block k hk h1 h2 (by rcases hA with rfl | rfl | rfl <;> assumption)⟩
def kj(B Br g gc:Nat)(R:Option (Cft×List UInt8))(x:Cf)(w:World)(e:Ending)(w':World):Prop:=e=.returned (.tuple #[])/\∃ st':Option (List UInt8),st'=R.map (·.2)/\Qce Br g st' w'/\KpL g gc x w w'/\
 ∀ c' r,R=some (c',r)->∃ x',CvS B gc x' w'/\Ctn x' c'/\x'.n1+(x'.n2+x'.n3)<=x.n1+(x.n2+x.n3)+1
end Go.Proofs.YtfmndmhjjbeokaaGreatDoor
namespace Go.Proofs.YtfmndmhjjbeokaaGreatDoor
open Tab Txt
theorem Ks{x:Nd}{k:F}(aA:(F.cons x k .nil).ok)(hn:∀ y∈x::k.flat,y.n<=4)(hd:k.dep<=3):k.sz+1<=85/\F.tick x k.len<=256:=by
 have aB:∀ y∈(F.cons x k .nil).flat,y.n<=4:=fun y hy=>hn y (by simpa [F.flat] using hy);have h1:=few_sz _ aA aB;have h2:=few_len _ aA aB;have aC:(F.cons x k .nil).dep=k.dep+1:=by simp[F.dep]
 have m1:s4 (k.dep+1)<=s4 4:=s4_mono (by omega);have m2:4 ^ (k.dep+1)<=4 ^ 4:=Nat.pow_le_pow_right (by omega) (by omega);rw[aC] at h1 h2;simp only[F.cnt,F.sz,F.len] at h1 h2;have e1:s4 4=85:=by decide
 have e2:(4:Nat) ^ 4=256:=by decide
 omega
theorem iz{x:Nd}{k:F}{n:Nat}(aA:(F.cons x k .nil).ok)(hn:∀ y∈x::k.flat,y.n<=4)(hd:k.dep<=3)(hl:k.sz+1=n):rt n (k.dep+1) (F.tick x k.len)=0:=by
 have:=Ks aA hn hd;unfold rt;rw[if_neg (by omega),if_neg (by omega),if_neg (by omega)]
theorem Nn:∀(f:F),f.ok->∀ y∈f.flat,y.n.toNat<=128\/y.n.toNat<=f.len
 | .nil,_,y,hy=>by simp[F.flat] at hy
 | .cons x k r,h,y,hy=>by
  have aA:=fine_one h.1
  have hk:=h.2.1
  simp only[F.flat,Ba,Ay] at hy
  simp only[F.len]
  rcases hy with rfl | hy | hy
  ·unfold F.tick
   unfold kn at hk
   split
   ·rename_i h3
    have hf:=h.1
    unfold fine at hf
    rw[if_neg (by omega),if_neg (by omega),if_pos h3] at hf
    simp only[Au,Av] at hf
    omega
   ·rename_i h3
    rw[if_neg h3] at hk
    split
    ·rename_i h4
     rw[if_pos h4] at hk
     have hp:=F.len_pos h.2.2.1 (by omega)
     have:=Nat.le_mul_of_pos_left y.n.toNat hp
     omega
    ·omega
  ·have ih:=Nn k h.2.2.1 y hy
   unfold F.tick
   unfold kn at hk
   split
   ·omega
   ·rename_i h3
    rw[if_neg h3] at hk
    split
    ·have:=Nat.le_mul_of_pos_right k.len (show 0 < x.n.toNat by omega)
     omega
    ·rename_i h4
     rw[if_neg h4] at hk
     rw[F.cnt_zero hk] at hy
     simp[F.flat] at hy
  ·have ih:=Nn r h.2.2.2 y hy
   omega
theorem fp{n m:Nat}{x:Nd}{k:F}(aC:(F.cons x k .nil).ok)(hz:ofz m (k.dep+1) (one x k.lvs)=0)(hm:k.sz+1=m)(hq:∀ y∈x::k.flat,0<=y.p/\y.p < (n:Int)):
  V7 n (.cons x k .nil)/\(∀ y∈(F.cons x k .nil).flat,y.n.toNat < 100000)/\(F.cons x k .nil).sz<=128:=by
 obtain⟨h1,h2,h3,_⟩:=L9 hz;rw[one_ticks,lvs_ticks] at h3;have aD:(F.cons x k .nil).flat=x::k.flat:=by simp[F.flat]
 have aA:∀ y∈(F.cons x k .nil).flat,y.n.toNat < 100000:=fun y hy=>by
  have:=Nn _ aC y hy;simp only[F.len] at this;omega
 have aB:(F.cons x k .nil).sz<=128:=by simp only[F.sz];omega
 refine⟨⟨⟨x,k,rfl⟩,aC,by simp only[F.dep];omega,aB,fun y hy=>?_,fun y hy _=>hq y (by rw[<- aD];exact hy)⟩,aA,aB⟩;have:=aA y hy;unfold lim40;omega
theorem Tu{nm:Int->List UInt8}(aA:∀ p,(nm p).length<=12):∀(f:F),(∀ y∈f.flat,y.n.toNat < 100000)->∀ b,(txX nm f b).length<=f.sz*20
 | .nil,_,_=>by simp[txX]
 | .cons x k r,h,b=>by
  have h1:=Tu aA k (fun y hy=>h y (by simp[F.flat,hy])) false
  have h2:=Tu aA r (fun y hy=>h y (by simp[F.flat,hy])) true
  have h3:=num_few (n:=x.n.toNat) (h x (by simp[F.flat]))
  have h4:=aA x.p
  have h5:(txN nm x (txX nm k false)).length<=19+(txX nm k false).length:=by
   unfold txN
   split
   ·simp only[Ad,Aa];omega
   ·split
    ·simp only[Ad];omega
    ·split
     ·simp only[Ad,Aa,Bh];omega
     ·simp only[Ad,Aa,Bh];omega
  show ((if b=true then [44] else [])++(txN nm x (txX nm k false)++txX nm r true)).length<=(1+k.sz+r.sz)*20
  rw[Aa,Aa]
  have h6:(if b=true then ([44]:List UInt8) else []).length<=1:=by split <;> simp
  omega
theorem lk{L:List (List UInt8)}(h:∀ s∈L,s.length<=12)(p:Int):(nmP L p).length<=12:=by
 unfold nmP;split
 ·rw[Dg];cases e:L[p.toNat]? with
  | none=>exact Cr _
  | some x=>exact h x (An e)
 exact Cr _
theorem Rf{α:Type}(f:α->List UInt8)(k:Nat):∀(L:List α),(∀ x∈L,(f x).length<=k)->(L.flatMap f).length<=L.length*k
 | [],_=>by simp
 | x::L,h=>by
  have h1:=h x (by simp)
  have h2:=Rf f k L fun y hy=>h y (by simp[hy])
  rw[Cu,Aa,Ad,Db]
  omega
theorem Zs{P:List Pq}{C:List ChV}{T:List F}(hP:∀ y∈P,Ie y/\y.2.length=y.1.pn)(hC:∀ x∈C,Kc P.length x)(hT:∀ f∈T,(∃ x k,f=.cons x k .nil)/\(∀ y∈f.flat,y.n.toNat < 100000)/\f.sz<=128)
  (h1:P.length<=4) (h2:C.length<=3) (h3:T.length<=2):(textT (linesT P C T)).length<=7000:=by
 have hN:∀ s∈namesP P,s.length<=12:=fun s hs=>by
  obtain⟨y,hy,rfl⟩:=By.1 hs;exact Lh (hP y hy).1.name
 have l1:=Rf I0 100 P fun y hy=>Hy (hP y hy).1 (hP y hy).2;have l2:=Rf (I5 (namesP P)) 170 C fun x hx=>Ib (fun s hs=>by have:=hN s hs;omega) (hC x hx);have l3:=Rf (Pc (namesP P)) 2570 T fun f hf=>by
  obtain⟨⟨x,k,rfl⟩,q1,q2⟩:=hT f hf;have:=Tu (lk hN) _ q1 false;rw[M5];simp only[Aa,Ad,Bh,show wTable.length=5 from rfl];omega
 rw[I9,Aa,Aa];have m1:P.length*100<=4*100:=Cd _ h1;have m2:C.length*170<=3*170:=Cd _ h2;have m3:T.length*2570<=2*2570:=Cd _ h3;omega
theorem Tz{P:List Pq}{C:List ChV}{T:List F}(hP:∀ y∈P,Ie y/\y.2≠[])(hN:Mi (namesP P))(hC:∀ x∈C,Kc P.length x)(hT:∀ f∈T,V7 P.length f):
  (∀ x∈linesT P C T,(10:UInt8) ∉ x)/\linesP 0 cft0 (linesT P C T++[[]])=.inr ⟨P.map Ec,C,T.map fun f=>ndT0 f.flat⟩:=by
 have aA:(namesP P).length=P.length:=by unfold namesP;rw[Bi]
 constructor
 ·intro x hx;unfold linesT at hx;rcases Ay.1 hx with h | h
  ·obtain⟨y,hy,rfl⟩:=By.1 h;exact Gz (by decide) (Q7 (hP y hy).1 (by decide))
  rcases Ay.1 h with h | h
  ·obtain⟨y,hy,rfl⟩:=By.1 h;exact Gz (by decide) (Rk hN y (by decide))
  obtain⟨y,hy,rfl⟩:=By.1 h;exact Gz (by decide) (Uc hN y (by decide))
 unfold linesT;rw[Ar,Ar,Ko P _ _ _ hP,Kp (namesP P) hN C _ _ _ (by show namesP ([]++P.map Ec)=_;rw[Cw,Gr]) (by rw[aA];exact hC),
  Ma (namesP P) hN T _ _ (by show namesP ([]++P.map Ec)=_;rw[Cw,Gr]) (by rw[aA];exact hT)]
 rfl
theorem Uh{a b:Pq}(h:Ec a=Ec b):Eo a b:=by
 obtain⟨⟨a0,a1,a2,a3,a4,a5,a6,a7,a8,a9,aa,ab,ac⟩,al⟩:=a;obtain⟨⟨b0,b1,b2,b3,b4,b5,b6,b7,b8,b9,ba,bb,bc⟩,bl⟩:=b;unfold Ec at h;simp only[Prod.mk.injEq,PtV.mk.injEq] at h;obtain⟨⟨h0,h1,h2,h3,h4,-,-,-,h8,h9,ha,hb,hc⟩,hl⟩:=h;exact⟨h0,h1,h2,h3,h4,⟨h8,h9,ha,hb,hc⟩,hl⟩
theorem Nt{P P':List Pq}{C C':List ChV}{T T':List NdT}(hP:P.map Ec=P'.map Ec)(hC:C=C')(hT:T.map (fun t=>ndT0 t.l)=T'.map fun t=>ndT0 t.l):Oq P C T P' C' T':=by
 have l1:P.length=P'.length:=by have:=congrArg List.length hP;rwa [Bi,Bi] at this
 have l3:T.length=T'.length:=by have:=congrArg List.length hT;rwa [Bi,Bi] at this
 refine⟨⟨l1,fun i x y hx hy=>?_,hC⟩,l3,fun i x y hx hy=>?_⟩
 ·have h:=congrArg (fun l=>l[i]?) hP;simp only[Bm,hx,hy,Option.map_some] at h;exact Uh (C7 h)
 have h:=congrArg (fun l=>l[i]?) hT;simp only[Bm,hx,hy,Option.map_some] at h;have h2:ndT0 x.l=ndT0 y.l:=C7 h;have h3:x.l=y.l:=by unfold ndT0 at h2;injection h2
 rw[h3];exact Fw _
theorem Rs{x:Cf}(h:RiX x)(hl:∀ y∈x.P,y.2.length=y.1.pn):(D5 (x.P.map Ec) x.C (x.T.map fun t=>ndT0 t.l)).1=0:=by
 have hs:Tm x ⟨x.A1,x.A2,x.A3,x.n1,x.n2,x.n3,x.c1,x.c2,x.c3,x.P.map Ec,x.C,x.T.map fun t=>ndT0 t.l⟩ :=
  Nt (by rw[List.map_map];exact(List.map_congr_left fun y _=>rfl)) rfl (by rw[List.map_map];exact(List.map_congr_left fun t _=>rfl))
 have e:=Ru hs hl (fun z hz=>by
  obtain⟨y,hy,rfl⟩:=By.1 hz;rfl)
 rw[h.ok] at e;have e2:D5 (x.P.map Ec) x.C (x.T.map fun t=>ndT0 t.l)=(0,-1):=e.symm;rw[e2]
theorem Xp{x:Cf}{Fs:List F}(hr:RiX x)(hl:∀ y∈x.P,Ie y/\y.2.length=y.1.pn)(hC:∀ y∈x.C,Kc x.P.length y)(hT:∀ f∈Fs,V7 x.P.length f/\(∀ y∈f.flat,y.n.toNat < 100000)/\f.sz<=128)
  (hF:Fs.map (fun f=>ndT0 f.flat)=x.T.map fun t=>ndT0 t.l) (h1:x.P.length<=4) (h2:x.C.length<=3) (h3:Fs.length<=2) :
  (textT (linesT x.P x.C Fs)).length<=7000/\parseP (textT (linesT x.P x.C Fs))=(0,0,⟨x.P.map Ec,x.C,x.T.map fun t=>ndT0 t.l⟩)/\
   parseP ([35,10,10]++(textT (linesT x.P x.C Fs)++[10,35,32,101,110,100]))=(0,0,⟨x.P.map Ec,x.C,x.T.map fun t=>ndT0 t.l⟩)/\
   (∀ z∈linesT x.P x.C Fs,(10:UInt8) ∉ z)/\linesP 0 cft0 (linesT x.P x.C Fs++[[]])=.inr ⟨x.P.map Ec,x.C,x.T.map fun t=>ndT0 t.l⟩:=by
 have hP:∀ y∈x.P,Ie y/\y.2≠[]:=fun y hy=>⟨(hl y hy).1,fun e=>by
  have a:=(hl y hy).2;have b:=(hl y hy).1.few;rw[e] at a;simp at a;omega⟩
 have hN:=Sd hr.pt;have hw:=Rs hr fun y hy=>(hl y hy).2;have aB:=Zs hl hC (fun f hf=>⟨(hT f hf).1.one,(hT f hf).2.1,(hT f hf).2.2⟩) h1 h2 h3;obtain⟨aC,aA⟩:=Tz hP hN hC fun f hf=>(hT f hf).1;rw[hF] at aA
 refine⟨aB,?_,Pe _ _ aC aA (by omega) hw,aC,aA⟩;have:=Uz x.P x.C Fs hP hN hC (fun f hf=>(hT f hf).1) (by omega) (by rw[hF];exact hw);rw[hF] at this;exact this
