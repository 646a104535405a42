import Derived.Test.YtdkngfdnfekgfaaGreatLot37
import Derived.Test.YtdkngfdnfekgfaaGreatLot32
set_option maxHeartbeats 1000000
set_option maxRecDepth 100000
set_option linter.unusedSimpArgs false
set_option linter.unusedVariables false
namespace Go.Proofs.YtdkngfdnfekgfaaGreat
open Go.RowKit Tab
structure CfC(x:Cf):Prop where
 l1:x.P.length=x.n1
 l2:x.C.length=x.n2
 l3:x.T.length=x.n3
 pt:∀ y∈x.P,In64 y.1.per∧y.1.name.size≤140737488351232∧y.2.length=y.1.pn∧y.1.pn≤140737488351232
 tt:∀ y∈x.T,y.l.length=y.n∧(∀ z∈y.l,NdIn z)∧y.n≤140737488351232
 m1:x.n1≤140737488351232
 m2:x.n2≤140737488351232
 m3:x.n3≤140737488351232
 z:SizX x
theorem CfC.of{w:World}{x:Cf}(h:CfR w x):CfC x :=
 ⟨h.pp.len,h.ch.len,h.tb.len,fun y hy=>⟨(h.pt y hy).1.per,(h.pt y hy).1.name,(h.pt y hy).1.procs.len,(h.pt y hy).2.2⟩,fun y hy=>⟨(h.tt y hy).rd.len,(h.tt y hy).rd.bd,(h.tt y hy).few⟩,h.m1,h.m2,h.m3,h.z⟩
structure CvS(B gc:Nat)(x:Cf)(w:World):Prop where
 s:CpS B gc x.A1 x.A2 x.A3 x.n1 x.n2 x.n3 x.c1 x.c2 x.c3 x.P x.C x.T w
 pt:∀ y∈x.P,OwnV 59 2 w B y.1.pa y.1.pn y.1.pc (y.2.flatMap prc)
 tt:∀ y∈x.T,OwnV 70 3 w B y.A y.n y.c (ns y.l)
 ok:CfC x
section
variable {B gc:Nat} {x:Cf} {w w':World}
end
section
variable {B gc g:Nat} {A1 A2 A3:Option Addr} {n1 n2 n3 c1 c2 c3:Nat} {P:List Pq} {C:List ChV} {T:List NdT} {w w':World}
theorem OwnV.grew{E E' s s' B B' n c:Nat}{A A0 A':Option Addr}{l l0:List Value}{n0 c0:Nat}(h:OwnV E s w B A n c l)(h0:OwnV E' s' w B' A0 n0 c0 l0)(hE:E≠E')(hg:Grew A0 A' w w'):OwnV E s w' B A n c l :=
 h.keep' fun k hk=>hg.keep (h.obk_ge hk).2 fun e=>h.ne h0 hE k hk e
end
def StR(w:World)(B:Nat)(A:Option Addr)(n c:Nat)(l:List UInt8):Prop:=Own w B A n c l∨(c=n∧Rd w w.heap.size A n l)
theorem StR.bel{w w':World}{B n c:Nat}{A:Option Addr}{l:List UInt8}(h:StR w B A n c l)(hb:Below w.heap.size w w'):StR w' B A n c l:=by
 rcases h with h | ⟨h1,h2⟩
 ·exact .inl (h.below rfl hb)
 exact .inr ⟨h1,(h2.below hb).more hb.size⟩
theorem StR.len{w:World}{B n c:Nat}{A:Option Addr}{l:List UInt8}(h:StR w B A n c l):l.length=n:=by
 rcases h with h | ⟨_,h2⟩
 ·exact h.len
 exact h2.1
theorem run_appS(w:World)(B:Nat)(A:Option Addr)(n c:Nat)(l0:List UInt8)(h:StR w B A n c l0)(ad:Addr)(m d:Nat)(l:List UInt8)(hm0:0 < m)(hl:l.length=m)(hc:∀ j v,(bs l)[j]? = some v→w.cell? (ad.add j)=some v)(h1:∀ u∈bs l,u.oneCell'=true)(hb:n+m≤140737488351232)(hB:B≤w.heap.size)(hbk:ad.block < w.heap.size):
  ∃ A' c' w',(Builtin.append_ #[35,35] 35 #[.slice A n c,.slice (some ad) m d]).run Tryz.prog w=.ok (.slice A' (n+m) c') w'∧Own w' B A' (n+m) c' (l0++l)∧Grew A A' w w':=by
 have e:bs (l0++l)=bs l0++bs l:=by unfold bs;rw[List.map_append]
 have elU8:Elt 35 5 1 1 (.int .u8 0):=⟨Tryz.underlying35,by kernel_rfl,rfl,by omega⟩;have own:∀ {A n c} {l0:List UInt8},Own w B A n c l0→n+m≤140737488351232→∃ A' c' w',(Builtin.append_ #[35,35] 35 #[.slice A n c,.slice (some ad) m d]).run Tryz.prog w=.ok (.slice A' (n+m) c') w'∧Own w' B A' (n+m) c' (l0++l)∧Grew A A' w w':=fun {A n c l0} h hb=>by
  have e:bs (l0++l)=bs l0++bs l:=by unfold bs;rw[List.map_append]
  obtain⟨A',c',w',hrun,g1,_,g3⟩:=run_appX elU8 w B A n c (bs l0) h ad m d (bs l) w.heap.size (fun _=>⟨ad,rfl,hbk,hc⟩) (by rw[bs_length];omega) hm0 h1 (by omega) (by unfold maxLen;omega) hB;exact⟨A',c',w',hrun,by unfold Own;rw[e];exact g1,g3⟩
 rcases h with h | ⟨h0,hr⟩
 ·exact own h hb
 subst h0;rcases A with _ | b
 ·have hc0:c=0:=by
   rcases Nat.eq_zero_or_pos c with h | h
   ·exact h
   obtain⟨b,e,_⟩:=hr.2 h;cases e
  subst hc0;obtain rfl:l0=[]:=List.eq_nil_of_length_eq_zero hr.1;exact own (World.ownsRow_nil _ _ _ _) hb
 have hcl:∀ j (h:j < l0.length),w.cell? (b.add j)=some (.int .u8 (l0[j].toNat:Int)):=fun j h=>by
  obtain⟨b',e,_,hcl⟩:=hr.2 (by have:=hr.1;omega);injection e with e;subst e;exact hcl j h
 obtain⟨i,hi,hz,hs,hby⟩:=info_parts u8_info;have hlen0:(bs l0).length=c*1:=by rw[bs_length,hr.1];omega
 have hlenl:(bs l).length=m*1:=by rw[bs_length];omega
 have holds:∀ j u,(bs l0)[j]? = some u→w.cell? (b.add j)=some u:=fun j u hj=>by
  unfold bs at hj;rw[List.getElem?_map] at hj;obtain⟨q,hq,rfl⟩:=Option.map_eq_some_iff.1 hj;obtain⟨hj',e⟩:=List.getElem?_eq_some_iff.1 hq;rw[← e];exact hcl j hj'
 have hrun:=run_append_grow (P:=Tryz.prog) w 35 35 5 i _ Tryz.underlying35 hi hz b c c (bs l0) (by rw[hs];exact hlen0) holds ad m d (bs l) (by rw[hs];exact hlenl) hc (by omega) (by omega) (growslice_fits (by omega) (by rw[hby];omega));have hge:=grownCap_ge w (c+m) c 5;have hcm':grownCap w (c+m) c 5≤maxLen:=grownCap_le_maxLen w (c+m) c 5 (by unfold maxLen;omega);refine⟨_,_,_,hrun,⟨?_,.inr ⟨w.heap.size,_,_,rfl,hB,heap_alloc_new w.drew _,hge,hcm',?_,?_⟩⟩,⟨rfl,rfl,rfl,by simp,fun k hk _=>Below.heap_alloc w.drew _ k hk⟩,.inr ⟨w.heap.size,rfl,Nat.le_refl _⟩⟩
 ·rw[e,List.length_append,hlen0,hlenl];omega
 ·have e0:(bs l0).toArray.size=c:=by rw[List.size_toArray,hlen0];omega
  have e1:(bs l).toArray.size=m:=by rw[List.size_toArray,hlenl];omega
  have e2:(Value.int .u8 0).cells.size=1:=rfl;rw[Array.size_append,Array.size_append,size_zeroCells,e0,e1,e2];omega
 rw[e];simp only[Array.toList_append];exact List.take_left' (by rw[List.length_append,hlen0,hlenl];omega)
theorem wpList_appU{ops:Array Oper}{rest:List Oper}{o:Oper}{a:Act}{Q:Exit→Act→World→Prop}{w:World}(hgd:o.guard=none)(x y:Operand)
  (ho:o.op=.call { callee:=.builtin .append,args:=#[x,y],argTypes:=#[35,35] }) (hty:o.type=35)
  (B:Nat) (A:Option Addr) (n c:Nat) (l0:List UInt8) (hx:a.eval x=.slice A n c) (h:StR w B A n c l0) (S:Option Addr) (m d:Nat) (l:List UInt8) (Bs:Nat) (hy:a.eval y=.slice S m d) (hr:Rd w Bs S m l) (hm0:0 < m) (hb:n+m≤140737488351232) (hB:B≤w.heap.size) (hBs:Bs≤w.heap.size)
  (hK:∀ A' N c' w',Own w' B A' N c' (l0++l)→Grew A A' w w'→wpList Tryz.prog ops Q rest (a.put o.dst (.slice A' N c')) w'):wpList Tryz.prog ops Q (o::rest) a w:=by
 obtain⟨ad,e,hbk,hc⟩:=hr.2 hm0
 subst e
 refine wpList_plain hgd fun K hk=>?_
 obtain⟨A',c',w',hrun,h1,h3⟩:=run_appS w B A n c l0 h ad m d l hm0 hr.1 (fun j v hj=>by
  unfold bs at hj
  rw[List.getElem?_map] at hj
  obtain⟨q,hq,rfl⟩:=Option.map_eq_some_iff.1 hj
  obtain⟨hj',e⟩:=List.getElem?_eq_some_iff.1 hq
  rw[← e]
  exact hc j hj') (fun u hu=>by
  unfold bs at hu
  obtain⟨q,_,rfl⟩:=List.mem_map.1 hu
  rfl) hb hB (by omega)
 unfold Oper.wp execOp
 simp only[ho,hty,resolve,invoke,builtin,Sem.run_bind,Sem.run_pure,Result.andThen_ok,List.map_toArray,List.map_cons,List.map_nil,hx,hy,hrun]
 exact hk _ _ (hK A' _ c' w' h1 h3)
def encN(z:Nat→Int)(k:Nat):List UInt8:=(List.range k).flatMap fun j=>Num.enc (z j)
theorem encN_succ(z:Nat→Int)(k:Nat):encN z (k+1)=encN z k++Num.enc (z k):=by unfold encN;rw[List.range_succ,List.flatMap_append];simp
theorem encN_len{z:Nat→Int}:∀ {k:Nat},(∀ j,j < k→In64 (z j))→(encN z k).length≤9*k
 | 0,_=>Nat.le_refl _
 | k+1,h=>by
  have h1:=encN_len (z:=z) (k:=k) fun j hj=>h j (by omega)
  have h2:=enc_few _ (h k (by omega))
  rw[encN_succ,List.length_append]
  omega
theorem bgb_cell{w w':World}{g:Option Nat}(h:w.grownBy w' g){p:Addr}(hp:p.block < w.heap.size)(hne:g≠some p.block):w'.cell? p=w.cell? p:=by
 have e:=h.block p.block hp fun e=>hne e.symm;unfold World.cell?;rw[e]
def PutA(B:Nat)(A:Option Addr)(l:List UInt8)(w:World)(e:Ending)(w':World):Prop:=∃ A' n' c',e=.returned (.slice A' n' c')∧Own w' B A' n' c' l∧Grew A A' w w'
theorem puti_any(B:Nat)(A:Option Addr)(n c:Nat)(l:List UInt8)(ad:Addr)(m d:Nat)(z:Nat→Int)(w:World)(h:StR w B A n c l)(hB:B≤w.heap.size)(hS:∀ j,j < m→w.cell? (ad.add j)=some (.int .i64 (z j)))(hg:ad.block < w.heap.size)(hA:obk A≠some ad.block)(hz:∀ j,j < m→In64 (z j))(hn:n≤1000000)(hm:m≤16)(hm0:0 < m):
  Calls Tryz.prog 54 #[.slice A n c,.slice (some ad) m d] w (PutA B A (l++encN z m) w):=by
 have HZ:=hid hz;have HS:Hid (∀ V,w.grownBy V (obk A)→∀ j,j < m→V.cell? (ad.add j)=some (.int .i64 (z j))):=hid fun V hv j hj=>(bgb_cell hv (p:=ad.add j) (by rw[add_block];exact hg) (by rw[add_block];exact hA)).trans (hS j hj);have HO:=hid h;have HNL:=hid h.len;have HB:=hid hB;clear h hB hS hg hA hz;go_enter Tryz.func54,Tryz.ntmps54;go_wp2_with fail;go_loopw [0,6,9] (fun o _ q wr=>∃(k n' c':Nat) (A':Option Addr),k≤m∧q=.int .i64 k∧o=.slice A' n' c'∧StR wr B A' n' c' (l++encN z k)∧(0 < k→Own wr B A' n' c' (l++encN z k))∧Grew A A' w wr) (fun _ _ q _=>m - (intOf q).toNat)
 case atStart=>exact⟨0,n,c,A,by omega,rfl,rfl,(by show StR w B A n c (l++[]);rw[List.append_nil];exact HO.out),fun e=>absurd e (by omega),Grew.refl _ _⟩
 obtain⟨k,n1,c1,A1,hk,rfl,rfl,ho,hoo,hgr⟩:=hrel;have HOO:=hid hoo;have HG:=hid hgr;have HO1:=hid ho;clear hgr ho hoo HO;by_cases hlt:k < m
 ·have hlti:(k:Int) < (m:Int):=by omega
  have hc:=HS.out wr HG.out.gb k hlt;have hin:=HZ.out k hlt;have HN1:Hid (n1≤1000200):=hid (by
   have h1:=HO1.out.len;have h2:=encN_len (z:=z) (k:=k) fun j hj=>HZ.out j (by omega);have h3:=HNL.out;rw[List.length_append] at h1;omega)
  have HES:=hid (encN_succ z k);obtain⟨i1,i2⟩:=hin
  have HLE:=hid (enc_few (z k) ⟨i1,i2⟩);generalize z k=zk at hc i1 i2 HES HLE;go_wp2_with fail;refine(put_any none 0 0 [] zk wr (rd_nil _ _) (by omega) i1 i2).mono ?_;rintro e w1⟨A2,c2,rfl,hw2,hb2⟩;generalize 0+1+Num.wid zk.natAbs=n2 at hw2 ⊢;have hl2:0 < n2∧n2≤9:=by
   have h1:=hw2.len;have h2:=HLE.out;rw[List.nil_append] at h1;have h3:=Num.enc_length zk;omega
  have ho1:=HO1.out.bel hb2;have hbs:B≤w1.heap.size:=Nat.le_trans HB.out (Nat.le_trans HG.out.gb.size hb2.size);have HGG:=hid (HG.out.trans (Grew.bel hb2));have hsz:n1+n2≤140737488351232:=by have:=HN1.out;omega
  have hrd:=hw2.rd;rw[List.nil_append] at hrd;clear hb2 hw2 hc;go_wp2_with (at_builtin;refine wpList_appU rfl (.tmp 13) (.tmp 15) rfl rfl B A1 n1 c1 _ rfl ho1 A2 n2 c2 _ _ rfl hrd hl2.1 hsz hbs (Nat.le_refl _) ?_;intro A3 n3 c3 w3 hw3 hg3);rw[List.append_assoc,← HES.out] at hw3;go_roundw
  case rel=>exact⟨k+1,n3,c3,A3,by omega,by go_num,rfl,.inl hw3,fun _=>hw3,HGG.out.trans hg3⟩
  simp[intOf];omega
 have hlti:¬ (k:Int) < (m:Int):=by omega
 obtain rfl:k=m:=by omega
 go_wp2_with fail;go_ret;exact⟨A1,n1,c1,rfl,HOO.out hm0,HG.out⟩
theorem putl_any(B:Nat)(A:Option Addr)(n c:Nat)(l:List UInt8)(ad:Addr)(m d:Nat)(z:Nat→Int)(w:World)(h:StR w B A n c l)(hB:B≤w.heap.size)(hS:∀ j,j < m→w.cell? (ad.add j)=some (.int .i64 (z j)))(hg:ad.block < w.heap.size)(hA:obk A≠some ad.block)(hz:∀ j,j < m→In64 (z j))(hn:n≤1000000)(hm:m≤16)(hm0:0 < m):
  Calls Tryz.prog 82 #[.slice A n c,.slice (some ad) m d] w (PutA B A (l++encN z m) w):=by
 have HZ:=hid hz;have HS:Hid (∀ V,w.grownBy V (obk A)→∀ j,j < m→V.cell? (ad.add j)=some (.int .i64 (z j))):=hid fun V hv j hj=>(bgb_cell hv (p:=ad.add j) (by rw[add_block];exact hg) (by rw[add_block];exact hA)).trans (hS j hj);have HO:=hid h;have HNL:=hid h.len;have HB:=hid hB;clear h hB hS hg hA hz;go_enter Tryz.func82,Tryz.ntmps82;go_wp2_with fail;go_loopw [0,6,9] (fun o _ q wr=>∃(k n' c':Nat) (A':Option Addr),k≤m∧q=.int .i64 k∧o=.slice A' n' c'∧StR wr B A' n' c' (l++encN z k)∧(0 < k→Own wr B A' n' c' (l++encN z k))∧Grew A A' w wr) (fun _ _ q _=>m - (intOf q).toNat)
 case atStart=>exact⟨0,n,c,A,by omega,rfl,rfl,(by show StR w B A n c (l++[]);rw[List.append_nil];exact HO.out),fun e=>absurd e (by omega),Grew.refl _ _⟩
 obtain⟨k,n1,c1,A1,hk,rfl,rfl,ho,hoo,hgr⟩:=hrel;have HOO:=hid hoo;have HG:=hid hgr;have HO1:=hid ho;clear hgr ho hoo HO;by_cases hlt:k < m
 ·have hlti:(k:Int) < (m:Int):=by omega
  have hc:=HS.out wr HG.out.gb k hlt;have hin:=HZ.out k hlt;have HN1:Hid (n1≤1000200):=hid (by
   have h1:=HO1.out.len;have h2:=encN_len (z:=z) (k:=k) fun j hj=>HZ.out j (by omega);have h3:=HNL.out;rw[List.length_append] at h1;omega)
  have HES:=hid (encN_succ z k);obtain⟨i1,i2⟩:=hin
  have HLE:=hid (enc_few (z k) ⟨i1,i2⟩);generalize z k=zk at hc i1 i2 HES HLE;go_wp2_with fail;refine(put_any none 0 0 [] zk wr (rd_nil _ _) (by omega) i1 i2).mono ?_;rintro e w1⟨A2,c2,rfl,hw2,hb2⟩;generalize 0+1+Num.wid zk.natAbs=n2 at hw2 ⊢;have hl2:0 < n2∧n2≤9:=by
   have h1:=hw2.len;have h2:=HLE.out;rw[List.nil_append] at h1;have h3:=Num.enc_length zk;omega
  have ho1:=HO1.out.bel hb2;have hbs:B≤w1.heap.size:=Nat.le_trans HB.out (Nat.le_trans HG.out.gb.size hb2.size);have HGG:=hid (HG.out.trans (Grew.bel hb2));have hsz:n1+n2≤140737488351232:=by have:=HN1.out;omega
  have hrd:=hw2.rd;rw[List.nil_append] at hrd;clear hb2 hw2 hc;go_wp2_with (at_builtin;refine wpList_appU rfl (.tmp 13) (.tmp 15) rfl rfl B A1 n1 c1 _ rfl ho1 A2 n2 c2 _ _ rfl hrd hl2.1 hsz hbs (Nat.le_refl _) ?_;intro A3 n3 c3 w3 hw3 hg3);rw[List.append_assoc,← HES.out] at hw3;go_roundw
  case rel=>exact⟨k+1,n3,c3,A3,by omega,by go_num,rfl,.inl hw3,fun _=>hw3,HGG.out.trans hg3⟩
  simp[intOf];omega
 have hlti:¬ (k:Int) < (m:Int):=by omega
 obtain rfl:k=m:=by omega
 go_wp2_with fail;go_ret;exact⟨A1,n1,c1,rfl,HOO.out hm0,HG.out⟩
structure KpS(S:Nat→Prop)(w w':World):Prop where
 os:w'.os=w.os
 tape:w'.tape=w.tape
 output:w'.output=w.output
 size:w.heap.size≤w'.heap.size
 block:∀ k,k < w.heap.size→¬ S k→w'.heap[k]? = w.heap[k]?
section
variable {S:Nat→Prop} {w w' w'':World}
theorem KpS.refl(w:World):KpS S w w:=⟨rfl,rfl,rfl,Nat.le_refl _,fun _ _ _=>rfl⟩
theorem KpS.trans(h:KpS S w w')(k:KpS S w' w''):KpS S w w'':=⟨k.os.trans h.os,k.tape.trans h.tape,k.output.trans h.output,Nat.le_trans h.size k.size,fun i hi h1=>(k.block i (Nat.lt_of_lt_of_le hi h.size) h1).trans (h.block i hi h1)⟩
theorem KpS.bel(h:Below w.heap.size w w'):KpS S w w':=⟨h.os,h.tape,h.output,h.size,fun i hi _=>h.block i hi⟩
theorem KpS.grew{A A':Option Addr}(h:Grew A A' w w')(hS:∀ k,obk A=some k→S k):KpS S w w':=⟨h.gb.os,h.gb.tape,h.gb.output,h.gb.size,fun i hi h2=>h.gb.block i hi fun e=>h2 (hS i e.symm)⟩
theorem KpS.set{g:Nat}(hS:S g)(k:Nat)(v:Value):KpS S w (w.setCell ⟨g,k,none⟩ v):=by
 have h:Below g w (w.setCell ⟨g,k,none⟩ v):=(Below.refl _ _).setCell (p:=⟨g,k,none⟩) (Nat.le_refl _) v;exact⟨h.os,h.tape,h.output,h.size,fun i hi h1=>Below.heap_setCell _ _ _ _ fun e=>h1 (e▸hS)⟩
theorem KpS.own{E s B n c:Nat}{A1:Option Addr}{l:List Value}(h:KpS S w w')(ho:OwnV E s w B A1 n c l)(h1:∀ k,obk A1=some k→¬ S k):OwnV E s w' B A1 n c l :=
 OwnV.keep' ho fun k hk=>h.block k (OwnV.older ho hk) (h1 k hk)
theorem KpS.below{B:Nat}(h:KpS S w w')(hS:∀ k,S k→B≤k)(hB:B≤w.heap.size):Below B w w':=⟨h.os,h.tape,h.output,h.size,fun k hk=>h.block k (by omega) fun e=>by have:=hS k e;omega⟩
end
section
variable {S:Nat→Prop} {w w':World}
theorem KpS.gb{g:Nat}(h:w.grownBy w' (some g))(hS:S g):KpS S w w':=⟨h.os,h.tape,h.output,h.size,fun k hk h1=>h.block k hk fun e=>h1 (by injection e with e;exact e▸hS)⟩
theorem KpS.cell(h:KpS S w w'){p:Addr}(hp:p.block < w.heap.size)(h1:¬ S p.block):w'.cell? p=w.cell? p:=by
 have e:=h.block p.block hp h1;unfold World.cell?;rw[e]
theorem KpS.row{E s B n c:Nat}{A1:Option Addr}{l:List Value}{T t BT nT cT g:Nat}{lT:List Value}(h:w.grownBy w' (some g))(ho:OwnV E s w B A1 n c l)(hr:OwnV T t w BT (some ⟨g,0,none⟩) nT cT lT)(hE:E≠T):OwnV E s w' B A1 n c l :=
 OwnV.keep' ho fun k hk=>h.block k (OwnV.older ho hk) fun e=>ho.ne hr hE k hk e.symm
end
theorem upd_ne{live:Nat→Bool}{i k:Nat}(h:i≠k):Rgs.upd live i k=live k:=by unfold Rgs.upd;simp[Ne.symm h]
end Go.Proofs.YtdkngfdnfekgfaaGreat
