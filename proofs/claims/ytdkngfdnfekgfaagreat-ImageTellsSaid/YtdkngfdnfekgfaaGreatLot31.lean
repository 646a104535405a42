import Derived.Test.YtdkngfdnfekgfaaGreatLot28
import Derived.Test.YtdkngfdnfekgfaaGreatLot30
set_option maxRecDepth 100000
set_option linter.unusedSimpArgs false
set_option linter.unusedVariables false
namespace Go.Proofs.YtdkngfdnfekgfaaGreat
open Go.RowKit Tab
theorem firstF_nonzero{f:Nat→Int}{n i:Nat}(h:firstF f n=some i):f i≠0:=by
 have:=List.find?_some h;simpa using this
theorem firstF_zero{f:Nat→Int}{n:Nat}(h:firstF f n=none):∀ j,j < n→f j=0:=fun j hj=>by
 have:=List.find?_eq_none.1 h j (List.mem_range.2 hj)
 simpa using this
theorem hv5_same{x y:Pq}(h:SameP x y)(j:Nat):hv5 x.1 j=hv5 y.1 j:=by
 obtain⟨_,_,_,_,_,⟨h0,h1,h2,h3,h4⟩,_⟩:=h;unfold hv5;rw[h0,h1,h2,h3,h4]
theorem partF_same{x y:Pq}(h:SameP x y)(hx:x.2.length=x.1.pn)(hy:y.2.length=y.1.pn):partF x.1 x.2=partF y.1 y.2:=by
 have e:x.1.pn=y.1.pn:=by rw[← hx,← hy,h.2.2.2.2.2.2]
 have e2:(fun j=>hlF (hv5 x.1 j))=fun j=>hlF (hv5 y.1 j):=funext fun j=>by rw[hv5_same h j]
 unfold partF;rw[e,e2,h.2.2.2.2.2.2,h.2.1,h.2.2.1]
section
variable {P P':List Pq}
theorem name_same(hl:P.length=P'.length)(hs:∀(i:Nat) (x y:Pq),P[i]? = some x→P'[i]? = some y→SameP x y):P.map (fun z=>z.1.name)=P'.map (fun z=>z.1.name):=by
 apply List.ext_getElem?;intro i;rw[List.getElem?_map,List.getElem?_map];rcases Nat.lt_or_ge i P.length with h | h
 ·rw[List.getElem?_eq_getElem h,List.getElem?_eq_getElem (by omega:i < P'.length)];exact congrArg some (hs i _ _ (List.getElem?_eq_getElem h) (List.getElem?_eq_getElem (by omega:i < P'.length))).1
 rw[List.getElem?_eq_none h,List.getElem?_eq_none (by omega)]
theorem any_name(l:List Pq)(s:ByteArray):l.any (fun y=>decide (y.1.name=s))=(l.map (fun z=>z.1.name)).any (fun m=>decide (m=s)):=by
 rw[List.any_map];rfl
theorem ptE_same(hl:P.length=P'.length)(hs:∀(i:Nat) (x y:Pq),P[i]? = some x→P'[i]? = some y→SameP x y)(h1:∀ x∈P,x.2.length=x.1.pn)(h2:∀ x∈P',x.2.length=x.1.pn):ptE P=ptE P':=by
 funext i;unfold ptE;rcases Nat.lt_or_ge i P.length with h | h
 ·have e1:=List.getElem?_eq_getElem h;have e2:=List.getElem?_eq_getElem (by omega:i < P'.length);have hsm:=hs i _ _ e1 e2;rw[e1,e2];show ptW P i _=ptW P' i _;unfold ptW;rw[any_name,any_name,List.map_take,List.map_take,name_same hl hs,hsm.1,partF_same hsm (h1 _ (List.getElem_mem h)) (h2 _ (List.getElem_mem _))]
 rw[List.getElem?_eq_none h,List.getElem?_eq_none (by omega)]
theorem shortF_same(W:List Int):∀(l l':List PtV) (i:Nat),l.map (fun x=>(x.bud,x.per))=l'.map (fun x=>(x.bud,x.per))→shortF W i l=shortF W i l'
 | [],[],_,_=>rfl
 | [],_::_,_,h=>by simp at h
 | _::_,[],_,h=>by simp at h
 | x::l,y::l',i,h=>by
  simp only[List.map_cons,List.cons.injEq,Prod.mk.injEq] at h
  obtain⟨⟨hb,hp⟩,h⟩:=h
  simp only[shortF,ptShort,hb,hp,shortF_same W l l' (i+1) h]
theorem bp_same(hl:P.length=P'.length)(hs:∀(i:Nat) (x y:Pq),P[i]? = some x→P'[i]? = some y→SameP x y):(P.map Prod.fst).map (fun x=>(x.bud,x.per))=(P'.map Prod.fst).map (fun x=>(x.bud,x.per)):=by
 apply List.ext_getElem?;intro i;rw[List.getElem?_map,List.getElem?_map,List.getElem?_map,List.getElem?_map];rcases Nat.lt_or_ge i P.length with h | h
 ·have hsm:=hs i _ _ (List.getElem?_eq_getElem h) (List.getElem?_eq_getElem (by omega:i < P'.length));rw[List.getElem?_eq_getElem h,List.getElem?_eq_getElem (by omega:i < P'.length)];show some (_,_)=some (_,_);rw[hsm.2.1,hsm.2.2.1]
 rw[List.getElem?_eq_none h,List.getElem?_eq_none (by omega)]
theorem tbW_same(C:List ChV)(hl:P.length=P'.length)(hs:∀(i:Nat) (x y:Pq),P[i]? = some x→P'[i]? = some y→SameP x y)(l:List Nd):tbW P C l=tbW P' C l:=by
 unfold tbW holdsF;rw[hl,shortF_same _ _ _ 0 (bp_same hl hs)]
end
theorem CfR.lens{w:World}{x:Cf}(h:CfR w x):∀ y∈x.P,y.2.length=y.1.pn:=fun y hy=>(h.pt y hy).1.procs.len
theorem whF_same{x y:Cf}(h:SamX x y)(hx:∀ z∈x.P,z.2.length=z.1.pn)(hy:∀ z∈y.P,z.2.length=z.1.pn):whF x=whF y:=by
 obtain⟨⟨h1,h2,h3⟩,h4,h5⟩:=h;have e1:=ptE_same h1 h2 hx hy;have e2:tbE x.P x.C x.T=tbE y.P y.C y.T:=by
  funext i;unfold tbE;rcases Nat.lt_or_ge i x.T.length with h | h
  ·rw[List.getElem?_eq_getElem h,List.getElem?_eq_getElem (by omega:i < y.T.length)];show tbW _ _ _=tbW _ _ _;rw[sameN_eq (h5 i _ _ (List.getElem?_eq_getElem h) (List.getElem?_eq_getElem (by omega:i < y.T.length))),tbW_same x.C h1 h2,h3]
  rw[List.getElem?_eq_none h,List.getElem?_eq_none (by omega)]
 have e3:chE x.C x.P.length=chE y.C y.P.length:=by rw[h1,h3]
 have e4:sizesB x.P x.C x.T↔sizesB y.P y.C y.T:=by unfold sizesB;rw[h1,h3,h4]
 unfold whF whereF;by_cases hz:sizesB x.P x.C x.T
 ·rw[if_pos hz,if_pos (e4.1 hz),e1,e2,e3,h1,h3,h4]
 rw[if_neg hz,if_neg (fun k=>hz (e4.2 k))]
structure RiX(x:Cf):Prop where
 sz:sizesB x.P x.C x.T
 pt:∀ j,j < x.P.length→ptE x.P j=0
 ch:∀ j,j < x.C.length→chE x.C x.P.length j=0
 tb:∀ t∈x.T,tbW x.P x.C t.l=0
theorem RiX.ok{x:Cf}(h:RiX x):whF x=(0,-1) :=
 whereF_ok h.sz h.pt h.ch fun j hj=>by
  rw[tbE_at (List.getElem?_eq_getElem hj)]
  exact h.tb _ (List.getElem_mem hj)
theorem RiX.of{x:Cf}(h:(whF x).1=0):RiX x:=by
 unfold whF whereF at h;split at h
 ·rename_i hs;split at h
  ·rename_i i hi;exact absurd h (firstF_nonzero hi)
  rename_i hp;split at h
  ·rename_i i hi;exact absurd h (firstF_nonzero hi)
  rename_i hc;split at h
  ·rename_i i hi;exact absurd h (firstF_nonzero hi)
  rename_i ht;refine⟨hs,firstF_zero hp,firstF_zero hc,fun t hm=>?_⟩;obtain⟨i,hi⟩:=List.getElem?_of_mem hm;rw[← tbE_at hi];exact firstF_zero ht i (List.getElem?_eq_some_iff.1 hi).1
 exact absurd h (by decide)
def BtS(l:List UInt8)(v:Value)(w:World):Prop:=∃ A c,v=.slice A (l.length:Nat) c∧Rd w w.heap.size A l.length l
theorem BtS.on{l:List UInt8}{v:Value}{w w':World}(h:BtS l v w)(hb:Below w.heap.size w w'):BtS l v w':=by
 obtain⟨A,c,e,hr⟩:=h;exact⟨A,c,e,(hr.below hb).more hb.size⟩
def BtA(l:List UInt8)(w:World)(e:Ending)(w':World):Prop:=∃ v,e=.returned v∧BtS l v w'∧Below w.heap.size w w'
theorem BtA.made{n:Nat}{l:List UInt8}{w w':World}{e:Ending}(h:Made w n l e w'):BtA l w e w':=by
 obtain⟨A,c,rfl,ho,hb⟩:=h;have hr:=ho.rd;have hl:l.length=n:=hr.1;subst hl;exact⟨_,rfl,⟨A,c,rfl,hr⟩,hb⟩
theorem put_bt(l:List UInt8)(v:Value)(z:Int)(w:World)(h:BtS l v w)(hn:l.length+9≤140737488355328)(hz:In64 z):Calls Tryz.prog 25 #[v,.int .i64 z] w (BtA (l++Num.enc z) w):=by
 obtain⟨A,c,rfl,hr⟩:=h;exact(rput_any A l.length c l z w hr hn hz.1 hz.2).mono fun _ _=>BtA.made
theorem text_bt(l:List UInt8)(v:Value)(s:ByteArray)(w:World)(h:BtS l v w)(hn:l.length+s.size+9≤140737488355328):Calls Tryz.prog 26 #[v,.string s] w (BtA (l++Num.enc s.size++s.data.toList) w):=by
 obtain⟨A,c,rfl,hr⟩:=h;exact(rtext_any A l.length c l s w hr hn).mono fun _ _=>BtA.made
theorem flag_bt(l:List UInt8)(v:Value)(b:Bool)(w:World)(h:BtS l v w)(hn:l.length+9≤140737488355328):Calls Tryz.prog 27 #[v,.bool b] w (BtA (l++Num.enc (fl b)) w):=by
 obtain⟨A,c,rfl,hr⟩:=h;exact(rflag_any A l.length c l b w hr hn).mono fun _ _=>BtA.made
theorem enc_few(z:Int)(hz:In64 z):(Num.enc z).length≤9:=by
 have:=Num.enc_length z;have:=Num.wid_int z hz.1 hz.2;omega
theorem fl_in(b:Bool):In64 (fl b):=by cases b <;> (unfold fl In64;simp)
structure ByW(k:Nat)(W0:World)(v3:Value)(live:Nat→Bool)(a:Act)(w:World):Prop where
 on:Below W0.heap.size W0 w
 t3:live k=false→a.eval (.tmp 3)=v3
theorem ByW.upd{k:Nat}{W0:World}{v3:Value}{live:Nat→Bool}{a:Act}{w w':World}(h:ByW k W0 v3 live a w)(hb:Below w.heap.size w w')(i:Nat)(d:Tmp)(v:Value)(hi:i≠k:=by decide)(hd:d≠3:=by decide):ByW k W0 v3 (Rgs.upd live i) (a.put (some d) v) w':=by
 have e:Rgs.upd live i k=live k:=by unfold Rgs.upd;simp[Ne.symm hi]
 exact⟨h.on.trans (hb.mono h.on.size),fun e2=>by rw[Reg.eval_other _ _ _ _ hd];exact h.t3 (e▸e2)⟩
def headB(l:List UInt8)(y:PtV):List UInt8:=l++Num.enc y.name.size++y.name.data.toList++Num.enc y.bud++Num.enc y.per
def flagB(l:List UInt8)(y:PtV):List UInt8:=l++Num.enc (fl y.sched)++Num.enc (fl y.stop)++Num.enc y.pn
def procB(l:List UInt8)(q:Int×Int):List UInt8:=l++Num.enc q.1++Num.enc q.2
def healB(l:List UInt8)(y:PtV)(k:Nat):List UInt8:=(List.range k).foldl (fun m j=>m++Num.enc (hv5 y j)) l
def partB(l:List UInt8)(y:Pq):List UInt8:=healB (y.2.foldl procB (flagB (headB l y.1) y.1)) y.1 5
def chanA(l:List UInt8)(x:ChV):List UInt8:=l++Num.enc x.from_++Num.enc x.to_++Num.enc (fl x.queue)
def chanB(l:List UInt8)(x:ChV):List UInt8:=chanA l x++Num.enc x.cap++Num.enc (IntKind.i64.wrap x.max)++Num.enc x.late
def nodeB(l:List UInt8)(z:Nd):List UInt8:=l++Num.enc z.k++Num.enc z.p++Num.enc z.n
def tabB(l:List UInt8)(t:NdT):List UInt8:=t.l.foldl nodeB (l++Num.enc t.n)
def horaB:List UInt8:=[72,79,82,65]
def bytesB(x:Cf):List UInt8:=Crc.seal4 (x.T.foldl tabB (x.C.foldl chanB (x.P.foldl partB (horaB++Num.enc x.n1)++Num.enc x.n2)++Num.enc x.n3))
structure PartIn(y:Pq):Prop where
 name:y.1.name.size≤12
 bud:In64 y.1.bud
 per:In64 y.1.per
 few:y.1.pn≤3
 len:y.2.length=y.1.pn
 pr:∀ q∈y.2,In64 q.1∧In64 q.2
 hl:∀ j,In64 (hv5 y.1 j)
structure ChanIn(x:ChV):Prop where
 fr:In64 x.from_
 tt:In64 x.to_
 cap:In64 x.cap
 late:In64 x.late
theorem foldl_few{α:Type}(f:List UInt8→α→List UInt8)(k:Nat):∀(L:List α),(∀ x∈L,∀ l,(f l x).length≤l.length+k)→∀ l,(L.foldl f l).length≤l.length+L.length*k
 | [],_,l=>by simp
 | x::L,h,l=>by
  have h1:=h x (by simp) l
  have h2:=foldl_few f k L (fun y hy=>h y (by simp[hy])) (f l x)
  rw[List.foldl_cons,List.length_cons,Nat.succ_mul]
  omega
theorem headB_few{y:Pq}(h:PartIn y)(l:List UInt8):(headB l y.1).length≤l.length+39:=by
 have e1:=enc_few y.1.name.size (by have:=h.name;unfold In64;omega);have e2:=enc_few _ h.bud;have e3:=enc_few _ h.per;have e4:y.1.name.data.toList.length=y.1.name.size:=by rw[Array.length_toList];rfl
 have:=h.name;unfold headB;simp only[List.length_append];omega
theorem flagB_few{y:Pq}(h:PartIn y)(l:List UInt8):(flagB l y.1).length≤l.length+27:=by
 have e1:=enc_few _ (fl_in y.1.sched);have e2:=enc_few _ (fl_in y.1.stop);have e3:=enc_few y.1.pn (by have:=h.few;unfold In64;omega);unfold flagB;simp only[List.length_append];omega
theorem procB_few{q:Int×Int}(h:In64 q.1∧In64 q.2)(l:List UInt8):(procB l q).length≤l.length+18:=by
 have e1:=enc_few _ h.1;have e2:=enc_few _ h.2;unfold procB;simp only[List.length_append];omega
theorem healB_few{y:Pq}(h:PartIn y)(k:Nat)(l:List UInt8):(healB l y.1 k).length≤l.length+k*9:=by
 have:=foldl_few (fun(m:List UInt8) (j:Nat)=>m++Num.enc (hv5 y.1 j)) 9 (List.range k) (fun j _ l=>by have:=enc_few _ (h.hl j);simp only[List.length_append];omega) l;rwa [List.length_range] at this
theorem partB_few{y:Pq}(h:PartIn y)(l:List UInt8):(partB l y).length≤l.length+165:=by
 have h1:=headB_few h l;have h2:=flagB_few h (headB l y.1);have h3:=foldl_few procB 18 y.2 (fun q hq l=>procB_few (h.pr q hq) l) (flagB (headB l y.1) y.1);have h4:=healB_few h 5 (y.2.foldl procB (flagB (headB l y.1) y.1));have h5:=h.few;have h6:=h.len;have h7:y.2.length*18≤3*18:=Nat.mul_le_mul_right _ (by omega);unfold partB;omega
theorem wrap_in(z:Int):In64 (IntKind.i64.wrap z):=by
 unfold In64;simp only[IntKind.wrap_i64];omega
theorem chanA_few{x:ChV}(h:ChanIn x)(l:List UInt8):(chanA l x).length≤l.length+27:=by
 have e1:=enc_few _ h.fr;have e2:=enc_few _ h.tt;have e3:=enc_few _ (fl_in x.queue);unfold chanA;simp only[List.length_append];omega
theorem chanB_few{x:ChV}(h:ChanIn x)(l:List UInt8):(chanB l x).length≤l.length+54:=by
 have h1:=chanA_few h l;have e1:=enc_few _ h.cap;have e2:=enc_few _ (wrap_in x.max);have e3:=enc_few _ h.late;unfold chanB;simp only[List.length_append];omega
theorem nodeB_few{z:Nd}(h:NdIn z)(l:List UInt8):(nodeB l z).length≤l.length+27:=by
 have e1:=enc_few _ h.1;have e2:=enc_few _ h.2.1;have e3:=enc_few _ h.2.2;unfold nodeB;simp only[List.length_append];omega
theorem ptE_rightB{P:List Pq}{k:Nat}{x:Pq}(hx:P[k]? = some x)(h:ptE P k=0):nameF x.1.name=true∧(P.take k).any (fun y=>decide (y.1.name=x.1.name))=false∧partF x.1 x.2=true:=by
 unfold ptE at h;rw[hx] at h;have h:ptW P k x=0:=h;unfold ptW at h;split at h
 ·cases h
 rename_i h1;split at h
 ·rename_i h2;simp only[Bool.or_eq_true,Bool.not_eq_true',not_or] at h1;exact⟨by simpa using h1.1,by simpa using h1.2,h2⟩
 cases h
theorem PartIn.of{P:List Pq}{k:Nat}{y:Pq}(hy:P[k]? = some y)(h:ptE P k=0)(hl:y.2.length=y.1.pn):PartIn y:=by
 obtain⟨h1,_,h3⟩:=ptE_rightB hy h;unfold nameF at h1;simp only[Bool.and_eq_true,decide_eq_true_eq] at h1;unfold partF at h3;simp only[Bool.and_eq_true,decide_eq_true_eq,List.all_eq_true,List.mem_range] at h3;obtain⟨⟨h4,h5⟩,h6,h7,h8⟩:=h3;unfold pbF at h8;simp only[Bool.or_eq_true,Bool.and_eq_true,decide_eq_true_eq] at h8;have hh:∀ j,j < 5→In64 (hv5 y.1 j):=fun j hj=>by
  have:=h7 j hj;unfold hlF at this;simp only[Bool.and_eq_true,decide_eq_true_eq] at this;unfold In64;omega
 refine⟨h1.2.2,by unfold In64;omega,by unfold In64;omega,h5,hl,fun q hq=>?_,fun j=>?_⟩
 ·have:=h6 q hq;unfold prcF at this;simp only[Bool.and_eq_true,decide_eq_true_eq] at this;unfold In64;omega
 rcases Nat.lt_or_ge j 5 with h | h
 ·exact hh j h
 have e:hv5 y.1 j=hv5 y.1 4:=by
  unfold hv5;rw[if_neg (by omega),if_neg (by omega),if_neg (by omega),if_neg (by omega)];rfl
 rw[e];exact hh 4 (by omega)
theorem ChanIn.of{C:List ChV}{n:Nat}{k:Nat}{x:ChV}(hx:C[k]? = some x)(h:chE C n k=0)(hn:n≤6):ChanIn x:=by
 unfold chE at h;rw[hx] at h;have h:(if chanF x (n:Int)=true then (0:Int) else 17)=0:=h;split at h
 ·rename_i h1;unfold chanF at h1;simp only[Bool.and_eq_true,Bool.or_eq_true,decide_eq_true_eq] at h1;obtain⟨⟨a1,a2,a3,a4,a5,a6,a7⟩,b⟩:=h1;refine⟨by unfold In64;omega,by unfold In64;omega,?_,by unfold In64;omega⟩;rcases b with ⟨_,b⟩ | ⟨_,b⟩
  ·unfold In64;omega
  unfold In64;omega
 cases h
end Go.Proofs.YtdkngfdnfekgfaaGreat
