import Derived.Test.YtfmndmhjjbeokaaGreatDoorLow29
import Derived.Laws.CopyOwn
import Derived.Laws.ResultCell
set_option maxHeartbeats 4000000
set_option maxRecDepth 100000
set_option linter.unusedSimpArgs false
set_option linter.unusedVariables false
namespace Go.Proofs.YtfmndmhjjbeokaaGreatDoor
open Go.RowKit Tab
structure KpS(S:Nat->Prop)(w w':World):Prop where
 os:w'.os=w.os
 tape:w'.tape=w.tape
 output:w'.output=w.output
 size:w.heap.size<=w'.heap.size
 block:∀ k,k < w.heap.size->¬ S k->w'.heap[k]? = w.heap[k]?
section
variable {S:Nat->Prop} {w w' w'':World}
theorem KpS.refl(w:World):KpS S w w:=⟨rfl,rfl,rfl,Ag _,fun _ _ _=>rfl⟩
theorem KpS.trans(h:KpS S w w')(k:KpS S w' w''):KpS S w w'':=⟨k.os.trans h.os,k.tape.trans h.tape,k.output.trans h.output,Ai h.size k.size,fun i hi h1=>(k.block i (Bc hi h.size) h1).trans (h.block i hi h1)⟩
theorem KpS.bel(h:Below w.heap.size w w'):KpS S w w':=⟨h.os,h.tape,h.output,h.size,fun i hi _=>h.block i hi⟩
theorem KpS.grew{A A':Option Addr}(h:Grew A A' w w')(hS:∀ k,obk A=some k->S k):KpS S w w':=⟨h.gb.os,h.gb.tape,h.gb.output,h.gb.size,fun i hi h2=>h.gb.block i hi fun e=>h2 (hS i e.symm)⟩
theorem KpS.set{g:Nat}(hS:S g)(k:Nat)(v:Value):KpS S w (w.setCell ⟨g,k,none⟩ v):=by
 have h:Below g w (w.setCell ⟨g,k,none⟩ v):=(Aj _ _).setCell (p:=⟨g,k,none⟩) (Ag _) v;exact⟨h.os,h.tape,h.output,h.size,fun i hi h1=>Bn _ _ _ _ fun e=>h1 (e▸hS)⟩
theorem KpS.own{E s B n c:Nat}{A1:Option Addr}{l:List Value}(h:KpS S w w')(ho:OwnV E s w B A1 n c l)(h1:∀ k,obk A1=some k->¬ S k):OwnV E s w' B A1 n c l :=
 OwnV.keep' ho fun k hk=>h.block k (OwnV.older ho hk) (h1 k hk)
theorem KpS.below{B:Nat}(h:KpS S w w')(hS:∀ k,S k->B<=k)(hB:B<=w.heap.size):Below B w w':=⟨h.os,h.tape,h.output,h.size,fun k hk=>h.block k (by omega) fun e=>by have:=hS k e;omega⟩
end
section
variable {S:Nat->Prop} {w w':World}
theorem KpS.gb{g:Nat}(h:w.grownBy w' (some g))(hS:S g):KpS S w w':=⟨h.os,h.tape,h.output,h.size,fun k hk h1=>h.block k hk fun e=>h1 (by injection e with e;exact e▸hS)⟩
theorem KpS.cell(h:KpS S w w'){p:Addr}(hp:p.block < w.heap.size)(h1:¬ S p.block):w'.cell? p=w.cell? p:=by
 have e:=h.block p.block hp h1;unfold World.cell?;rw[e]
theorem KpS.row{E s B n c:Nat}{A1:Option Addr}{l:List Value}{T t BT nT cT g:Nat}{lT:List Value}(h:w.grownBy w' (some g))(ho:OwnV E s w B A1 n c l)(hr:OwnV T t w BT (some ⟨g,0,none⟩) nT cT lT)(hE:E≠T):OwnV E s w' B A1 n c l :=
 OwnV.keep' ho fun k hk=>h.block k (OwnV.older ho hk) fun e=>ho.ne hr hE k hk e.symm
end
theorem D4{live:Nat->Bool}{i k:Nat}(h:i≠k):Rgs.upd live i k=live k:=by unfold Rgs.upd;simp[Ne.symm h]
theorem Fz{T n:Nat}{w:World}{B g:Nat}{l:List Value}(e:(isAgg T).run Tryz.prog w=.ok true w)(e2:(sizeOf T).run Tryz.prog w=.ok n w)(h:OwnV T n w B (some ⟨g,0,none⟩) 1 1 l):(loadVar T ⟨g,0,none⟩).run Tryz.prog w=.ok (.agg l.toArray) w:=by
 have hl:l.length=n:=by have:=h.1;omega
 unfold loadVar;rw[Sem.run_bind,e,At];simp only[if_true];rw[Sem.run_bind,e2,At,Sem.run_bind];have:=run_loadCells_list (P:=Tryz.prog) (w:=w) ⟨g,0,none⟩ l (fun j v hj=>by
  rw[Jh];have aA:=(Af.1 hj).1;have h1:=Ah h j (by omega);have h2:=(Af.1 hj).2
  first | exact h1.trans (congrArg some h2) | (rw[h1];simp[<- h2]))
 rw[hl] at this;rw[this,At];rfl
theorem Qy{T n:Nat}{w:World}{B g:Nat}{aC l:List Value}(e2:(sizeOf T).run Tryz.prog w=.ok n w)(h:OwnV T n w B (some ⟨g,0,none⟩) 1 1 aC)(hl:l.length=n)(h1:∀ v∈l,v.oneCell'=true):
  ∃ w',(storeVar T ⟨g,0,none⟩ (.agg l.toArray)).run Tryz.prog w=.ok () w'/\OwnV T n w' B (some ⟨g,0,none⟩) 1 1 l/\w.grownBy w' (some g):=by
 rcases h.2 with ⟨hv,_⟩ | ⟨g',cap,aB,hv,hb,hg,h2,h3,h4,h5⟩
 ·cases hv
 injection hv with k1 k2 k3;injection k1 with k1;injection k1 with k1;subst k1;subst k3;have hc:aB.size=n:=by omega
 have aA:=run_storeCells_at (P:=Tryz.prog) g 0 T l 0 aB w hg (by omega) h1;have hx:(aB.toList.take (0+0)++l++aB.toList.drop (0+0+l.length)).toArray=l.toArray:=by
  rw[Cq (by rw[C8];omega)];simp
 rw[hx] at aA;refine⟨w.setRow g l.toArray,?_,?_,?_⟩
 ·unfold storeVar;rw[Sem.run_bind,e2,At];have hz:(Value.agg l.toArray).cells=l.toArray:=rfl;rw[hz];simp only[List.size_toArray,hl,ne_eq,not_true_eq_false,if_false];exact aA
 ·refine⟨by omega,.inr ⟨g,1,l.toArray,rfl,hb,setRow_heap w g aB l.toArray T _ hg,h2,h3,by rw[List.size_toArray];omega,?_⟩⟩;rw[Bd (by rw[List.toList_toArray];omega)]
 exact⟨rfl,rfl,rfl,by simp,fun i _ aD=>setRow_other w g i _ fun e=>aD (by rw[e])⟩
theorem wpList_loadX{T n:Nat}{ops:Array Oper}{aA:List Oper}{o:Oper}{a:Act}{Q:Exit->Act->World->Prop}{w:World}{B g:Nat}{l:List Value}(aB:o.guard=none)(x:Operand)(ho:o.op=.load T x)(hx:a.eval x=.pointer (some ⟨g,0,none⟩))
  (e:(isAgg T).run Tryz.prog w=.ok true w) (e2:(sizeOf T).run Tryz.prog w=.ok n w) (h:OwnV T n w B (some ⟨g,0,none⟩) 1 1 l) (hK:wpList Tryz.prog ops Q aA (a.put o.dst (.agg l.toArray)) w):wpList Tryz.prog ops Q (o::aA) a w:=by
 refine wpList_plain aB fun K hk=>?_;have hl:=Fz e e2 h;have hs:(Instr.loadAt T (.pointer (some ⟨g,0,none⟩))).run Tryz.prog w=.ok (.agg l.toArray) w:=by
  unfold Instr.loadAt;exact hl
 unfold Oper.wp execOp;simp only[ho,Sem.run_bind,Sem.run_pure,At,hx,hs];exact hk _ _ hK
theorem wpList_storeX{T n:Nat}{ops:Array Oper}{aA:List Oper}{o:Oper}{a:Act}{Q:Exit->Act->World->Prop}{w:World}{B g:Nat}{aC l:List Value}(aD:o.guard=none)(x y:Operand)(ho:o.op=.store T x y)(hx:a.eval x=.pointer (some ⟨g,0,none⟩))(hy:a.eval y=.agg l.toArray)
  (e2:(sizeOf T).run Tryz.prog w=.ok n w) (h:OwnV T n w B (some ⟨g,0,none⟩) 1 1 aC) (hl:l.length=n) (h1:∀ v∈l,v.oneCell'=true) (hK:∀ w',OwnV T n w' B (some ⟨g,0,none⟩) 1 1 l->w.grownBy w' (some g)->wpList Tryz.prog ops Q aA (a.put o.dst undef) w'):wpList Tryz.prog ops Q (o::aA) a w:=by
 refine wpList_plain aD fun K hk=>?_;obtain⟨w',aB,h3,h4⟩:=Qy e2 h hl h1;have hs:(Instr.storeAt T (.pointer (some ⟨g,0,none⟩)) (.agg l.toArray)).run Tryz.prog w=.ok () w':=by
  unfold Instr.storeAt;exact aB
 unfold Oper.wp execOp;simp only[ho,Sem.run_bind,Sem.run_pure,At,hx,hy,hs];exact hk _ _ (hK w' h3 h4)
theorem kh(y:Pq):∀ u∈pcq y,u.oneCell'=true:=by
 intro u hu;simp[pcq,pcl] at hu;rcases hu with rfl | rfl | rfl | rfl | rfl | rfl | rfl | rfl | rfl | rfl | rfl <;> rfl
theorem i_cc(y:ChV):∀ u∈cc y,u.oneCell'=true:=by
 intro u hu;simp[cc] at hu;rcases hu with rfl | rfl | rfl | rfl | rfl | rfl <;> rfl
theorem Qaf(y:NdT):∀ u∈tcn y,u.oneCell'=true:=by
 intro u hu;simp[tcn] at hu;rcases hu with rfl;rfl
theorem Qbu{T n B g:Nat}{w:World}{l:List Value}(o:OwnV T n w B (some ⟨g,0,none⟩) 1 1 l)(k:Nat)(v:Value)(hv:l[k]? = some v):w.cell? ⟨g,k,none⟩=some v/\w.frozen? ⟨g,k,none⟩=false :=
 ⟨(Ah o k (by have:=(Af.1 hv).1;have:=o.1;omega)).trans hv,Aq o k⟩
theorem gk{fn:Func}{p:Tmp}{T n:Nat}(h:fn.results=#[.cell p T]){aA:Array Value}{w:World}{B g:Nat}{l:List Value}(e:(isAgg T).run Tryz.prog w=.ok true w)(e2:(sizeOf T).run Tryz.prog w=.ok n w)(hp:aA.getD p undef=.pointer (some ⟨g,0,none⟩))(ho:OwnV T n w B (some ⟨g,0,none⟩) 1 1 l):(results fn aA).run Tryz.prog w=.ok (.agg l.toArray) w:=by
 have e3:(asAddr (.pointer (some ⟨g,0,none⟩))).run Tryz.prog w=.ok ⟨g,0,none⟩ w:=rfl;rw[Gm h,hp,e3,At,Fz e e2 ho]
theorem gj{fn:Func}{p q:Tmp}{T n:Nat}(h:fn.results=#[.cell p T,.tmp q]){aA:Array Value}{w:World}{B g:Nat}{l:List Value}(e:(isAgg T).run Tryz.prog w=.ok true w)(e2:(sizeOf T).run Tryz.prog w=.ok n w)(hp:aA.getD p undef=.pointer (some ⟨g,0,none⟩))(ho:OwnV T n w B (some ⟨g,0,none⟩) 1 1 l):(results fn aA).run Tryz.prog w=.ok (.tuple #[.agg l.toArray,aA.getD q undef]) w:=by
 have e3:(asAddr (.pointer (some ⟨g,0,none⟩))).run Tryz.prog w=.ok ⟨g,0,none⟩ w:=rfl;rw[results_cell_tmp h,hp,e3,At,Fz e e2 ho,At]
theorem Qbr(w:World):(sizeOf 60).run Tryz.prog w=.ok 11 w:=by go_simp
theorem Qbw(w:World):(isAgg 60).run Tryz.prog w=.ok true w:=by go_simp
theorem Qbs(w:World):(sizeOf 66).run Tryz.prog w=.ok 6 w:=by go_simp
theorem Qbx(w:World):(isAgg 66).run Tryz.prog w=.ok true w:=by go_simp
theorem Qbt(w:World):(sizeOf 31).run Tryz.prog w=.ok 3 w:=by go_simp
theorem Qby(w:World):(isAgg 31).run Tryz.prog w=.ok true w:=by go_simp
end Go.Proofs.YtfmndmhjjbeokaaGreatDoor
namespace Go.Proofs.YtfmndmhjjbeokaaGreatDoor
open Go.RowKit Tab Txt
def hzV(l:List Int):List Value:=l.map (.int .i64)
def Gw(R:Option (List Int×List UInt8))(l:List Int)(st:Option (List UInt8)):Prop:=R=st.bind fun s=>(healS (5 - l.length) s).map fun x=>(l++x.1,x.2)
theorem Vj{R:Option (List Int×List UInt8)}{l:List Int}{c:UInt8}{r:List UInt8}(h:Gw R l (some (c::r)))(hl:l.length < 5):
  (dgS c=true->Gw R (l++[(c.toNat:Int) - 48]) (some r))/\(dgS c=false->∀ x,Gw R (l++[x]) none):=by
 unfold Gw at h |-;obtain⟨k,hk⟩:∃ k,5 - l.length=k+1:=⟨4 - l.length,by omega⟩;rw[hk,As,healS_cons] at h;refine⟨fun hd=>?_,fun hd x=>?_⟩
 ·rw[hd,if_pos rfl] at h;rw[Aa,show 5 - (l.length+[(c.toNat:Int) - 48].length)=k by simp only[Ad,Bh];omega,As,h];cases healS k r with
  | none=>rfl
  | some x=>show some (l++((c.toNat:Int) - 48)::x.1,x.2)=some ((l++[(c.toNat:Int) - 48])++x.1,x.2);rw[Ar];rfl
 rw[hd,if_neg (by decide)] at h;exact h
theorem Vk{R:Option (List Int×List UInt8)}{l:List Int}{st:Option (List UInt8)}(h:Gw R l st)(hl:l.length < 5)(hs:st.getD []=[])(x:Int):Gw R (l++[x]) none:=by
 unfold Gw at h |-;cases st with
 | none=>exact h
 | some s =>
  obtain⟨k,hk⟩:∃ k,5 - l.length=k+1:=⟨4 - l.length,by omega⟩;rw[hk,show s=[] from hs] at h;exact h
def Qar(B g:Nat)(R:Option (List Int×List UInt8))(w:World)(e:Ending)(w':World):Prop:=∃(h0 h1 h2 h3 h4:Int) (st':Option (List UInt8)),e=.returned (.agg #[.int .i64 h0,.int .i64 h1,.int .i64 h2,.int .i64 h3,.int .i64 h4])/\Got R [h0,h1,h2,h3,h4] st'/\Rpo B g st' w w'
theorem iv(st:Option (List UInt8)):Gw (st.bind (healS 5)) [] st:=by
 unfold Gw;cases st with
 | none=>rfl
 | some s =>
  show healS 5 s=(healS 5 s).map fun x=>([]++x.1,x.2);cases healS 5 s with
  | none=>rfl
  | some y=>rfl
theorem Yy{R:Option (List Int×List UInt8)}{l:List Int}{st:Option (List UInt8)}(h:Gw R l st)(hl:l.length=5):Got R l st:=by
 unfold Gw at h;rw[hl] at h;cases st with
 | none=>exact Iu h
 | some s=>exact J6 (by rw[h];show some (l++[],s)=_;rw[Az])
def fiv(l:List Int):List Value:=hzV l++List.replicate (5 - l.length) (.int .i64 0)
theorem Rh{l:List Int}(h:l.length < 5)(x:Int):(fiv l).set l.length (.int .i64 x)=fiv (l++[x]):=by
 unfold fiv hzV;rw[List.set_append_right _ _ (by rw[Bi];exact Ag _),Bi,Nat.sub_self,Aa,De];obtain⟨k,hk⟩:∃ k,5 - l.length=k+1:=⟨4 - l.length,by omega⟩;rw[hk,show 5 - (l.length+[x].length)=k by simp only[Ad,Bh];omega,Dp,Bp,Ar];rfl
theorem Td{l:List Int}(h:l.length < 5):fiv l=fiv (l++[0]):=by
 unfold fiv hzV;obtain⟨k,hk⟩:∃ k,5 - l.length=k+1:=⟨4 - l.length,by omega⟩;rw[Aa,De,hk,show 5 - (l.length+[(0:Int)].length)=k by simp only[Ad,Bh];omega,Dp,Ar];rfl
theorem iy{l:List Int}(h:l.length=5):∃ a b c d e,l=[a,b,c,d,e]:=by
 match l,h with
 | [a,b,c,d,e],_=>exact⟨a,b,c,d,e,rfl⟩
theorem Qw(w:World):(sizeOf 58).run Tryz.prog w=.ok 5 w:=by go_simp
theorem W8(w:World):(isAgg 58).run Tryz.prog w=.ok true w:=by go_simp
theorem Im{fn:Func}{p:Tmp}{T n:Nat}(h:fn.results=#[.cell p T]){aA:Array Value}{w:World}{B g:Nat}{l:List Value}(e:(isAgg T).run Tryz.prog w=.ok true w)(e2:(sizeOf T).run Tryz.prog w=.ok n w)(hp:aA.getD p undef=.pointer (some ⟨g,0,none⟩))(ho:OwnV T n w B (some ⟨g,0,none⟩) 1 1 l):(results fn aA).run Tryz.prog w=.ok (.agg l.toArray) w:=by
 have e3:(asAddr (.pointer (some ⟨g,0,none⟩))).run Tryz.prog w=.ok ⟨g,0,none⟩ w:=rfl;rw[Gm h,hp,e3,At,Fz e e2 ho]
theorem Na{w w2:World}{g gx:Nat}{k:Nat}{v:Value}(h:w.grownBy w2 (some g))(hx:w.heap.size<=gx):w.grownBy (w2.setCell ⟨gx,k,none⟩ v) (some g) :=
 N4 h ((Aj _ _).setCell (p:=⟨gx,k,none⟩) hx v)
theorem Qcr{B g:Nat}{st:Option (List UInt8)}{w:World}(h:Qce B g st w):Calls Tryz.prog 111 #[.pointer (some ⟨g,0,none⟩)] w (Qar B g (st.bind (healS 5)) w):=by
 have HI:=hid (iv st);have b1:=bl1 w (.cells #[.int .i64 0,.int .i64 0,.int .i64 0,.int .i64 0,.int .i64 0] 58);have o1:=D7 w 58 5 w.heap.size #[.int .i64 0,.int .i64 0,.int .i64 0,.int .i64 0,.int .i64 0] 1 rfl (Ag _) (by unfold maxLen;omega);have b2:=bl1 (w.alloc (.cells #[.int .i64 0,.int .i64 0,.int .i64 0,.int .i64 0,.int .i64 0] 58)) (.cells #[.int .i64 0,.int .i64 0,.int .i64 0,.int .i64 0,.int .i64 0] 58);have o2:=D7 (w.alloc (.cells #[.int .i64 0,.int .i64 0,.int .i64 0,.int .i64 0,.int .i64 0] 58)) 58 5 w.heap.size #[.int .i64 0,.int .i64 0,.int .i64 0,.int .i64 0,.int .i64 0] 1 rfl b1.size (by unfold maxLen;omega);have aY:=OwnV.below o1 rfl b2;have aZ:Qce B g st ((w.alloc (.cells #[.int .i64 0,.int .i64 0,.int .i64 0,.int .i64 0,.int .i64 0] 58)).alloc (.cells #[.int .i64 0,.int .i64 0,.int .i64 0,.int .i64 0,.int .i64 0] 58)):=OwnV.below (OwnV.below h rfl b1) rfl b2;have H2:Hd (Rpo B g st w ((w.alloc (.cells #[.int .i64 0,.int .i64 0,.int .i64 0,.int .i64 0,.int .i64 0] 58)).alloc (.cells #[.int .i64 0,.int .i64 0,.int .i64 0,.int .i64 0,.int .i64 0] 58))):=hid ⟨aZ,Ho (b1.trans (b2.mono b1.size))⟩;have O1:=hid aY;have O2:=hid o2;have aA:Hd (g < w.heap.size):=hid h.cells.2.2.2.2.2;have hz:(w.alloc (.cells #[.int .i64 0,.int .i64 0,.int .i64 0,.int .i64 0,.int .i64 0] 58)).heap.size=w.heap.size+1:=by simp
 rw[hz] at O2;generalize st.bind (healS 5)=R at HI |-;clear h b1 o1 b2 o2 aY aZ hz;go_in;go_wp2_with fail;have HA:Hd (obk (some (⟨w.heap.size,0,none⟩:Addr))=some w.heap.size):=hid rfl;have aK:Hd (obk (some (⟨w.heap.size+1,0,none⟩:Addr))=some (w.heap.size+1)):=hid rfl;generalize (w.alloc (.cells #[.int .i64 0,.int .i64 0,.int .i64 0,.int .i64 0,.int .i64 0] 58)).alloc (.cells #[.int .i64 0,.int .i64 0,.int .i64 0,.int .i64 0,.int .i64 0] 58)=wz at H2 O1 O2 |-;go_loopw [4,5] (fun _ q wr=>∃(l:List Int) (sn:Option (List UInt8)) (L1:List Value),l.length<=5/\q=.int .i64 (l.length:Nat)/\Gw R l sn/\Rpo B g sn w wr/\OwnV 58 5 wr w.heap.size (some ⟨w.heap.size,0,none⟩) 1 1 L1/\OwnV 58 5 wr w.heap.size (some ⟨w.heap.size+1,0,none⟩) 1 1 (fiv l)) (fun _ q _=>5 - (intOf q).toNat)
 case atStart=>exact⟨[],st,_,by decide,rfl,HI.o,H2.o,O1.o,O2.o⟩
 obtain⟨l,sn,L1,hl,rfl,hi,hr,bC,bB⟩:=hrel;have aR:=hid hi;have HR:=hid hr;have aC:=hid bC;have aB:=hid bB;clear hi hr bC bB H2 O1 O2 HI;by_cases aG:l.length < 5
 ·have bF:((l.length:Nat):Int) < 5:=by omega
  have aD:=hid (Lw HR.o.rd);by_cases hs:sn.getD []=[]
  ·have aE:=hid (Vk aR.o aG hs 0);have e1:nxV sn=0:=by
    cases sn with
    | none=>rfl
    | some s=>rw[show s=[] from hs];rfl
   rw[e1] at aD;clear hs e1;go_wp2_with fail;refine aD.o.mono ?_;rintro e w1⟨rfl,h1⟩;have H1:=hid (HR.o.trans h1);have aQ:=hid (OwnV.gbo aC.o h1.gb (by rw[HA.o];intro e;injection e with e;have:=aA.o;omega));have aP:=hid (OwnV.gbo aB.o h1.gb (by rw[aK.o];intro e;injection e with e;have:=aA.o;omega));have HF:=hid (En h1.rd);clear h1 aC aB HR;go_wp2_with fail;refine HF.o.mono ?_;rintro e w2⟨rfl,h2⟩;have H2:=hid (H1.o.trans h2);have aX:=hid (OwnV.gbo aQ.o h2.gb (by rw[HA.o];intro e;injection e with e;have:=aA.o;omega));have aV:Hd (OwnV 58 5 w2 w.heap.size (some ⟨w.heap.size+1,0,none⟩) 1 1 (fiv (l++[0]))):=hid (by rw[<- Td aG];exact OwnV.gbo aP.o h2.gb (by rw[aK.o];intro e;injection e with e;have:=aA.o;omega));clear h2 HF aQ aP H1;go_wp2;go_roundw
   case rel=>exact⟨l++[0],none,L1,by rw[Aa];show l.length+1<=5;omega,by rw[Aa];go_num,aE.o,H2.o,aX.o,aV.o⟩
   simp[intOf];omega
  obtain⟨c,r,rfl⟩:∃ c r,sn=some (c::r):=by
   cases sn with
   | none=>exact absurd rfl hs
   | some s =>
    cases s with
    | nil=>exact absurd rfl hs
    | cons c r=>exact⟨c,r,rfl⟩
  have aU:=Vj aR.o aG;have aJ:=hid aU.1;have aT:=hid aU.2;rw[show nxV (some (c::r))=(c.toNat:Int) from rfl,show nxS (some (c::r))=some r from rfl] at aD;clear aU hs aR;by_cases aF:c.toNat=48
  ·have aE:Hd (Gw R (l++[0]) (some r)):=hid (by have:=aJ.o (by unfold dgS;rw[aF];rfl);rw[aF] at this;exact this);rw[aF] at aD;clear aF aJ aT;go_wp2_with fail;refine aD.o.mono ?_;rintro e w1⟨rfl,h1⟩;have H1:=hid (HR.o.trans h1);have o1:=OwnV.gbo aC.o h1.gb (by rw[HA.o];intro e;injection e with e;have:=aA.o;omega);have o2:=OwnV.gbo aB.o h1.gb (by rw[aK.o];intro e;injection e with e;have:=aA.o;omega);obtain⟨z0,c1⟩:∃ v,w1.cell? ⟨w.heap.size+1,l.length,none⟩=some v:=⟨_,(Ah o2 l.length (by omega)).trans (Am (by rw[o2.1];omega))⟩;have c2:=Aq o2 l.length;have aO:Hd (OwnV 58 5 (w1.setCell ⟨w.heap.size+1,l.length,none⟩ (.int .i64 0)) w.heap.size (some ⟨w.heap.size,0,none⟩) 1 1 L1):=hid (OwnV.other o1 _ _ (by intro k e;injection e with e;injection e with e;show k≠w.heap.size+1;omega));have aN:Hd (OwnV 58 5 (w1.setCell ⟨w.heap.size+1,l.length,none⟩ (.int .i64 0)) w.heap.size (some ⟨w.heap.size+1,0,none⟩) 1 1 (fiv (l++[0]))):=hid (by rw[<- Rh aG 0];exact OwnV.set o2 l.length _ (by rw[o2.1];omega));have aM:Hd (Rpo B g (some r) w (w1.setCell ⟨w.heap.size+1,l.length,none⟩ (.int .i64 0))):=hid ⟨OwnV.other H1.o.rd _ _ (by intro k e;injection e with e;injection e with e;show k≠w.heap.size+1;have:=aA.o;omega),Na H1.o.gb (by omega)⟩;clear o1 o2 h1 aC aB HR H1;go_wp2;go_roundw
   case rel=>exact⟨l++[0],some r,L1,by rw[Aa];show l.length+1<=5;omega,by rw[Aa];go_num,aE.o,aM.o,aO.o,aN.o⟩
   simp[intOf];omega
  by_cases aI:c.toNat=49
  ·have aE:Hd (Gw R (l++[1]) (some r)):=hid (by have:=aJ.o (by unfold dgS;rw[aI];rfl);rw[aI] at this;exact this);rw[aI] at aD;clear aF aI aJ aT;go_wp2_with fail;refine aD.o.mono ?_;rintro e w1⟨rfl,h1⟩;have H1:=hid (HR.o.trans h1);have o1:=OwnV.gbo aC.o h1.gb (by rw[HA.o];intro e;injection e with e;have:=aA.o;omega);have o2:=OwnV.gbo aB.o h1.gb (by rw[aK.o];intro e;injection e with e;have:=aA.o;omega);obtain⟨z0,c1⟩:∃ v,w1.cell? ⟨w.heap.size+1,l.length,none⟩=some v:=⟨_,(Ah o2 l.length (by omega)).trans (Am (by rw[o2.1];omega))⟩;have c2:=Aq o2 l.length;have aO:Hd (OwnV 58 5 (w1.setCell ⟨w.heap.size+1,l.length,none⟩ (.int .i64 1)) w.heap.size (some ⟨w.heap.size,0,none⟩) 1 1 L1):=hid (OwnV.other o1 _ _ (by intro k e;injection e with e;injection e with e;show k≠w.heap.size+1;omega));have aN:Hd (OwnV 58 5 (w1.setCell ⟨w.heap.size+1,l.length,none⟩ (.int .i64 1)) w.heap.size (some ⟨w.heap.size+1,0,none⟩) 1 1 (fiv (l++[1]))):=hid (by rw[<- Rh aG 1];exact OwnV.set o2 l.length _ (by rw[o2.1];omega));have aM:Hd (Rpo B g (some r) w (w1.setCell ⟨w.heap.size+1,l.length,none⟩ (.int .i64 1))):=hid ⟨OwnV.other H1.o.rd _ _ (by intro k e;injection e with e;injection e with e;show k≠w.heap.size+1;have:=aA.o;omega),Na H1.o.gb (by omega)⟩;clear o1 o2 h1 aC aB HR H1;go_wp2;go_roundw
   case rel=>exact⟨l++[1],some r,L1,by rw[Aa];show l.length+1<=5;omega,by rw[Aa];go_num,aE.o,aM.o,aO.o,aN.o⟩
   simp[intOf];omega
  by_cases aL:c.toNat=50
  ·have aE:Hd (Gw R (l++[2]) (some r)):=hid (by have:=aJ.o (by unfold dgS;rw[aL];rfl);rw[aL] at this;exact this);rw[aL] at aD;clear aF aI aL aJ aT;go_wp2_with fail;refine aD.o.mono ?_;rintro e w1⟨rfl,h1⟩;have H1:=hid (HR.o.trans h1);have o1:=OwnV.gbo aC.o h1.gb (by rw[HA.o];intro e;injection e with e;have:=aA.o;omega);have o2:=OwnV.gbo aB.o h1.gb (by rw[aK.o];intro e;injection e with e;have:=aA.o;omega);obtain⟨z0,c1⟩:∃ v,w1.cell? ⟨w.heap.size+1,l.length,none⟩=some v:=⟨_,(Ah o2 l.length (by omega)).trans (Am (by rw[o2.1];omega))⟩;have c2:=Aq o2 l.length;have aO:Hd (OwnV 58 5 (w1.setCell ⟨w.heap.size+1,l.length,none⟩ (.int .i64 2)) w.heap.size (some ⟨w.heap.size,0,none⟩) 1 1 L1):=hid (OwnV.other o1 _ _ (by intro k e;injection e with e;injection e with e;show k≠w.heap.size+1;omega));have aN:Hd (OwnV 58 5 (w1.setCell ⟨w.heap.size+1,l.length,none⟩ (.int .i64 2)) w.heap.size (some ⟨w.heap.size+1,0,none⟩) 1 1 (fiv (l++[2]))):=hid (by rw[<- Rh aG 2];exact OwnV.set o2 l.length _ (by rw[o2.1];omega));have aM:Hd (Rpo B g (some r) w (w1.setCell ⟨w.heap.size+1,l.length,none⟩ (.int .i64 2))):=hid ⟨OwnV.other H1.o.rd _ _ (by intro k e;injection e with e;injection e with e;show k≠w.heap.size+1;have:=aA.o;omega),Na H1.o.gb (by omega)⟩;clear o1 o2 h1 aC aB HR H1;go_wp2;go_roundw
   case rel=>exact⟨l++[2],some r,L1,by rw[Aa];show l.length+1<=5;omega,by rw[Aa];go_num,aE.o,aM.o,aO.o,aN.o⟩
   simp[intOf];omega
  have aE:Hd (Gw R (l++[0]) none):=hid (aT.o (by unfold dgS;exact Ac (by omega)) 0);obtain⟨b,hb⟩:∃ b,b=c.toNat:=⟨_,rfl⟩;rw[<- hb] at aD aF aI aL;have i1:((b:Int) == 48)=false:=by rw[Ak];omega
  have i2:((b:Int) == 49)=false:=by rw[Ak];omega
  have i3:((b:Int) == 50)=false:=by rw[Ak];omega
  clear hb aF aI aL aJ aT;go_wp2_with fail;refine aD.o.mono ?_;rintro e w1⟨rfl,h1⟩;have H1:=hid (HR.o.trans h1);have aQ:=hid (OwnV.gbo aC.o h1.gb (by rw[HA.o];intro e;injection e with e;have:=aA.o;omega));have aP:=hid (OwnV.gbo aB.o h1.gb (by rw[aK.o];intro e;injection e with e;have:=aA.o;omega));have HF:=hid (En h1.rd);clear h1 aC aB HR;go_wp2_with fail;refine HF.o.mono ?_;rintro e w2⟨rfl,h2⟩;have H2:=hid (H1.o.trans h2);have aX:=hid (OwnV.gbo aQ.o h2.gb (by rw[HA.o];intro e;injection e with e;have:=aA.o;omega));have aV:Hd (OwnV 58 5 w2 w.heap.size (some ⟨w.heap.size+1,0,none⟩) 1 1 (fiv (l++[0]))):=hid (by rw[<- Td aG];exact OwnV.gbo aP.o h2.gb (by rw[aK.o];intro e;injection e with e;have:=aA.o;omega));clear h2 HF aQ aP H1;go_wp2;go_roundw
  case rel=>exact⟨l++[0],none,L1,by rw[Aa];show l.length+1<=5;omega,by rw[Aa];go_num,aE.o,H2.o,aX.o,aV.o⟩
  simp[intOf];omega
 have bF:¬ ((l.length:Nat):Int) < 5:=by omega
 have bD:l.length=5:=by omega
 have HG:=hid (Yy aR.o bD);obtain⟨a0,a1,a2,a3,a4,rfl⟩:=iy bD;clear aR;go_upto_region 14 with fail;refine wp_region_lit (wpList_loadX rfl (.tmp 3) rfl rfl (W8 _) (Qw _) aB.o (wpList_storeX (l:=fiv [a0,a1,a2,a3,a4]) rfl (.tmp 2) (.tmp 25) rfl rfl rfl (Qw _) aC.o rfl ?_ fun w5 bA aH=>?_))
 ·intro v hv;simp[fiv,hzV] at hv;rcases hv with rfl | rfl | rfl | rfl | rfl <;> rfl
 have bG:Hd (Rpo B g sn w w5):=hid ⟨OwnV.gbo HR.o.rd aH (by intro e;injection e with e;have:=aA.o;dsimp only at e;omega),by
  have h:=HR.o.gb;exact⟨aH.os.trans h.os,aH.tape.trans h.tape,aH.output.trans h.output,Ai h.size aH.size,fun i hi bE=>(aH.block i (Bc hi h.size) (by intro e;injection e with e;omega)).trans (h.block i hi bE)⟩⟩
 have bH:=hid bA;clear bA aH aC aB HR;go_wp2_with fail;refine Be (Im rfl (W8 _) (Qw _) rfl bH.o) rfl ?_;exact⟨a0,a1,a2,a3,a4,sn,rfl,HG.o,bG.o⟩
