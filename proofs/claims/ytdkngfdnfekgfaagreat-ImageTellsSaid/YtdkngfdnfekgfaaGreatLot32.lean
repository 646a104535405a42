import Derived.Deep.QuietTactic
import Derived.BigQuiet
import Derived.WalkSmall
import Derived.Test.YtdkngfdnfekgfaaGreatLot31
set_option maxHeartbeats 1000000
set_option maxRecDepth 100000
set_option linter.unusedSimpArgs false
set_option linter.unusedVariables false
namespace Go.Proofs.YtdkngfdnfekgfaaGreat
namespace Crc
def ook(l:List UInt8):Bool:=decide (4≤l.length∧seal4 (l.take (l.length - 4))=l)
def oval(l:List UInt8):List UInt8:=if ook l then l.take (l.length - 4) else []
theorem seal4_length(l:List UInt8):(seal4 l).length=l.length+4:=by simp[seal4,sb_length]
theorem ook_seal(l:List UInt8):ook (seal4 l)=true:=by
 have h:(seal4 l).take ((seal4 l).length - 4)=l:=by
  rw[seal4_length,Nat.add_sub_cancel];unfold seal4;exact List.take_left' rfl
 unfold ook;rw[h,seal4_length];simp
theorem oval_seal(l:List UInt8):oval (seal4 l)=l:=by
 unfold oval;rw[ook_seal,if_pos rfl,seal4_length,Nat.add_sub_cancel];unfold seal4;exact List.take_left' rfl
theorem ook_short(l:List UInt8)(h:l.length < 4):ook l=false:=by
 unfold ook;rw[decide_eq_false_iff_not];omega
theorem oval_not(l:List UInt8)(h:ook l=false):oval l=[]:=by
 unfold oval;rw[h];rfl
theorem ook_long(l:List UInt8)(k:Nat)(h:l.length=k+4):ook l=true↔of (l.take k)=rd (l.drop k):=by
 rw[rd_iff _ _ (by rw[List.length_drop];omega)];unfold ook;rw[decide_eq_true_iff,h,Nat.add_sub_cancel];unfold seal4;constructor
 ·rintro ⟨_,h1⟩;have h2:l.take k++sb (of (l.take k))=l.take k++l.drop k:=by rw[h1,List.take_append_drop]
  exact(List.append_cancel_left h2).symm
 intro h1;exact⟨by omega,by rw[← h1,List.take_append_drop]⟩
theorem oval_long(l:List UInt8)(k:Nat)(h:l.length=k+4)(h1:ook l=true):oval l=l.take k:=by
 unfold oval;rw[h1,if_pos rfl,h,Nat.add_sub_cancel]
end Crc
open Go.RowKit
theorem snext_any(c:BitVec 32)(x:UInt8)(w:World):
  Calls Tryz.prog 80 #[.int .u32 (c.toNat:Int),.int .u8 (x.toNat:Int)] w fun e w'=>e=.returned (.int .u32 ((Crc.nxt c x).toNat:Int))∧w=w':=by
 go_enter Tryz.func80,Tryz.ntmps80;go_wp2;go_loop [0,11] (fun t i=>∃ k:Nat,k≤8∧i=.int .i64 k∧t=.int .u32 ((Crc.stpN k (c ^^^ Crc.up x)).toNat:Int)) (fun _ i=>8 - (intOf i).toNat)
 case atStart=>exact⟨0,by omega,rfl,u32_eq (start_nat c x)⟩
 obtain⟨k,hk,rfl,rfl⟩:=hrel;by_cases hlt:k < 8
 ·by_cases hm:(Crc.stpN k (c ^^^ Crc.up x)).msb=true
  ·have h1:=msb_yes _ hm;have H:=hid (stp_yes _ hm);clear hm;go_wp2;go_round
   case rel=>exact⟨k+1,by omega,by go_num,u32_eq H.out⟩
   simp[intOf];omega
  have h1:=msb_no _ hm;have H:=hid (stp_no _ hm);clear hm;go_wp2;go_round
  case rel=>exact⟨k+1,by omega,by go_num,u32_eq H.out⟩
  simp[intOf];omega
 obtain rfl:k=8:=by omega
 go_wp2;go_ret;exact⟨rfl,rfl⟩
theorem rd_snoc(l:List UInt8)(k:Nat)(x:UInt8)(h:l[k]? = some x):Crc.rd (l.take (k+1))=Crc.rd1 (Crc.rd (l.take k)) x:=by
 have:l.take (k+1)=l.take k++[x]:=by rw[List.take_add_one,h];rfl
 rw[this];simp[Crc.rd,List.foldl_append]
theorem rd1_nat(c:BitVec 32)(x:UInt8):bits .or .u32 ((c.toNat:Int)*(256:Int) % (4294967296:Int)) ((x.toNat:Int) % (4294967296:Int))=((Crc.rd1 c x).toNat:Int):=by
 have e1:(c.toNat:Int)*(256:Int) % (4294967296:Int)=((c <<< 8).toNat:Int):=by rw[BitVec.toNat_shiftLeft];simp[Nat.shiftLeft_eq]
 have e2:(x.toNat:Int) % (4294967296:Int)=((x.toBitVec.setWidth 32).toNat:Int):=by
  have h:x.toNat < 256:=x.toBitVec.isLt;simp;omega
 rw[e1,e2,bor];rfl
theorem rd_end(n:Nat)(l:List UInt8)(h:l.length=n):((Crc.rd (l.take n)).toNat:Int)=((Crc.rd l).toNat:Int):=by
 rw[List.take_of_length_le (by omega)]
theorem sof_any(A:Option Addr)(n cap:Nat)(l:List UInt8)(B:Nat)(w:World)(h:Rd w B A n l)(hn:n≤9223372036854775807):
  Calls Tryz.prog 53 #[.slice A n cap] w fun e w'=>e=.returned (.int .u32 ((Crc.of l).toNat:Int))∧w=w':=by
 have H0:=hid h.1;go_enter Tryz.func53,Tryz.ntmps53;go_wp2;go_loop [3,8] (fun t i=>∃ k:Nat,k≤n∧i=.int .i64 k∧t=.int .u32 ((Crc.fld Crc.ones (l.take k)).toNat:Int)) (fun _ i=>n - (intOf i).toNat)
 case atStart=>exact⟨0,by omega,rfl,rfl⟩
 obtain⟨k,hk,rfl,rfl⟩:=hrel;by_cases hlt:k < n
 ·obtain⟨ad,x,rfl,_,hx,hc⟩:=h.at_ hlt;have H:=hid (fld_snoc Crc.ones l k x hx);clear hx;go_wp2_with (go_at_call 80;refine(snext_any _ _ _).mono ?_;rintro e w'⟨rfl,rfl⟩);go_round
  case rel=>exact⟨k+1,by omega,by go_num,by rw[H.out]⟩
  simp[intOf];omega
 obtain rfl:k=n:=by omega
 go_wp2;go_ret;exact⟨ret_u32 (of_end k l H0.out),rfl⟩
theorem srd_any(A:Option Addr)(n cap:Nat)(l:List UInt8)(B:Nat)(w:World)(h:Rd w B A n l)(hn:n≤9223372036854775807):
  Calls Tryz.prog 58 #[.slice A n cap] w fun e w'=>e=.returned (.int .u32 ((Crc.rd l).toNat:Int))∧w=w':=by
 have H0:=hid h.1;go_enter Tryz.func58,Tryz.ntmps58;go_wp2;go_loop [3,8] (fun t i=>∃ k:Nat,k≤n∧i=.int .i64 k∧t=.int .u32 ((Crc.rd (l.take k)).toNat:Int)) (fun _ i=>n - (intOf i).toNat)
 case atStart=>exact⟨0,by omega,rfl,rfl⟩
 obtain⟨k,hk,rfl,rfl⟩:=hrel;by_cases hlt:k < n
 ·obtain⟨ad,x,rfl,_,hx,hc⟩:=h.at_ hlt;have H:=hid (rd_snoc l k x hx);clear hx;go_wp2;go_round
  case rel=>exact⟨k+1,by omega,by go_num,by rw[H.out];exact u32_eq (rd1_nat _ _)⟩
  simp[intOf];omega
 obtain rfl:k=n:=by omega
 go_wp2;go_ret;exact⟨ret_u32 (rd_end k l H0.out),rfl⟩
theorem seal_any(A:Option Addr)(n cap:Nat)(l:List UInt8)(w:World)(h:Rd w w.heap.size A n l)(hn:n≤140737488355000):
  Calls Tryz.prog 31 #[.slice A n cap] w (Made w (n+4) (Crc.seal4 l)):=by
 have H0:=hid h.1;go_enter Tryz.func31,Tryz.ntmps31;go_wp2_with (first
  | (at_make;refine wpList_mk rfl (.tmp 6) (.tmp 9) rfl w.heap.size n (n+4) _ rfl rfl (by omega) (by omega) (by omega) (Nat.le_refl _) ?_;intro w1 hw1 hb1)
  | (with_reducible refine wpList_cp (o:=⟨some 13,_,_,_,_,_⟩) rfl (.tmp 11) (.tmp 12) rfl w.heap.size w.heap.size n (n+4) n cap _ rfl hw1 A l w.heap.size rfl (h.below hb1) (Nat.le_refl _) ?_;intro w2 hw2 hb2)
  | (go_at_call 53;refine(sof_any _ _ _ _ _ _ (h.below (hb1.trans hb2)) (by omega)).mono ?_;rintro e w'⟨rfl,rfl⟩)
  | (at_builtin;refine wpList_app rfl (.tmp 16) (.tmp 28) rfl rfl w.heap.size (some ⟨w.heap.size,0,none⟩) n (n+4) _ rfl (hw2.below rfl ((Below.refl _ _).alloc (Nat.le_refl _) _)) (some ⟨w2.heap.size,0,none⟩) 4 4 (Crc.sb (Crc.of l)) _ rfl (own_lit w2 w.heap.size (Crc.sb (Crc.of l)) _ (sum_cells _) (by have:=(hb1.trans hb2).size;omega) (sb_small _)).rd (n+4) rfl (Crc.seal4 l) (by rw[List.take_of_length_le (by have:=H0.out;omega)];rfl) (by omega) (by have:=(hb1.trans hb2).size;simp;omega) ?_;intro A2 c2 w3 hw3 hb3))
 go_ret;refine⟨A2,c2,rfl,hw3,?_⟩;have s1:=(hb1.trans hb2).size;exact(hb1.trans hb2).trans (((Below.refl _ _).alloc (by omega) _).trans hb3)
def Opened(w:World)(l:List UInt8)(e:Ending)(w':World):Prop :=
 ∃ A c,e=.returned (.tuple #[.slice A (Crc.oval l).length c,.bool (Crc.ook l)])∧Own w' w.heap.size A (Crc.oval l).length c (Crc.oval l)∧Below w.heap.size w w'
theorem opened_no(w w':World)(l:List UInt8)(h:Crc.ook l=false)(hb:Below w.heap.size w w'):Opened w l (.returned (.tuple #[.slice none 0 0,.bool false])) w':=by
 refine⟨none,0,?_,?_,hb⟩
 ·rw[Crc.oval_not l h,h];rfl
 rw[Crc.oval_not l h];exact World.ownsRow_nil _ _ _ _
theorem opened_yes(w w':World)(l:List UInt8)(k:Nat)(A:Option Addr)(c:Nat)(hl:l.length=k+4)(h:Crc.ook l=true)(ho:Own w' w.heap.size A k c (l.take k))(hb:Below w.heap.size w w'):
  Opened w l (.returned (.tuple #[.slice A k c,.bool true])) w':=by
 have e:Crc.oval l=l.take k:=Crc.oval_long l k hl h;have e2:(Crc.oval l).length=k:=by rw[e,List.length_take];omega
 refine⟨A,c,by rw[e2,h],?_,hb⟩;rw[e2,e];exact ho
theorem sof_same(A:Option Addr)(n cap:Nat)(l:List UInt8)(B:Nat)(w:World)(h:Rd w B A n l)(hn:n≤9223372036854775807):
  Calls Tryz.prog 53 #[.slice A n cap] w fun e w'=>e=.returned (.int .u32 ((Crc.of l).toNat:Int))∧w'=w :=
 (sof_any A n cap l B w h hn).mono fun _ _ ⟨a,b⟩=>⟨a,b.symm⟩
theorem srd_same(A:Option Addr)(n cap:Nat)(l:List UInt8)(B:Nat)(w:World)(h:Rd w B A n l)(hn:n≤9223372036854775807):
  Calls Tryz.prog 58 #[.slice A n cap] w fun e w'=>e=.returned (.int .u32 ((Crc.rd l).toNat:Int))∧w'=w :=
 (srd_any A n cap l B w h hn).mono fun _ _ ⟨a,b⟩=>⟨a,b.symm⟩
theorem open_short(A:Option Addr)(n cap:Nat)(l:List UInt8)(w:World)(h:Rd w w.heap.size A n l)(hn:n < 4):
  Calls Tryz.prog 33 #[.slice A n cap] w (Opened w l):=by
 have hno:=hid (Crc.ook_short l (by rw[h.1];omega));have hdec:decide ((n:Int) - 4 < 0)=true:=decide_eq_true (by omega);go_enter Tryz.func33,Tryz.ntmps33;go_wp2;go_quiet (fail);go_wp2;go_ret2;exact opened_no _ _ _ hno.out (below_drewN (Below.refl _ _) _)
theorem open_long(ad:Addr)(k cap:Nat)(l:List UInt8)(w:World)(h:Rd w w.heap.size (some ad) (k+4) l)(hn:k+4≤140737488355328)(hcap:k+4≤cap):
  Calls Tryz.prog 33 #[.slice (some ad) (k+4) cap] w (Opened w l):=by
 have H0:=hid h.1;have hf:=h.front k (by omega);have hd:=h.back k 4 rfl;by_cases hq:Crc.of (l.take k)=Crc.rd (l.drop k)
 ·have hyes:=hid ((Crc.ook_long l k h.1).2 hq);go_enter Tryz.func33,Tryz.ntmps33;go_wp2;have hdec:decide ((k:Int) < 0)=false:=decide_eq_false (by omega);go_quiet ((first | (go_at_call 53;exact Calls.quiet_of_same (sof_same _ _ _ _ _ _ (hf.drewN _) (by omega))) | (go_at_call 58;exact Calls.quiet_of_same (srd_same _ _ _ _ _ _ (hd.drewN _) (by omega)))));go_wp2_with (first
   | (at_make;refine wpList_mk rfl (.tmp 22) (.tmp 22) rfl w.heap.size k k _ rfl rfl rfl (Nat.le_refl _) (by omega) (Nat.le_refl _) ?_;intro w1 hw1 hb1;have hw2:Own w1 w.heap.size (some ⟨w.heap.size,0,none⟩) k k _:=hw1;have hb2:Below w.heap.size w w1:=(below_drewN (Below.refl _ _) _).trans hb1)
   | (with_reducible refine wpList_cp (o:=⟨some 26,_,_,_,_,_⟩) rfl (.tmp 24) (.tmp 25) rfl w.heap.size w.heap.size k k (k+4) cap _ rfl hw2 (some ad) l w.heap.size rfl (h.below hb2) (by omega) ?_;intro w3 hw3 hb3))
  go_ret2;exact opened_yes _ _ _ k _ _ H0.out hyes.out hw3 (hb2.trans hb3)
 have hno:=hid (show Crc.ook l=false from Bool.eq_false_iff.2 fun h0=>hq ((Crc.ook_long l k h.1).1 h0));have hq2:¬ ((Crc.of (l.take k)).toNat:Int)=((Crc.rd (l.drop k)).toNat:Int):=fun e=>hq (BitVec.eq_of_toNat_eq (by omega));have hk0:(0:Int)≤(k:Int):=by omega
 have hk1:k≤cap:=by omega
 have hk2:¬ cap=k:=by omega
 go_enter Tryz.func33,Tryz.ntmps33;go_wp2;have hdec:decide ((k:Int) < 0)=false:=decide_eq_false (by omega);go_quiet ((first | (go_at_call 53;exact Calls.quiet_of_same (sof_same _ _ _ _ _ _ (hf.drewN _) (by omega))) | (go_at_call 58;exact Calls.quiet_of_same (srd_same _ _ _ _ _ _ (hd.drewN _) (by omega)))));go_wp2;go_ret2;exact opened_no _ _ _ hno.out (below_drewN (Below.refl _ _) _)
theorem open_any(A:Option Addr)(n cap:Nat)(l:List UInt8)(w:World)(h:Rd w w.heap.size A n l)(hn:n≤140737488355328)(hcap:n≤cap):
  Calls Tryz.prog 33 #[.slice A n cap] w (Opened w l):=by
 by_cases h4:n < 4
 ·exact open_short A n cap l w h h4
 obtain⟨k,rfl⟩:∃ k,n=k+4:=⟨n - 4,by omega⟩;obtain⟨ad,rfl,_⟩:=h.2 (by omega);exact open_long ad k cap l w h hn hcap
end Go.Proofs.YtdkngfdnfekgfaaGreat
namespace Go.Proofs.YtdkngfdnfekgfaaGreat
open Go.RowKit Tab
structure PtK where
 name:ByteArray
 bud:Int
 per:Int
 sched:Bool
 stop:Bool
 L:List (Int×Int)
 h:List Int
def coreK(x:Pq):PtK:=⟨x.1.name,x.1.bud,x.1.per,x.1.sched,x.1.stop,x.2,[x.1.h0,x.1.h1,x.1.h2,x.1.h3,x.1.h4]⟩
structure CfK where
 P:List PtK
 C:List ChV
 T:List (List Nd)
def coreX(x:Cf):CfK:=⟨x.P.map coreK,x.C,x.T.map NdT.l⟩
structure LenX(x:Cf):Prop where
 p:x.P.length=x.n1
 c:x.C.length=x.n2
 t:x.T.length=x.n3
 pr:∀ y∈x.P,y.2.length=y.1.pn
 nd:∀ y∈x.T,y.l.length=y.n
def MaxX(x:Cf):Prop:=∀ y∈x.C,0≤y.max∧y.max≤4294967295
def procE(q:Int×Int):List UInt8:=Num.enc q.1++Num.enc q.2
def partE(k:PtK):List UInt8:=(Num.enc k.name.size++k.name.data.toList)++(Num.enc k.bud++(Num.enc k.per++(Num.enc (fl k.sched)++(Num.enc (fl k.stop)++(Num.enc k.L.length++(k.L.flatMap procE++k.h.flatMap Num.enc))))))
def chanE(x:ChV):List UInt8:=Num.enc x.from_++(Num.enc x.to_++(Num.enc (fl x.queue)++(Num.enc x.cap++(Num.enc (IntKind.i64.wrap x.max)++Num.enc x.late))))
def nodeE(z:Nd):List UInt8:=Num.enc z.k++(Num.enc z.p++Num.enc z.n)
def tabE(l:List Nd):List UInt8:=Num.enc l.length++l.flatMap nodeE
def confE(K:CfK):List UInt8:=Num.enc K.P.length++(K.P.flatMap partE++(Num.enc K.C.length++(K.C.flatMap chanE++(Num.enc K.T.length++K.T.flatMap tabE))))
theorem foldl_flat{α:Type}(f:List UInt8→α→List UInt8)(E:α→List UInt8):∀(L:List α),(∀ x∈L,∀ l,f l x=l++E x)→∀ l,L.foldl f l=l++L.flatMap E
 | [],_,l=>by simp
 | x::L,h,l=>by
  rw[List.foldl_cons,h x (by simp),foldl_flat f E L (fun y hy=>h y (by simp[hy])),List.flatMap_cons,List.append_assoc]
theorem partB_E{y:Pq}(h:y.2.length=y.1.pn)(l:List UInt8):partB l y=l++partE (coreK y):=by
 unfold partB;rw[foldl_flat procB procE y.2 (fun q _ l=>by unfold procB procE;rw[List.append_assoc])];unfold healB flagB headB partE coreK;rw[show List.range 5=[0,1,2,3,4] from rfl];simp only[List.foldl_cons,List.foldl_nil,List.flatMap_cons,List.flatMap_nil,List.append_assoc,List.append_nil,h];rfl
theorem chanB_E(x:ChV)(l:List UInt8):chanB l x=l++chanE x:=by
 unfold chanB chanA chanE;simp only[List.append_assoc]
theorem tabB_E{t:NdT}(h:t.l.length=t.n)(l:List UInt8):tabB l t=l++tabE t.l:=by
 unfold tabB;rw[foldl_flat nodeB nodeE t.l (fun z _ l=>by unfold nodeB nodeE;simp only[List.append_assoc])];unfold tabE;rw[List.append_assoc,h]
theorem bytesB_E{x:Cf}(h:LenX x):bytesB x=Crc.seal4 (horaB++confE (coreX x)):=by
 unfold bytesB;rw[foldl_flat partB (fun y=>partE (coreK y)) x.P (fun y hy l=>partB_E (h.pr y hy) l),foldl_flat chanB chanE x.C (fun y _ l=>chanB_E y l),foldl_flat tabB (fun t=>tabE t.l) x.T (fun y hy l=>tabB_E (h.nd y hy) l)];unfold confE coreX;dsimp only;rw[List.length_map,List.length_map,h.p,h.c,h.t,List.flatMap_map,List.flatMap_map];simp only[List.append_assoc]
structure Rdr(σ:Type)where
 str:σ→ByteArray×σ
 num:σ→Int×σ
 int:Int→Int→σ→Int×σ
section
variable {σ α:Type}
def rowG(f:σ→α×σ):Nat→σ→List α×σ
 | 0,s=>([],s)
 | n+1,s=>((rowG f n s).1++[(f (rowG f n s).2).1],(f (rowG f n s).2).2)
theorem rowG_len(f:σ→α×σ):∀ n s,(rowG f n s).1.length=n
 | 0,_=>rfl
 | n+1,s=>by unfold rowG;simp[rowG_len f n s]
theorem rowG_cons(f:σ→α×σ):∀ n s,rowG f (n+1) s=((f s).1::(rowG f n (f s).2).1,(rowG f n (f s).2).2)
 | 0,s=>rfl
 | n+1,s=>by
  have h:=rowG_cons f n s
  rw[rowG,h]
  rfl
theorem rowG_enc(f:σ→α×σ)(emb:List UInt8→σ)(E:α→List UInt8):∀(L:List α),(∀ x∈L,∀ t,f (emb (E x++t))=(x,emb t))→∀ t,rowG f L.length (emb (L.flatMap E++t))=(L,emb t)
 | [],_,t=>rfl
 | x::L,h,t=>by
  rw[List.length_cons,rowG_cons,List.flatMap_cons,List.append_assoc,h x (by simp)]
  dsimp only
  rw[rowG_enc f emb E L (fun y hy=>h y (by simp[hy]))]
def cntG(m:Nat)(z:Int):Nat:=(min z m).toNat
theorem cntG_le(m:Nat)(z:Int):cntG m z≤m:=by unfold cntG;omega
theorem cntG_of{m n:Nat}(h:n≤m):cntG m (n:Int)=n:=by unfold cntG;omega
def procG(R:Rdr σ)(s:σ):(Int×Int)×σ:=(((R.int 0 512 s).1,(R.int 0 255 (R.int 0 512 s).2).1),(R.int 0 255 (R.int 0 512 s).2).2)
def headG(R:Rdr σ)(s:σ):(ByteArray×Int×Int×Bool×Bool)×σ :=
 let a:=R.str s
 let b:=R.num a.2
 let c:=R.num b.2
 let d:=R.int 0 1 c.2
 let e:=R.int 0 1 d.2
 ((a.1,b.1,c.1,decide (d.1=1),decide (e.1=1)),e.2)
def procsG(R:Rdr σ)(s:σ):List (Int×Int)×σ:=rowG (procG R) (cntG 3 (R.int 0 3 s).1) (R.int 0 3 s).2
def partG(R:Rdr σ)(s:σ):PtK×σ :=
 let a:=headG R s
 let b:=procsG R a.2
 let c:=rowG (R.int 0 2) 5 b.2
 (⟨a.1.1,a.1.2.1,a.1.2.2.1,a.1.2.2.2.1,a.1.2.2.2.2,b.1,c.1⟩,c.2)
def chanG(R:Rdr σ)(s:σ):ChV×σ :=
 let a:=R.int 0 6 s
 let b:=R.int 0 6 a.2
 let c:=R.int 0 1 b.2
 let d:=R.int 0 8 c.2
 let e:=R.int 0 4294967295 d.2
 let f:=R.num e.2
 (⟨a.1,b.1,decide (c.1=1),d.1,IntKind.u32.wrap e.1,f.1⟩,f.2)
def nodeG(R:Rdr σ)(s:σ):Nd×σ :=
 let a:=R.int 0 4 s
 let b:=R.int 0 6 a.2
 let c:=R.num b.2
 (⟨a.1,b.1,c.1⟩,c.2)
def tabG(R:Rdr σ)(s:σ):List Nd×σ:=rowG (nodeG R) (cntG 128 (R.int 0 128 s).1) (R.int 0 128 s).2
def partsG(R:Rdr σ)(s:σ):List PtK×σ:=rowG (partG R) (cntG 6 (R.int 0 6 s).1) (R.int 0 6 s).2
def chansG(R:Rdr σ)(s:σ):List ChV×σ:=rowG (chanG R) (cntG 8 (R.int 0 8 s).1) (R.int 0 8 s).2
def tabsG(R:Rdr σ)(s:σ):List (List Nd)×σ:=rowG (tabG R) (cntG 3 (R.int 0 3 s).1) (R.int 0 3 s).2
def confG(R:Rdr σ)(s:σ):CfK×σ :=
 let a:=partsG R s
 let b:=chansG R a.2
 let c:=tabsG R b.2
 (⟨a.1,b.1,c.1⟩,c.2)
structure Rdr.Good(R:Rdr σ)(emb:List UInt8→σ):Prop where
 num:∀ z t,In64 z→R.num (emb (Num.enc z++t))=(z,emb t)
 int:∀ lo hi z t,In64 z→lo≤z→z≤hi→R.int lo hi (emb (Num.enc z++t))=(z,emb t)
 str:∀(s:ByteArray) t,s.size≤12→R.str (emb ((Num.enc s.size++s.data.toList)++t))=(s,emb t)
end
structure PkIn(k:PtK):Prop where
 name:k.name.size≤12
 bud:In64 k.bud
 per:In64 k.per
 few:k.L.length≤3
 pr:∀ q∈k.L,0≤q.1∧q.1≤512∧0≤q.2∧q.2≤255
 len:k.h.length=5
 h:∀ z∈k.h,0≤z∧z≤2
structure CkIn(x:ChV):Prop where
 f:0≤x.from_∧x.from_≤6
 t:0≤x.to_∧x.to_≤6
 c:0≤x.cap∧x.cap≤8
 m:0≤x.max∧x.max≤4294967295
 l:In64 x.late
structure NkIn(z:Nd):Prop where
 k:0≤z.k∧z.k≤4
 p:0≤z.p∧z.p≤6
 n:In64 z.n
structure KIn(K:CfK):Prop where
 p:K.P.length≤6
 c:K.C.length≤8
 t:K.T.length≤3
 pp:∀ k∈K.P,PkIn k
 cc:∀ x∈K.C,CkIn x
 tt:∀ l∈K.T,l.length≤128∧∀ z∈l,NkIn z
theorem in64_of{z lo hi:Int}(h:lo≤z∧z≤hi)(h1:-9223372036854775808≤lo)(h2:hi≤9223372036854775807):In64 z:=by unfold In64;omega
theorem fl_one(b:Bool):decide (fl b=1)=b:=by cases b <;> rfl
theorem fl_bds(b:Bool):0≤fl b∧fl b≤1:=by cases b <;> decide
section
variable {σ:Type} {R:Rdr σ} {emb:List UInt8→σ}
theorem Rdr.Good.b(g:R.Good emb){lo hi z:Int}(t:List UInt8)(h:lo≤z∧z≤hi)(h1:-9223372036854775808≤lo)(h2:hi≤9223372036854775807):R.int lo hi (emb (Num.enc z++t))=(z,emb t):=g.int lo hi z t (in64_of h h1 h2) h.1 h.2
theorem procG_enc(g:R.Good emb){q:Int×Int}(h:0≤q.1∧q.1≤512∧0≤q.2∧q.2≤255)(t:List UInt8):procG R (emb (procE q++t))=(q,emb t):=by
 unfold procG procE;rw[List.append_assoc,g.b _ ⟨h.1,h.2.1⟩ (by omega) (by omega)];dsimp only;rw[g.b _ h.2.2 (by omega) (by omega)]
theorem partG_enc(g:R.Good emb){k:PtK}(h:PkIn k)(t:List UInt8):partG R (emb (partE k++t))=(k,emb t):=by
 have hs:=fl_one k.sched;have ht:=fl_one k.stop;have e1:headG R (emb (partE k++t))=((k.name,k.bud,k.per,k.sched,k.stop),emb (Num.enc k.L.length++(k.L.flatMap procE++(k.h.flatMap Num.enc++t)))):=by
  unfold headG partE;rw[List.append_assoc,g.str _ _ h.name];dsimp only;rw[List.append_assoc,g.num _ _ h.bud];dsimp only;rw[List.append_assoc,g.num _ _ h.per];dsimp only;rw[List.append_assoc,g.b _ (fl_bds k.sched) (by omega) (by omega)];dsimp only;rw[List.append_assoc,g.b _ (fl_bds k.stop) (by omega) (by omega)];dsimp only;rw[hs,ht,List.append_assoc,List.append_assoc]
 have e2:procsG R (emb (Num.enc k.L.length++(k.L.flatMap procE++(k.h.flatMap Num.enc++t))))=(k.L,emb (k.h.flatMap Num.enc++t)):=by
  unfold procsG;rw[g.b _ (lo:=0) (hi:=3) (by have:=h.few;omega) (by omega) (by omega)];dsimp only;rw[cntG_of h.few,rowG_enc _ emb procE k.L (fun q hq t=>procG_enc g (h.pr q hq) t)]
 have e3:rowG (R.int 0 2) 5 (emb (k.h.flatMap Num.enc++t))=(k.h,emb t):=by
  have:=rowG_enc (R.int 0 2) emb Num.enc k.h (fun z hz t=>g.b t (h.h z hz) (by omega) (by omega)) t;rwa [h.len] at this
 unfold partG;rw[e1];dsimp only;rw[e2];dsimp only;rw[e3]
theorem chanG_enc(g:R.Good emb){x:ChV}(h:CkIn x)(t:List UInt8):chanG R (emb (chanE x++t))=(x,emb t):=by
 have e1:IntKind.i64.wrap x.max=x.max:=by have:=h.m;simp only[IntKind.wrap_i64];omega
 have e2:IntKind.u32.wrap x.max=x.max:=by have:=h.m;rw[IntKind.wrap_u32'];omega
 have hq:=fl_one x.queue;unfold chanG chanE;rw[List.append_assoc,g.b _ h.f (by omega) (by omega)];dsimp only;rw[List.append_assoc,g.b _ h.t (by omega) (by omega)];dsimp only;rw[List.append_assoc,g.b _ (fl_bds x.queue) (by omega) (by omega)];dsimp only;rw[List.append_assoc,g.b _ h.c (by omega) (by omega)];dsimp only;rw[List.append_assoc,e1,g.b _ h.m (by omega) (by omega)];dsimp only;rw[g.num _ _ h.l];dsimp only;rw[hq,e2]
theorem nodeG_enc(g:R.Good emb){z:Nd}(h:NkIn z)(t:List UInt8):nodeG R (emb (nodeE z++t))=(z,emb t):=by
 unfold nodeG nodeE;rw[List.append_assoc,g.b _ h.k (by omega) (by omega)];dsimp only;rw[List.append_assoc,g.b _ h.p (by omega) (by omega)];dsimp only;rw[g.num _ _ h.n]
theorem tabG_enc(g:R.Good emb){l:List Nd}(h:l.length≤128∧∀ z∈l,NkIn z)(t:List UInt8):tabG R (emb (tabE l++t))=(l,emb t):=by
 unfold tabG tabE;rw[List.append_assoc,g.b _ (lo:=0) (hi:=128) (by have:=h.1;omega) (by omega) (by omega)];dsimp only;rw[cntG_of h.1,rowG_enc _ emb nodeE l (fun z hz t=>nodeG_enc g (h.2 z hz) t)]
theorem confG_enc(g:R.Good emb){K:CfK}(h:KIn K):confG R (emb (confE K))=(K,emb []):=by
 have e1:partsG R (emb (confE K))=(K.P,emb (Num.enc K.C.length++(K.C.flatMap chanE++(Num.enc K.T.length++K.T.flatMap tabE)))):=by
  unfold partsG confE;rw[g.b _ (lo:=0) (hi:=6) (by have:=h.p;omega) (by omega) (by omega)];dsimp only;rw[cntG_of h.p,rowG_enc _ emb partE K.P (fun k hk t=>partG_enc g (h.pp k hk) t)]
 have e2:chansG R (emb (Num.enc K.C.length++(K.C.flatMap chanE++(Num.enc K.T.length++K.T.flatMap tabE))))=(K.C,emb (Num.enc K.T.length++K.T.flatMap tabE)):=by
  unfold chansG;rw[g.b _ (lo:=0) (hi:=8) (by have:=h.c;omega) (by omega) (by omega)];dsimp only;rw[cntG_of h.c,rowG_enc _ emb chanE K.C (fun x hx t=>chanG_enc g (h.cc x hx) t)]
 have e3:tabsG R (emb (Num.enc K.T.length++K.T.flatMap tabE))=(K.T,emb []):=by
  unfold tabsG;rw[g.b _ (lo:=0) (hi:=3) (by have:=h.t;omega) (by omega) (by omega)];dsimp only;have:=rowG_enc (tabG R) emb tabE K.T (fun l hl t=>tabG_enc g (h.tt l hl) t) [];rw[List.append_nil] at this;rw[cntG_of h.t,this]
 unfold confG;rw[e1];dsimp only;rw[e2];dsimp only;rw[e3]
end
def RP:Rdr (List UInt8):=⟨fun s=>(str (Num.cut 12 s).1,s.drop (Num.cut 12 s).2),fun s=>((Num.dec s).1,s.drop (Num.dec s).2),fun _ _ s=>((Num.dec s).1,s.drop (Num.dec s).2)⟩
def numR(s:List UInt8×Bool):Int×List UInt8×Bool:=if s.2=true∨(Num.dec s.1).2=0 then (0,s.1,true) else ((Num.dec s.1).1,s.1.drop (Num.dec s.1).2,false)
def intR(lo hi:Int)(s:List UInt8×Bool):Int×List UInt8×Bool:=if (numR s).1 < lo∨hi < (numR s).1 then (0,(numR s).2.1,true) else numR s
def strR(s:List UInt8×Bool):ByteArray×List UInt8×Bool:=if s.2=true∨(Num.cut 12 s.1).2=0 then (⟨#[]⟩,s.1,true) else (str (Num.cut 12 s.1).1,s.1.drop (Num.cut 12 s.1).2,false)
def RR:Rdr (List UInt8×Bool):=⟨strR,numR,intR⟩
theorem dec_front{z:Int}(h:In64 z)(t:List UInt8):Num.dec (Num.enc z++t)=(z,(Num.enc z).length):=by rw[Num.enc_dec z h.1 h.2,Num.enc_length]
theorem cut_front{s:ByteArray}(h:s.size≤12)(t:List UInt8):Num.cut 12 ((Num.enc s.size++s.data.toList)++t)=(s.data.toList,(Num.enc s.size).length+s.size):=by
 have hd:=dec_front (z:=(s.size:Int)) (by unfold In64;omega) (s.data.toList++t);have hl:s.data.toList.length=s.size:=by rw[Array.length_toList];rfl
 rw[List.append_assoc];rw[Num.cut_yes (by
  unfold Num.cutok;rw[hd];dsimp only;rw[List.length_append,List.length_append,hl,Num.enc_length];omega),hd]
 dsimp only;rw[List.drop_left' rfl,Int.toNat_natCast,List.take_left' hl]
theorem str_data(s:ByteArray):str s.data.toList=s:=by
 unfold str;rw[Array.toArray_toList]
theorem RP_good:RP.Good id where
 num z t h:=by
  show ((Num.dec (Num.enc z++t)).1,(Num.enc z++t).drop (Num.dec (Num.enc z++t)).2)=(z,t);rw[dec_front h,List.drop_left' rfl]
 int lo hi z t h _ _:=by
  show ((Num.dec (Num.enc z++t)).1,(Num.enc z++t).drop (Num.dec (Num.enc z++t)).2)=(z,t);rw[dec_front h,List.drop_left' rfl]
 str s t h:=by
  show (str (Num.cut 12 ((Num.enc s.size++s.data.toList)++t)).1,((Num.enc s.size++s.data.toList)++t).drop (Num.cut 12 ((Num.enc s.size++s.data.toList)++t)).2)=(s,t);have hl:s.data.toList.length=s.size:=by rw[Array.length_toList];rfl
  rw[cut_front h,str_data,List.drop_left' (by rw[List.length_append,hl])]
theorem RR_good:RR.Good (fun s=>(s,false)):=by
 have hn:∀ z t,In64 z→numR (Num.enc z++t,false)=(z,t,false):=fun z t h=>by
  unfold numR;dsimp only;rw[dec_front h,if_neg (by rw[Num.enc_length];simp),List.drop_left' rfl]
 refine⟨hn,fun lo hi z t h h1 h2=>?_,fun s t h=>?_⟩
 ·show intR lo hi (Num.enc z++t,false)=_;unfold intR;rw[hn z t h,if_neg (by dsimp only;omega)]
 show strR ((Num.enc s.size++s.data.toList)++t,false)=_;have hl:s.data.toList.length=s.size:=by rw[Array.length_toList];rfl
 unfold strR;dsimp only;rw[cut_front h,if_neg (by rw[Num.enc_length];simp),str_data,List.drop_left' (by rw[List.length_append,hl])]
theorem LenX.of{w:World}{x:Cf}(h:CfR w x):LenX x:=⟨h.pp.len,h.ch.len,h.tb.len,h.lens,fun y hy=>(h.tt y hy).rd.len⟩
def NbX(x:Cf):Prop:=∀ y∈x.T,∀ z∈y.l,NdIn z
theorem NbX.of{w:World}{x:Cf}(h:CfR w x):NbX x:=fun y hy=>(h.tt y hy).rd.bd
structure Img(b:List UInt8)(x:Cf):Prop where
 ri:RiX x
 len:LenX x
 mx:MaxX x
 nb:NbX x
 is:bytesB x=b
theorem core_sam{x y:Cf}(h:coreX y=coreX x):SamX y x:=by
 have h1:y.P.map coreK=x.P.map coreK:=congrArg CfK.P h;have h2:y.C=x.C:=congrArg CfK.C h;have h3:y.T.map NdT.l=x.T.map NdT.l:=congrArg CfK.T h;refine⟨⟨by simpa using congrArg List.length h1,fun i a b ha hb=>?_,h2⟩,by simpa using congrArg List.length h3,fun i a b ha hb=>?_⟩
 ·have e:=congrArg (fun l=>l[i]?) h1;simp only[List.getElem?_map,ha,hb,Option.map_some] at e;have e:coreK a=coreK b:=Option.some.inj e;have e6:[a.1.h0,a.1.h1,a.1.h2,a.1.h3,a.1.h4]=[b.1.h0,b.1.h1,b.1.h2,b.1.h3,b.1.h4]:=congrArg PtK.h e;simp only[List.cons.injEq,and_true] at e6;exact⟨congrArg PtK.name e,congrArg PtK.bud e,congrArg PtK.per e,congrArg PtK.sched e,congrArg PtK.stop e,e6,congrArg PtK.L e⟩
 have e:=congrArg (fun l=>l[i]?) h3;simp only[List.getElem?_map,ha,hb,Option.map_some] at e;rw[Option.some.inj e];exact sameN_refl _
theorem sam_core{x y:Cf}(h:SamX y x):coreX y=coreX x:=by
 obtain⟨⟨h1,h2,h3⟩,h4,h5⟩:=h;have e1:y.P.map coreK=x.P.map coreK:=by
  apply List.ext_getElem?;intro i;rw[List.getElem?_map,List.getElem?_map];rcases Nat.lt_or_ge i y.P.length with hi | hi
  ·have a1:=List.getElem?_eq_getElem hi;have a2:=List.getElem?_eq_getElem (l:=x.P) (i:=i) (by omega);obtain⟨g1,g2,g3,g4,g5,⟨g6,g7,g8,g9,g10⟩,g11⟩:=h2 i _ _ a1 a2;rw[a1,a2,Option.map_some,Option.map_some];unfold coreK;rw[g1,g2,g3,g4,g5,g6,g7,g8,g9,g10,g11]
  rw[List.getElem?_eq_none hi,List.getElem?_eq_none (by omega)]
 have e3:y.T.map NdT.l=x.T.map NdT.l:=by
  apply List.ext_getElem?;intro i;rw[List.getElem?_map,List.getElem?_map];rcases Nat.lt_or_ge i y.T.length with hi | hi
  ·have a1:=List.getElem?_eq_getElem hi;have a2:=List.getElem?_eq_getElem (l:=x.T) (i:=i) (by omega);rw[a1,a2,Option.map_some,Option.map_some,sameN_eq (h5 i _ _ a1 a2)]
  rw[List.getElem?_eq_none hi,List.getElem?_eq_none (by omega)]
 unfold coreX;rw[e1,e3,h3]
theorem core_right{x y:Cf}(h:coreX y=coreX x)(hx:LenX x)(hy:LenX y)(hr:RiX x):RiX y:=RiX.of (by rw[whF_same (core_sam h) hy.pr hx.pr,hr.ok])
theorem core_bytes{x y:Cf}(h:coreX y=coreX x)(hx:LenX x)(hy:LenX y):bytesB y=bytesB x:=by rw[bytesB_E hx,bytesB_E hy,h]
theorem fine_nk{z:Nd}(h:fine z=true)(hb:NdIn z):NkIn z:=by
 unfold fine at h;simp only[Bool.and_eq_true,decide_eq_true_eq] at h;obtain⟨_,h2⟩:=h;refine⟨?_,?_,hb.2.2⟩ <;> (repeat' (split at h2)) <;> (try simp only[decide_eq_true_eq] at h2) <;> first | omega | cases h2
theorem flat_fine:∀(f:F),f.ok→∀ y∈f.flat,fine y=true
 | .nil,_,y,hy=>by simp[F.flat] at hy
 | .cons x k r,h,y,hy=>by
  obtain⟨h1,_,h3,h4⟩:=h
  simp only[F.flat,List.mem_cons,List.mem_append] at hy
  rcases hy with rfl | hy | hy
  ·exact h1
  ·exact flat_fine k h3 y hy
  ·exact flat_fine r h4 y hy
theorem tbW_fine{P:List Pq}{C:List ChV}{l:List Nd}(h:tbW P C l=0):l.length≤128∧∀ z∈l,fine z=true:=by
 have h0:(ofF l).1=0:=by
  unfold tbW at h;split at h
  ·assumption
  exact h
 refine⟨?_,?_⟩
 ·rcases Nat.lt_or_ge 128 l.length with h1 | h1
  ·rw[ofF_big h1] at h0;cases h0
  exact h1
 by_cases hw:wholeB l=true
 ·obtain⟨x,k,hok,hl,_⟩:=ofF_whole hw;intro z hz;refine flat_fine (.cons x k .nil) hok z ?_;rw[hl] at hz;simpa [F.flat] using hz
 rw[ofF_none hw] at h0;dsimp only at h0;unfold rn at h0;split at h0 <;> omega
theorem Img.kin{b:List UInt8}{x:Cf}(h:Img b x):KIn (coreX x):=by
 obtain⟨z0,z1,z2,z3,z4⟩:=h.ri.sz;refine⟨by show (x.P.map coreK).length≤6;rw[List.length_map];exact z1,z2,by show (x.T.map NdT.l).length≤3;rw[List.length_map];exact z4,fun k hk=>?_,fun y hy=>?_,fun l hl=>?_⟩
 ·obtain⟨y,hy,rfl⟩:=List.mem_map.1 (show k∈x.P.map coreK from hk);obtain⟨i,hi⟩:=List.getElem?_of_mem hy;obtain⟨h1,_,h3⟩:=ptE_rightB hi (h.ri.pt i (List.getElem?_eq_some_iff.1 hi).1);unfold nameF at h1;simp only[Bool.and_eq_true,decide_eq_true_eq] at h1;unfold partF at h3;simp only[Bool.and_eq_true,decide_eq_true_eq,List.all_eq_true,List.mem_range] at h3;obtain⟨⟨h4,h5⟩,h6,h7,h8⟩:=h3;unfold pbF at h8;simp only[Bool.or_eq_true,Bool.and_eq_true,decide_eq_true_eq] at h8;refine⟨h1.2.2,by show In64 y.1.bud;unfold In64;omega,by show In64 y.1.per;unfold In64;omega,by show y.2.length≤3;rw[h.len.pr y hy];exact h5,fun q hq=>?_,rfl,fun z hz=>?_⟩
  ·have:=h6 q hq;unfold prcF at this;simp only[Bool.and_eq_true,decide_eq_true_eq] at this;omega
  have hh:∀ j,j < 5→0≤hv5 y.1 j∧hv5 y.1 j≤2:=fun j hj=>by
   have:=h7 j hj;unfold hlF at this;simpa only[Bool.and_eq_true,decide_eq_true_eq] using this
  have hz:z∈[y.1.h0,y.1.h1,y.1.h2,y.1.h3,y.1.h4]:=hz;simp only[List.mem_cons,List.not_mem_nil,or_false] at hz;rcases hz with rfl | rfl | rfl | rfl | rfl
  ·exact hh 0 (by omega)
  ·exact hh 1 (by omega)
  ·exact hh 2 (by omega)
  ·exact hh 3 (by omega)
  exact hh 4 (by omega)
 ·have hy:y∈x.C:=hy;obtain⟨i,hi⟩:=List.getElem?_of_mem hy;have h0:=h.ri.ch i (List.getElem?_eq_some_iff.1 hi).1;rw[chE_at hi] at h0;split at h0
  ·rename_i h1;unfold chanF at h1;simp only[Bool.and_eq_true,Bool.or_eq_true,Bool.not_eq_true',decide_eq_true_eq] at h1;obtain⟨⟨a1,a2,a3,a4,a5,a6,a7⟩,b⟩:=h1;exact⟨by omega,by omega,by omega,h.mx y hy,by unfold In64;omega⟩
  cases h0
 obtain⟨t,ht,rfl⟩:=List.mem_map.1 (show l∈x.T.map NdT.l from hl);have h1:=tbW_fine (h.ri.tb t ht);exact⟨h1.1,fun z hz=>fine_nk (h1.2 z hz) (h.nb t ht z hz)⟩
theorem Img.ook{b:List UInt8}{x:Cf}(h:Img b x):Crc.ook b=true:=by rw[← h.is,bytesB_E h.len];exact Crc.ook_seal _
theorem Img.oval{b:List UInt8}{x:Cf}(h:Img b x):Crc.oval b=horaB++confE (coreX x):=by rw[← h.is,bytesB_E h.len];exact Crc.oval_seal _
theorem Img.sam{b:List UInt8}{x y:Cf}(h:Img b x)(k:Img b y):SamX x y:=by
 have e:confE (coreX x)=confE (coreX y):=List.append_cancel_left (h.oval.symm.trans k.oval);have h1:=confG_enc RP_good h.kin
 rw[e,confG_enc RP_good k.kin] at h1;exact core_sam (congrArg Prod.fst h1).symm
structure RdOk(b:List UInt8)(y:Cf)(z:Int):Prop where
 no:Crc.ook b=false→z=13∧y=⟨none,none,none,0,0,0,0,0,0,[],[],[]⟩
 bad:Crc.ook b=true→(∀ x,¬ Img b x)→z=12∧y=⟨none,none,none,0,0,0,0,0,0,[],[],[]⟩
 yes:∀ x,Img b x→z=0∧SamX y x
theorem RdOk.same{b:List UInt8}{y y':Cf}{z z':Int}(h:RdOk b y z)(k:RdOk b y' z'):z=z'∧SamX y y':=by
 by_cases ho:Crc.ook b=true
 ·by_cases hx:∃ x,Img b x
  ·obtain⟨x,hx⟩:=hx;obtain⟨e1,s1⟩:=h.yes x hx;obtain⟨e2,s2⟩:=k.yes x hx;exact⟨by rw[e1,e2],core_sam ((sam_core s1).trans (sam_core s2).symm)⟩
  obtain⟨e1,s1⟩:=h.bad ho fun x hi=>hx ⟨x,hi⟩;obtain⟨e2,s2⟩:=k.bad ho fun x hi=>hx ⟨x,hi⟩;rw[e1,e2,s1,s2];exact⟨rfl,SamX.refl _⟩
 have ho:Crc.ook b=false:=by simpa using ho
 obtain⟨e1,s1⟩:=h.no ho;obtain⟨e2,s2⟩:=k.no ho;rw[e1,e2,s1,s2];exact⟨rfl,SamX.refl _⟩
def cfN:Cf:=⟨none,none,none,0,0,0,0,0,0,[],[],[]⟩
theorem cfN_rd(w:World):CfR w cfN:=⟨⟨rfl,RdV.nil⟩,⟨rfl,RdV.nil⟩,⟨rfl,RdV.nil⟩,fun y hy=>(by cases hy),fun y hy=>(by cases hy),Nat.le_refl _,Nat.le_refl _,Nat.le_refl _,Nat.zero_le _,Nat.zero_le _,Nat.zero_le _,⟨by decide,by decide,by decide,fun y hy=>(by cases hy),fun y hy=>(by cases hy)⟩⟩
theorem RdOk.sum{b:List UInt8}(h:Crc.ook b=false):RdOk b cfN 13:=⟨fun _=>⟨rfl,rfl⟩,fun h1=>(by rw[h] at h1;cases h1),fun x hx=>(by have:=hx.ook;rw[h] at this;cases this)⟩
theorem RdOk.form{b:List UInt8}(ho:Crc.ook b=true)(h:∀ x,¬ Img b x):RdOk b cfN 12:=⟨fun h1=>(by rw[ho] at h1;cases h1),fun _ _=>⟨rfl,rfl⟩,fun x hx=>absurd hx (h x)⟩
theorem RdOk.is{b:List UInt8}{y:Cf}(h:Img b y):RdOk b y 0:=⟨fun h1=>(by rw[h.ook] at h1;cases h1),fun _ h1=>absurd h (h1 y),fun x hx=>⟨rfl,h.sam hx⟩⟩
theorem Img.read{b s:List UInt8}{x:Cf}(h:Img b x)(hs:Crc.oval b=horaB++s){σ:Type}{R:Rdr σ}{emb:List UInt8→σ}(g:R.Good emb):confG R (emb s)=(coreX x,emb []):=by
 rw[h.oval] at hs;rw[← List.append_cancel_left hs];exact confG_enc g h.kin
theorem Img.front{b:List UInt8}{x:Cf}(h:Img b x):(Crc.oval b).take 4=horaB:=by rw[h.oval];rfl
theorem img_end{b s:List UInt8}{y:Cf}(ho:Crc.ook b=true)(hs:Crc.oval b=horaB++s){σ:Type}{R:Rdr σ}{emb:List UInt8→σ}(g:R.Good emb)(hy:(confG R (emb s)).1=coreX y)(hl:LenX y)(hm:MaxX y)(hn:NbX y):
  ((whF y).1=0→bytesB y=b→RdOk b y 0)∧((whF y).1≠0∨bytesB y≠b∨(confG R (emb s)).2≠emb []→RdOk b cfN 12):=by
 refine⟨fun h1 h2=>RdOk.is ⟨RiX.of h1,hl,hm,hn,h2⟩,fun h1=>RdOk.form ho fun x hx=>?_⟩;have e:=hx.read hs g;have hc:coreX y=coreX x:=by rw[← hy,e]
 rcases h1 with h1 | h1 | h1
 ·exact h1 (by rw[(core_right hc hx.len hl hx.ri).ok])
 ·exact h1 ((core_bytes hc hx.len hl).trans hx.is)
 exact h1 (by rw[e])
end Go.Proofs.YtdkngfdnfekgfaaGreat
