import Derived.Test.YtfmndmhjjbeokaaGreatDoorLow22
import Derived.Deep.Cut
set_option maxHeartbeats 400000
set_option maxRecDepth 100000
set_option linter.unusedSimpArgs false
set_option linter.unusedVariables false
namespace Go.Proofs.YtfmndmhjjbeokaaGreatDoor
open Go.RowKit Tab Txt
theorem Hh:∀(f:F),f.ok->∀ y∈f.flat,fine y=true
 | .nil,_,y,hy=>by simp[F.flat] at hy
 | .cons x k r,h,y,hy=>by
  obtain⟨h1,_,h3,h4⟩:=h
  simp only[F.flat,Ba,Ay] at hy
  rcases hy with rfl | hy | hy
  ·exact h1
  ·exact Hh k h3 y hy
  ·exact Hh r h4 y hy
def num6:List (List UInt8):=(List.range 6).map numB
theorem Sr{i:Nat}(h:i < 6):num6[i]? = some (numB i):=by
 unfold num6;rw[Bm,List.getElem?_range h];rfl
theorem Lf:∀ s∈num6,s.length<=64:=fun s hs=>by
 obtain⟨i,hi,rfl⟩:=By.1 hs
 have h1:=Cx.1 hi
 rw[numB_low (by omega)]
 show 1<=64
 omega
theorem Q3(w:World):Calls Tryz.prog 38 #[] w (SpA num6 w):=by
 go_in;go_wp2;go_loopw [1,2] (fun o q wr=>∃(i c:Nat) (A:Option Addr),i<=6/\q=.int .i64 i/\o=.slice A i c/\OwnV 9 1 wr w.heap.size A i c (((List.range i).map numB).flatMap sc)/\Below w.heap.size w wr) (fun _ q _=>6 - (intOf q).toNat)
 case atStart=>exact⟨0,0,none,by omega,rfl,rfl,OwnV.nil _ _ _ _,Aj _ _⟩
 obtain⟨i,c,A,hi,rfl,rfl,ho,hb⟩:=hrel;have HO:=hid ho;have HB:=hid hb;clear ho hb;by_cases aM:i < 6
 ·have aD:(i:Int) < 6:=by omega
  have HN:=hid (Gp i (by omega) wr);have aA:=bl1 wr (.cells #[.string (bsOf (numB i))] 9);have aC:=HO.o.below rfl aA;have aG:=rdV_new wr #[.string (bsOf (numB i))] 9 ([numB i].flatMap sc) rfl;have aB:w.heap.size<=(wr.alloc (.cells #[.string (bsOf (numB i))] 9)).heap.size:=Ai HB.o.size aA.size;have aK:=hid (HB.o.trans (aA.mono HB.o.size));have hM:(List.range (i+1)).map numB=(List.range i).map numB++[numB i]:=by rw[List.range_succ,De];rfl
  have HM:=hid hM;clear aA hM;go_wp2_with fail;refine HN.o.mono ?_;rintro e w5⟨rfl,rfl⟩;go_wp2_with (at_builtin;go_loud (refine Ea elS rfl (.tmp 7) (.tmp 10) rfl rfl w.heap.size A i c _ rfl aC _ 1 1 _ _ rfl aG rfl Cv (Qz _) (by omega) (by unfold maxLen;omega) aB (i+1) rfl (((List.range (i+1)).map numB).flatMap sc) (by rw[HM.o,Bu]) ?_;intro A5 c5 w5 aF aI aN));have aJ:=hid aF;have aL:=hid (aK.o.trans aI);go_roundw
  case rel=>exact⟨i+1,c5,A5,by omega,by go_num,rfl,aJ.o,aL.o⟩
  simp[intOf];omega
 have aD:¬ (i:Int) < 6:=by omega
 have aH:i=6:=by omega
 go_wp2;go_ret;have aE:=HO.o;rw[aH] at aE;exact⟨A,6,c,rfl,rfl,aE,HB.o⟩
def Gq(x:Nd)(k:F):List UInt8:=txN (nmP num6) x (txX (nmP num6) k false)
theorem Se(A:Option Addr)(n cap:Nat)(z:Int)(hz:¬ z=0)(w:World)(h:Calls Tryz.prog 18 #[.slice A n cap] w (Ans (.int .i64 z) w)):
  Calls Tryz.prog 14 #[.slice A n cap] w (Ans (.string (bsOf [])) w):=by
 have H:=hid h;have q1:(z != 0)=true:=Bz.2 hz;clear h;go_in;go_wp2_with fail;refine H.o.mono ?_;rintro e w1⟨rfl,hb⟩;go_wp2;go_ret;exact Ans.mk rfl hb
theorem k8(A:Option Addr)(n cap:Nat)(l:List Nd)(w:World)(h:RdN w w.heap.size A n l)(hc:n<=cap)(hn:n<=1048576)(hw:Eg l=false):
  Calls Tryz.prog 14 #[.slice A n cap] w (Ans (.string (bsOf [])) w) :=
 Se A n cap _ (by unfold rn;split <;> omega) w (Mp A n cap l w h hc hn hw)
theorem Uu(A:Option Addr)(n cap:Nat)(x:Nd)(k:F)(w:World)(h:RdN w w.heap.size A n (x::k.flat))(hc:n<=cap)(hn:n<=1048576)(aA:(F.cons x k .nil).ok)(hr:Calls Tryz.prog 18 #[.slice A n cap] w (Ans (.int .i64 0) w)):
  Calls Tryz.prog 14 #[.slice A n cap] w (Ans (.string (bsOf (Gq x k))) w):=by
 have H:=hid hr;have HH:=hid h;have aH:=hid aA;have aG:Hd (∀ y∈x::k.flat,y.k=1->y.p < ((6:Nat):Int)):=hid fun y hy hk=>by
  have h1:=Hh (F.cons x k .nil) aA y (by rw[show (F.cons x k .nil).flat=x::(k.flat++[]) from rfl,Az];exact hy);unfold fine at h1;rw[if_pos hk] at h1;simp only[Au,Av] at h1;omega
 clear h hr aA;go_in;go_wp2_with fail;refine H.o.mono ?_;rintro e w1⟨rfl,aB⟩;go_wp2_with fail;refine(Q3 w1).mono ?_;rintro e w2⟨AN,nn,cn,rfl,hl,ho,aE⟩;have aD:nn=6:=by rw[<- hl];rfl
 have aC:=aB.trans (aE.mono aB.size);have HC:=hid (R7 A n cap (x::k.flat) hc hn AN nn cn num6 Lf (k.sz+1) 0 x k .nil [] w2 (Ca _) (HH.o.on aC) aH.o (by show x::k.flat=(x::(k.flat++[]))++[];simp) ⟨hl,ho.rd⟩ (by rw[aD];exact aG.o));have HB:=hid aC;clear hl ho aB aE aD aC;go_wp2_with fail;refine HC.o.mono ?_;rintro e w3⟨rfl,aF⟩;go_wp2;go_ret;exact Ans.mk rfl (HB.o.trans (aF.mono HB.o.size))
theorem Up(x:PtV)(w:World):Calls Tryz.prog 28 #[pv x] w (Ans (.string (bsOf (flagT x.sched x.stop))) w):=by
 obtain⟨nm,bu,pe,sc,st,pa,pn,pc,h0,h1,h2,h3,h4⟩:=x;have hb:=bl1 w (.cells #[.string nm,.int .i64 bu,.int .i64 pe,.bool sc,.bool st,.slice pa pn pc,.int .i64 h0,.int .i64 h1,.int .i64 h2,.int .i64 h3,.int .i64 h4] 60);have n3:(w.alloc (.cells #[.string nm,.int .i64 bu,.int .i64 pe,.bool sc,.bool st,.slice pa pn pc,.int .i64 h0,.int .i64 h1,.int .i64 h2,.int .i64 h3,.int .i64 h4] 60)).cell? ⟨w.heap.size,3,none⟩=some (.bool sc):=Ab _ _ _ _ _;have n4:(w.alloc (.cells #[.string nm,.int .i64 bu,.int .i64 pe,.bool sc,.bool st,.slice pa pn pc,.int .i64 h0,.int .i64 h1,.int .i64 h2,.int .i64 h3,.int .i64 h4] 60)).cell? ⟨w.heap.size,4,none⟩=some (.bool st):=Ab _ _ _ _ _;have aB:∀ W,(Op.stringOp .add ⟨#[]⟩ ⟨#[116]⟩).run Tryz.prog W=.ok (.string ⟨#[116]⟩) W:=sadd [] [116] (by show 0+1<=_;omega);have aA:∀ W,(Op.stringOp .add ⟨#[115]⟩ ⟨#[116]⟩).run Tryz.prog W=.ok (.string ⟨#[115,116]⟩) W:=sadd [115] [116] (by show 1+1<=_;omega);have HB:=hid hb;dsimp only;clear hb;go_in;go_upto_region 1 with fail;generalize w.alloc (.cells #[.string nm,.int .i64 bu,.int .i64 pe,.bool sc,.bool st,.slice pa pn pc,.int .i64 h0,.int .i64 h1,.int .i64 h2,.int .i64 h3,.int .i64 h4] 60)=W at n3 n4 HB |-;generalize w.heap.size=gx at n3 n4 |-;cases sc <;> cases st
 all_goals
  go_wp2;go_ret;exact Ans.mk rfl HB.o
end Go.Proofs.YtfmndmhjjbeokaaGreatDoor
namespace Go.Proofs.YtfmndmhjjbeokaaGreatDoor
open Go.RowKit Tab
theorem Y8{α:Type}{f:α->List Value}{s:Nat}(hf:∀ x,(f x).length=s)(l:List α)(k:Nat):(l.take k).flatMap f=(l.flatMap f).take (k*s):=by
 induction l generalizing k with
 | nil=>simp
 | cons x l ih =>
  cases k with
  | zero=>simp
  | succ k =>
   rw[List.take_succ_cons,Cu,Cu,ih,List.take_append,hf,Db,Bd (l:=f x) (by rw[hf];omega)];congr 2;omega
theorem RdV.take{w:World}{B:Nat}{A:Option Addr}{l:List Value}(h:RdV w B A l)(k:Nat):RdV w B A (l.take k):=fun hl=>by
 obtain⟨ad,e,hb,hc⟩:=h (by rw[Cl] at hl;omega)
 refine⟨ad,e,hb,fun j v hj=>hc j v ?_⟩
 rw[List.getElem?_take] at hj
 split at hj
 ·exact hj
 ·cases hj
theorem RdB.take{α:Type}{f:α->List Value}{s:Nat}{w:World}{B n k:Nat}{A:Option Addr}{l:List α}(h:RdB f w B A n l)(hf:∀ x,(f x).length=s)(hk:k<=n):RdB f w B A k (l.take k) :=
 ⟨by rw[Cl,h.len];omega,by rw[Y8 hf];exact h.rd.take _⟩
def Qaz(x:Cf):Cf:=⟨x.A1,x.A2,x.A3,min x.n1 8,min x.n2 12,min x.n3 5,x.c1,x.c2,x.c3,x.P.take (min x.n1 8),x.C.take (min x.n2 12),x.T.take (min x.n3 5)⟩
theorem CfR.few{w:World}{x:Cf}(h:CfR w x):CfR w (Qaz x):=by
 have k1:=h.k1;have k2:=h.k2;have k3:=h.k3;have m1:=h.m1;have m2:=h.m2;have m3:=h.m3;have z:=h.z;exact⟨h.pp.take Fv (Nat.min_le_left _ _),h.ch.take Gk (Nat.min_le_left _ _),h.tb.take Hm (Nat.min_le_left _ _),fun y hy=>h.pt y (List.mem_of_mem_take hy),fun y hy=>h.tt y (List.mem_of_mem_take hy),by show min x.n1 8<=x.c1;omega,by show min x.n2 12<=x.c2;omega,by show min x.n3 5<=x.c3;omega,by show min x.n1 8<=_;omega,by show min x.n2 12<=_;omega,by show min x.n3 5<=_;omega,by have:=z.1;show min x.n1 8*104<=_;omega,by have:=z.2.1;show min x.n2 12*48<=_;omega,by have:=z.2.2.1;show min x.n3 5*24<=_;omega,fun y hy=>z.2.2.2.1 y (List.mem_of_mem_take hy),fun y hy=>z.2.2.2.2 y (List.mem_of_mem_take hy)⟩
structure SmX(m:Nat)(x:Cf):Prop where
 p1:1<=x.n1
 p2:x.n1<=m
 c:x.n2<=m
 t:x.n3<=m
 pr:∀ y∈x.P,y.1.pn<=m
 nd:∀ y∈x.T,y.n<=1024+m
def OdA(m:Nat)(w:World)(e:Ending)(w':World):Prop:=∃ y,e=.returned (cfv y)/\CfR w' y/\SmX m y/\Below w.heap.size w w'
theorem Ef.and(a:Int)(m:Nat)(hm:m < 9223372036854775808):Ef (bits .and .i64 a (m:Int)):=by
 obtain⟨M,hM,aA⟩:=eu a m hm;rw[hM];unfold Ef;omega
structure Qbq:Prop where
 cfg:∀(A:Option Addr) (n cap:Nat) (f:Nat->Int) (w:World),RdC w w.heap.size A n (fun j=>.int .i64 (f j))->n<=140737488351232->
  Calls Tryz.prog 8 #[.pointer (some ⟨w.heap.size,0,none⟩)] (w.alloc (.cells #[.slice A n cap,.int .i64 0] 26)) (fun e w'=>∃ y,e=.returned (cfv y)/\CfR w' y/\SmX 16 y/\Below w.heap.size w w')
end Go.Proofs.YtfmndmhjjbeokaaGreatDoor
namespace Go.Proofs.YtfmndmhjjbeokaaGreatDoor
open Go.RowKit Tab Txt
def Ep:Bool->List (Int×Int)->List UInt8
 | _,[]=>[]
 | b,q::l=>(if b=true then 32 else 44)::(procT q++Ep false l)
theorem Ms(q:Int×Int):∀(l:List (Int×Int)) (b:Bool),Ep b (l++[q])=Ep b l++((if b=true/\l=[] then 32 else 44)::procT q)
 | [],b=>by cases b <;> simp[Ep]
 | x::l,b=>by
  rw[Bo]
  show (if b=true then (32:UInt8) else 44)::(procT x++Ep false (l++[q]))=_
  rw[Ms q l false]
  have e:(if b=true/\x::l=[] then (32:UInt8) else 44)=44:=if_neg (fun h=>by cases h.2)
  have e2:(if false=true/\l=[] then (32:UInt8) else 44)=44:=if_neg (fun h=>by cases h.1)
  rw[e,e2]
  show _=((if b=true then (32:UInt8) else 44)::(procT x++Ep false l))++_
  simp
theorem Jd:∀(q:Int×Int) (l:List (Int×Int)),Ep true (q::l)=32::joinB 44 ((q::l).map procT)/\Ep false (q::l)=44::joinB 44 ((q::l).map procT)
 | q,[]=>by simp[Ep,joinB]
 | q,y::l=>by
  have h:=(Jd y l).2
  constructor
  ·show 32::(procT q++Ep false (y::l))=32::(procT q++44::joinB 44 ((y::l).map procT))
   rw[h]
  ·show 44::(procT q++Ep false (y::l))=44::(procT q++44::joinB 44 ((y::l).map procT))
   rw[h]
def Gs(x:PtV)(k:Nat):List UInt8:=(List.range k).flatMap fun j=>numB (hv5 x j).toNat
theorem It(x:PtV)(k:Nat):Gs x (k+1)=Gs x k++numB (hv5 x k).toNat:=by
 unfold Gs;rw[List.range_succ,Bu];simp
theorem Qf(x:PtV):Gs x 5=healT x:=by
 show (numB x.h0.toNat++(numB x.h1.toNat++(numB x.h2.toNat++(numB x.h3.toNat++(numB x.h4.toNat++[])))))=_;rw[Az];rfl
def I0(y:Pq):List UInt8:=joinB 32 (partW y)++[10]
theorem Sk(y:Pq)(h:y.2≠[]):I0 y=(((((((((wPart++[32])++toL y.1.name)++[32])++numB y.1.bud.toNat)++[32])++numB y.1.per.toNat)++[32])++flagT y.1.sched y.1.stop)++[32])++Gs y.1 5++Ep true y.2++[10]:=by
 cases hy:y.2 with
 | nil=>exact absurd hy h
 | cons q l =>
  rw[(Jd q l).1,Qf];unfold I0 partW;rw[hy];simp[joinB]
def I5(names:List (List UInt8))(x:ChV):List UInt8:=joinB 32 (chanW names x)++[10]
theorem Om(names:List (List UInt8))(x:ChV):I5 names x=((((((((((wChan++[32])++nmP names x.from_)++[32])++nmP names x.to_)++[32])++(if x.queue then 113::numB x.cap.toNat else [115]))++[32])++numB x.max.toNat)++[32])++numB x.late.toNat)++[10]:=by
 unfold I5 chanW;simp[joinB]
structure Ie(y:Pq):Prop where
 name:nameF y.1.name=true
 bud:0<=y.1.bud/\y.1.bud<=4096
 per:0<=y.1.per/\y.1.per<=4096
 few:1<=y.1.pn/\y.1.pn<=3
 pr:∀ q∈y.2,Fm q=true
 hl:∀ j,0<=hv5 y.1 j/\hv5 y.1 j<=2
theorem Ie.of{P:List Pq}{k:Nat}{y:Pq}(hy:P[k]? = some y)(h:ptE P k=0):Ie y:=by
 have hk:ptW P k y=0:=by unfold ptE at h;rw[hy] at h;exact h
 unfold ptW at hk;split at hk
 ·cases hk
 rename_i hn;split at hk
 ·rename_i hp;simp only[Dh,Bool.not_eq_true',not_or] at hn;unfold Fg at hp;simp only[Au,Av,Ct,Cx] at hp;obtain⟨h1,h2,h3,h4⟩:=hp;unfold pbF at h4;simp only[Dh,Au,Av] at h4;have hh:∀ j,j < 5->0<=hv5 y.1 j/\hv5 y.1 j<=2:=fun j hj=>by
   have:=h3 j hj;unfold hlF at this;simpa only[Au,Av] using this
  refine⟨by simpa using hn.1,by omega,by omega,h1,h2,fun j=>?_⟩;rcases Bk j 5 with h | h
  ·exact hh j h
  have e:hv5 y.1 j=hv5 y.1 4:=by
   unfold hv5;rw[if_neg (by omega),if_neg (by omega),if_neg (by omega),if_neg (by omega)];rfl
  rw[e];exact hh 4 (by omega)
 cases hk
theorem Lh{s:ByteArray}(h:nameF s=true):(toL s).length<=12:=by
 unfold nameF at h;simp only[Au,Av] at h;have:(toL s).length=s.size:=by unfold toL;rw[C8];rfl
 omega
theorem num_few{n:Nat}(h:n < 100000):(numB n).length<=5:=num_len_le 4 n h
theorem Qi(a b:Bool):(flagT a b).length<=2:=by cases a <;> cases b <;> decide
