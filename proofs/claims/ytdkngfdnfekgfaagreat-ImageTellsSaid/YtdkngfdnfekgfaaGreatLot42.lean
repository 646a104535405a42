import Derived.Test.YtdkngfdnfekgfaaGreatLot41
set_option maxHeartbeats 2000000
set_option maxRecDepth 100000
set_option linter.unusedSimpArgs false
set_option linter.unusedVariables false
namespace Go.Proofs.YtdkngfdnfekgfaaGreat
open Go.RowKit
theorem get_any(A:Option Addr)(n cap:Nat)(l:List UInt8)(w:World)(h:Rd w w.heap.size A n l)(hn:n≤140737488355328)(hcap:n≤cap):
  Calls Tryz.prog 85 #[.slice A n cap] w (Got l w):=by
 cases l with
 | cons x r =>
  obtain⟨ad,_,rfl,_⟩:=h.at_ (k:=0) (by have:=h.1;simp at this;omega);exact get_cons ad n cap x r w h hn hcap
 | nil =>
  obtain rfl:n=0:=h.1.symm;go_enter Tryz.func85,Tryz.ntmps85;go_wp2;go_ret2;exact got_no _ _ _ rfl (Below.refl _ _)
theorem rget_any(A:Option Addr)(n cap:Nat)(l:List UInt8)(w:World)(h:Rd w w.heap.size A n l)(hn:n≤140737488355328)(hcap:n≤cap):
  Calls Tryz.prog 75 #[.slice A n cap] w (Got l w):=by
 cases l with
 | cons x r =>
  obtain⟨ad,_,rfl,_⟩:=h.at_ (k:=0) (by have:=h.1;simp at this;omega);exact rget_cons ad n cap x r w h hn hcap
 | nil =>
  obtain rfl:n=0:=h.1.symm;go_enter Tryz.func75,Tryz.ntmps75;go_wp2;go_ret2;exact got_no _ _ _ rfl (Below.refl _ _)
def CutGot(most:Int)(l:List UInt8)(w:World)(e:Ending)(w':World):Prop :=
 e=.returned (.tuple #[.string (str (Num.cut most l).1),.int .i64 ((Num.cut most l).2:Int)])∧Below w.heap.size w w'
theorem cutgot_no(most:Int)(l:List UInt8)(w w':World)(h:Num.cut most l=([],0))(hb:Below w.heap.size w w'):CutGot most l w (.returned (.tuple #[.string ⟨#[]⟩,.int .i64 0])) w':=by
 unfold CutGot;rw[h];exact⟨rfl,hb⟩
theorem cutgot_yes(most:Int)(l:List UInt8)(w w':World)(y z:List UInt8){k:Nat}(h:Num.cut most l=(y,k))(hy:z=y)(hb:Below w.heap.size w w')(K:Int)(hK:K=(k:Int)):CutGot most l w (.returned (.tuple #[.string (str z),.int .i64 K])) w':=by
 subst hy;subst hK;unfold CutGot;rw[h];exact⟨rfl,hb⟩
theorem wpList_conv{ops:Array Oper}{rest:List Oper}{o:Oper}{a:Act}{Q:Exit→Act→World→Prop}{w:World}(hgd:o.guard=none)(x:Operand)
  (ho:o.op=.convert 35 9 x) (B:Nat) (A:Option Addr) (n c:Nat) (l:List UInt8) (hx:a.eval x=.slice A n c) (hr:Rd w B A n l)
  (hK:wpList Tryz.prog ops Q rest (a.put o.dst (.string (str l))) w):wpList Tryz.prog ops Q (o::rest) a w:=by
 refine wpList_plain hgd fun K hk=>?_
 unfold Oper.wp
 simp[execOp,ho,hx,run_conv w B A n c l hr,Result.andThen]
 exact hk _ _ hK
theorem cut_any(A:Option Addr)(n cap:Nat)(l:List UInt8)(most:Int)(w:World)(h:Rd w w.heap.size A n l)(hn:n≤140737488355328)(hcap:n≤cap):
  Calls Tryz.prog 107 #[.slice A n cap,.int .i64 most] w (CutGot most l w):=by
 obtain⟨⟨hd1,hd2⟩,hd3,hd4⟩:=Num.dec_bounds l;have hl:=h.1;obtain⟨N,hN⟩:∃ N,N=(Num.dec l).1:=⟨_,rfl⟩;obtain⟨K,hK⟩:∃ K,K=(Num.dec l).2:=⟨_,rfl⟩;rw[← hN] at hd1 hd2;rw[← hK,hl] at hd3;rw[← hK] at hd4;have hnoF:¬ (K≠0∧0≤N∧N≤most∧N≤(n:Int) - K)→Hid (Num.cut most l=([],0)):=fun h=>hid (Num.cut_no (by unfold Num.cutok;rw[← hN,← hK,hl];exact h));have hyesF:(K≠0∧0≤N∧N≤most∧N≤(n:Int) - K)→Hid (Num.cut most l=((l.drop K).take N.toNat,K+N.toNat)):=fun h=>hid (by rw[Num.cut_yes (by unfold Num.cutok;rw[← hN,← hK,hl];exact h),← hN,← hK]);have HN:=hid hN;have HK:=hid hK;have HL:=hid hl;clear hN hK hl;by_cases hk0:K=0
 ·have hno:=hnoF (fun h=>h.1 hk0);have HZ:=hid hk0;subst hk0;go_enter Tryz.func107,Tryz.ntmps107;go_wp2_with fail;refine(get_any A n cap l w h hn hcap).mono ?_;rintro e w1⟨rfl,hb1⟩;rw[← HN.out,← HK.out];go_wp2;go_ret2;exact cutgot_no _ _ _ _ hno.out hb1
 have hk1:1≤K:=by omega
 have hk2:¬ ((K:Int)=0):=by omega
 by_cases hn0:N < 0
 ·have hno:=hnoF (fun h=>by omega);go_enter Tryz.func107,Tryz.ntmps107;go_wp2_with fail;refine(get_any A n cap l w h hn hcap).mono ?_;rintro e w1⟨rfl,hb1⟩;rw[← HN.out,← HK.out];go_wp2;go_ret2;exact cutgot_no _ _ _ _ hno.out hb1
 by_cases hmost:most < N
 ·have hno:=hnoF (fun h=>by omega);go_enter Tryz.func107,Tryz.ntmps107;go_wp2_with fail;refine(get_any A n cap l w h hn hcap).mono ?_;rintro e w1⟨rfl,hb1⟩;rw[← HN.out,← HK.out];go_wp2;go_ret2;exact cutgot_no _ _ _ _ hno.out hb1
 by_cases hlen:(n:Int) - K < N
 ·have hno:=hnoF (fun h=>by omega);go_enter Tryz.func107,Tryz.ntmps107;go_wp2_with fail;refine(get_any A n cap l w h hn hcap).mono ?_;rintro e w1⟨rfl,hb1⟩;rw[← HN.out,← HK.out];go_wp2;go_ret2;exact cutgot_no _ _ _ _ hno.out hb1
 obtain⟨m,rfl⟩:∃ m:Nat,N=(m:Int):=⟨N.toNat,by omega⟩;have hyes:Hid (Num.cut most l=((l.drop K).take m,K+m)):=hid (by have:=(hyesF ⟨hk0,by omega,by omega,by omega⟩).out;rwa [Int.toNat_natCast] at this);clear hnoF hyesF;obtain⟨ad,_,rfl,_⟩:=h.at_ (k:=0) (by omega);have hkm:K+m≤n:=by omega
 have hkm2:K+m≤cap:=by omega
 by_cases hck:cap=K
 ·obtain rfl:m=0:=by omega
  subst hck;have HR:∀ w':World,Rd w' w.heap.size (some ad) 0 []:=fun w'=>⟨rfl,fun h=>absurd h (by omega)⟩;go_enter Tryz.func107,Tryz.ntmps107;go_wp2_with fail;refine(get_any (some ad) n cap l w h hn hcap).mono ?_;rintro e w1⟨rfl,hb1⟩;rw[← HN.out,← HK.out];have t1:((cap:Int) == 0)=false:=by simp;omega
  have t3:decide (most < 0)=false:=decide_eq_false (by omega);have t4:decide ((n:Int) - cap < 0)=false:=decide_eq_false (by omega);go_wp2_with (with_reducible refine wpList_conv (o:=⟨some 40,_,_,_,_,_⟩) rfl (.tmp 39) rfl w.heap.size (some ad) 0 _ [] rfl (HR _) ?_);go_ret2;refine cutgot_yes _ _ _ _ _ _ hyes.out (by simp) hb1 _ ?_;omega
 have HR:∀ w':World,Below w.heap.size w w'→Rd w' w.heap.size (some (ad.add K)) (K+m - K) ((l.drop K).take m):=fun w' hb=>by rw[Nat.add_sub_cancel_left];exact((h.back K (n - K) (by omega)).front m (by omega)).below hb
 go_enter Tryz.func107,Tryz.ntmps107;go_wp2_with fail;refine(get_any (some ad) n cap l w h hn hcap).mono ?_;rintro e w1⟨rfl,hb1⟩;rw[← HN.out,← HK.out];have t1:((K:Int) == 0)=false:=by simp;omega
 have t3:decide (most < (m:Int))=false:=decide_eq_false (by omega);have t4:decide ((n:Int) - K < (m:Int))=false:=decide_eq_false (by omega);go_wp2_with (with_reducible refine wpList_conv (o:=⟨some 40,_,_,_,_,_⟩) rfl (.tmp 39) rfl w.heap.size (some (ad.add K)) (K+m - K) _ ((l.drop K).take m) rfl (HR _ hb1) ?_);go_ret2;refine cutgot_yes _ _ _ _ _ _ hyes.out (by simp) hb1 _ ?_;omega
theorem rcut_any(A:Option Addr)(n cap:Nat)(l:List UInt8)(most:Int)(w:World)(h:Rd w w.heap.size A n l)(hn:n≤140737488355328)(hcap:n≤cap):
  Calls Tryz.prog 92 #[.slice A n cap,.int .i64 most] w (CutGot most l w):=by
 obtain⟨⟨hd1,hd2⟩,hd3,hd4⟩:=Num.dec_bounds l;have hl:=h.1;obtain⟨N,hN⟩:∃ N,N=(Num.dec l).1:=⟨_,rfl⟩;obtain⟨K,hK⟩:∃ K,K=(Num.dec l).2:=⟨_,rfl⟩;rw[← hN] at hd1 hd2;rw[← hK,hl] at hd3;rw[← hK] at hd4;have hnoF:¬ (K≠0∧0≤N∧N≤most∧N≤(n:Int) - K)→Hid (Num.cut most l=([],0)):=fun h=>hid (Num.cut_no (by unfold Num.cutok;rw[← hN,← hK,hl];exact h));have hyesF:(K≠0∧0≤N∧N≤most∧N≤(n:Int) - K)→Hid (Num.cut most l=((l.drop K).take N.toNat,K+N.toNat)):=fun h=>hid (by rw[Num.cut_yes (by unfold Num.cutok;rw[← hN,← hK,hl];exact h),← hN,← hK]);have HN:=hid hN;have HK:=hid hK;have HL:=hid hl;clear hN hK hl;by_cases hk0:K=0
 ·have hno:=hnoF (fun h=>h.1 hk0);have HZ:=hid hk0;subst hk0;go_enter Tryz.func92,Tryz.ntmps92;go_wp2_with fail;refine(rget_any A n cap l w h hn hcap).mono ?_;rintro e w1⟨rfl,hb1⟩;rw[← HN.out,← HK.out];go_wp2;go_ret2;exact cutgot_no _ _ _ _ hno.out hb1
 have hk1:1≤K:=by omega
 have hk2:¬ ((K:Int)=0):=by omega
 by_cases hn0:N < 0
 ·have hno:=hnoF (fun h=>by omega);go_enter Tryz.func92,Tryz.ntmps92;go_wp2_with fail;refine(rget_any A n cap l w h hn hcap).mono ?_;rintro e w1⟨rfl,hb1⟩;rw[← HN.out,← HK.out];go_wp2;go_ret2;exact cutgot_no _ _ _ _ hno.out hb1
 by_cases hmost:most < N
 ·have hno:=hnoF (fun h=>by omega);go_enter Tryz.func92,Tryz.ntmps92;go_wp2_with fail;refine(rget_any A n cap l w h hn hcap).mono ?_;rintro e w1⟨rfl,hb1⟩;rw[← HN.out,← HK.out];go_wp2;go_ret2;exact cutgot_no _ _ _ _ hno.out hb1
 by_cases hlen:(n:Int) - K < N
 ·have hno:=hnoF (fun h=>by omega);go_enter Tryz.func92,Tryz.ntmps92;go_wp2_with fail;refine(rget_any A n cap l w h hn hcap).mono ?_;rintro e w1⟨rfl,hb1⟩;rw[← HN.out,← HK.out];go_wp2;go_ret2;exact cutgot_no _ _ _ _ hno.out hb1
 obtain⟨m,rfl⟩:∃ m:Nat,N=(m:Int):=⟨N.toNat,by omega⟩;have hyes:Hid (Num.cut most l=((l.drop K).take m,K+m)):=hid (by have:=(hyesF ⟨hk0,by omega,by omega,by omega⟩).out;rwa [Int.toNat_natCast] at this);clear hnoF hyesF;obtain⟨ad,_,rfl,_⟩:=h.at_ (k:=0) (by omega);have hkm:K+m≤n:=by omega
 have hkm2:K+m≤cap:=by omega
 by_cases hck:cap=K
 ·obtain rfl:m=0:=by omega
  subst hck;have HR:∀ w':World,Rd w' w.heap.size (some ad) 0 []:=fun w'=>⟨rfl,fun h=>absurd h (by omega)⟩;go_enter Tryz.func92,Tryz.ntmps92;go_wp2_with fail;refine(rget_any (some ad) n cap l w h hn hcap).mono ?_;rintro e w1⟨rfl,hb1⟩;rw[← HN.out,← HK.out];have t1:((cap:Int) == 0)=false:=by simp;omega
  have t3:decide (most < 0)=false:=decide_eq_false (by omega);have t4:decide ((n:Int) - cap < 0)=false:=decide_eq_false (by omega);go_wp2_with (with_reducible refine wpList_conv (o:=⟨some 38,_,_,_,_,_⟩) rfl (.tmp 37) rfl w.heap.size (some ad) 0 _ [] rfl (HR _) ?_);go_ret2;refine cutgot_yes _ _ _ _ _ _ hyes.out (by simp) hb1 _ ?_;omega
 have HR:∀ w':World,Below w.heap.size w w'→Rd w' w.heap.size (some (ad.add K)) (K+m - K) ((l.drop K).take m):=fun w' hb=>by rw[Nat.add_sub_cancel_left];exact((h.back K (n - K) (by omega)).front m (by omega)).below hb
 go_enter Tryz.func92,Tryz.ntmps92;go_wp2_with fail;refine(rget_any (some ad) n cap l w h hn hcap).mono ?_;rintro e w1⟨rfl,hb1⟩;rw[← HN.out,← HK.out];have t1:((K:Int) == 0)=false:=by simp;omega
 have t3:decide (most < (m:Int))=false:=decide_eq_false (by omega);have t4:decide ((n:Int) - K < (m:Int))=false:=decide_eq_false (by omega);go_wp2_with (with_reducible refine wpList_conv (o:=⟨some 38,_,_,_,_,_⟩) rfl (.tmp 37) rfl w.heap.size (some (ad.add K)) (K+m - K) _ ((l.drop K).take m) rfl (HR _ hb1) ?_);go_ret2;refine cutgot_yes _ _ _ _ _ _ hyes.out (by simp) hb1 _ ?_;omega
end Go.Proofs.YtdkngfdnfekgfaaGreat
namespace Go.Proofs.YtdkngfdnfekgfaaGreat
open Go.RowKit Tab
structure BySl(b:Nat)(v:Value)(s:List UInt8)(w:World):Prop where
 is:∃ A n c,v=.slice A n c∧Rd w b A n s∧n≤c∧n≤140737488351232∧(A=none→c=0)
theorem BySl.keep{b:Nat}{v:Value}{s:List UInt8}{w w':World}(h:BySl b v s w)(hk:∀ p:Addr,p.block < b→w'.cell? p=w.cell? p):BySl b v s w':=by
 obtain⟨A,n,c,e,hr,h1⟩:=h.is;exact⟨A,n,c,e,hr.keep hk,h1⟩
theorem BySl.drop{b n c k:Nat}{A A':Option Addr}{s:List UInt8}{w:World}(h:Rd w b A n s)(hc:n≤c)(hn:n≤140737488351232)(hk:k≤n)(hA:∀ ad,A=some ad→k < n→A'=some (ad.add k))(h0:A'=none→c - k=0):BySl b (.slice A' (n - k) (c - k)) (s.drop k) w:=by
 refine⟨A',n - k,c - k,rfl,?_,by omega,by omega,h0⟩;by_cases hlt:k < n
 ·obtain⟨ad,e,hb,hcl⟩:=h.2 (by omega);subst e;rw[hA ad rfl hlt];exact h.back k (n - k) (by omega)
 exact⟨by rw[List.length_drop,h.1],fun h1=>by omega⟩
def ImR(b g:Nat)(s:List UInt8)(w:World):Prop:=∃ v,OwnV 80 1 w b (some ⟨g,0,none⟩) 1 1 [v]∧BySl b v s w
structure RpI(b g:Nat)(s:List UInt8)(w w':World):Prop where
 r:ImR b g s w'
 gb:w.grownBy w' (some g)
section
variable {b g:Nat} {s t:List UInt8} {w w1 w':World}
theorem ImR.on{S:Nat→Prop}(h:ImR b g s w)(hk:KpS S w w')(hg:¬ S g)(hS:∀ k,S k→b≤k):ImR b g s w':=by
 obtain⟨v,h1,h2⟩:=h;have hz:=h1.obk_ge (b:=g) rfl;exact⟨v,hk.own h1 fun k e=>by injection e with e;subst e;exact hg,h2.keep fun p hp=>hk.cell (by omega) fun e=>by have:=hS _ e;omega⟩
theorem ImR.bel(h:ImR b g s w)(hb:Below w.heap.size w w'):ImR b g s w':=h.on (S:=fun _=>False) (KpS.bel hb) (fun e=>e) (fun _ e=>e.elim)
theorem RpI.trans(h:RpI b g s w w1)(k:RpI b g t w1 w'):RpI b g t w w':=⟨k.r,gb_trans h.gb k.gb⟩
theorem RpI.refl(h:ImR b g s w):RpI b g s w w:=⟨h,gb_refl _ _⟩
theorem RpI.bel(h:RpI b g s w w1)(hb:Below w1.heap.size w1 w'):RpI b g s w w':=⟨h.r.bel hb,gb_bl h.gb hb⟩
theorem RpI.own{E z B n c:Nat}{A:Option Addr}{l:List Value}(h:RpI b g t w w')(hr:ImR b g s w)(ho:OwnV E z w B A n c l)(hE:E≠80):OwnV E z w' B A n c l:=by
 obtain⟨v,h1,_⟩:=hr;exact KpS.row h.gb ho h1 hE
theorem ImR.ge(h:ImR b g s w):b≤w.heap.size:=by
 obtain⟨v,h1,_⟩:=h;have hz:=h1.obk_ge (b:=g) rfl;omega
theorem gb_bow{w0:World}{x:Option Nat}{A A':Option Addr}(h:w0.grownBy w x)(k:Grew A A' w w')(hA:∀ j,obk A=some j→w0.heap.size≤j):w0.grownBy w' x :=
 ⟨k.gb.os.trans h.os,k.gb.tape.trans h.tape,k.gb.output.trans h.output,Nat.le_trans h.size k.gb.size,fun i hi hn=>(k.gb.block i (Nat.lt_of_lt_of_le hi h.size) (fun e=>by have:=hA i e.symm;omega)).trans (h.block i hi hn)⟩
theorem gb_lay{W0 w9:World}{x:Option Nat}(hb:Below w.heap.size w W0)(k:W0.grownBy w9 x):w.grownBy w9 x :=
 ⟨k.os.trans hb.os,k.tape.trans hb.tape,k.output.trans hb.output,Nat.le_trans hb.size k.size,fun i hi hn=>(k.block i (Nat.lt_of_lt_of_le hi hb.size) hn).trans (hb.block i hi)⟩
theorem kps_gb{S:Nat→Prop}{w0:World}{g:Nat}(h:w0.grownBy w (some g))(k:KpS S w w')(hS:∀ j,S j→j=g∨w0.heap.size≤j):w0.grownBy w' (some g) :=
 ⟨k.os.trans h.os,k.tape.trans h.tape,k.output.trans h.output,Nat.le_trans h.size k.size,fun i hi hn=>(k.block i (Nat.lt_of_lt_of_le hi h.size) (fun e=>by rcases hS i e with e | e;exact hn (by rw[e]);omega)).trans (h.block i hi hn)⟩
theorem RpI.fin{W0 w9:World}{g2:Nat}(h:ImR b g s w)(hb:Below w.heap.size w W0)(q:RpI b g t W0 w1)(hg:w1.grownBy w9 (some g2))(h2:w.heap.size≤g2):RpI b g t w w9:=by
 obtain⟨v,h1,_⟩:=h;have hz:=h1.obk_ge (b:=g) rfl;refine⟨q.r.on (S:=fun k=>k=g2) (KpS.gb hg rfl) (by omega) (fun k e=>by omega),?_⟩;exact⟨hg.os.trans (q.gb.os.trans hb.os),hg.tape.trans (q.gb.tape.trans hb.tape),hg.output.trans (q.gb.output.trans hb.output),Nat.le_trans hb.size (Nat.le_trans q.gb.size hg.size),fun i hi hn=>(hg.block i (Nat.lt_of_lt_of_le hi (Nat.le_trans hb.size q.gb.size)) (by intro e;injection e with e;omega)).trans ((q.gb.block i (Nat.lt_of_lt_of_le hi hb.size) hn).trans (hb.block i hi))⟩
theorem ImR.put(h:ImR b g s w)(hb:Below w.heap.size w w1){v:Value}(hv:BySl b v t w1):RpI b g t w (w1.setCell ⟨g,0,none⟩ v):=by
 obtain⟨u,h1,_⟩:=h;have h2:=OwnV.below h1 rfl hb;have hz:=h1.obk_ge (b:=g) rfl;refine⟨⟨v,h2.set 0 v (by show 0 < 1;omega),hv.keep fun p hp=>?_⟩,gb_set (gb_bl (gb_refl _ _) hb) 0 v⟩;exact((Below.refl b w1).setCell (p:=⟨g,0,none⟩) hz.1 v).cell hp
end
theorem inum_any{b g:Nat}{s:List UInt8}{w:World}(h:ImR b g s w):Calls Tryz.prog 60 #[.pointer (some ⟨g,0,none⟩)] w (fun e w'=>e=.returned (.int .i64 (RP.num s).1)∧RpI b g (RP.num s).2 w w'):=by
 obtain⟨v,ho,hv⟩:=id h;obtain⟨A,n,c,rfl,hr,hc,hn,hA0⟩:=hv.is;have hz:=ho.obk_ge (b:=g) rfl;have m0:w.cell? ⟨g,0,none⟩=some (.slice A n c):=World.ownsRow.cellAt ho 0 (by omega);have f0:w.frozen? ⟨g,0,none⟩=false:=World.ownsRow.frozenAt ho 0;have HG:=hid (get_any A n c s w (hr.more (by omega)) (by omega) hc);have hkk:(Num.dec s).2≤n:=by
  have h1:=hr.1;have h2:=(Num.dec_bounds s).2.1;omega
 have HPUT:Hid (∀ w1 A',Below w.heap.size w w1→(∀ ad,A=some ad→(Num.dec s).2 < n→A'=some (ad.add (Num.dec s).2))→(A'=none→c - (Num.dec s).2=0)→RpI b g (RP.num s).2 w (w1.setCell ⟨g,0,none⟩ (.slice A' (n - (Num.dec s).2) (c - (Num.dec s).2)))):=hid fun w1 A' hb h1 h2=>h.put hb (BySl.drop (hr.below (hb.mono (by omega))) hc hn hkk h1 h2);have HCL:Hid (∀ w1,Below w.heap.size w w1→w1.cell? ⟨g,0,none⟩=some (.slice A n c)∧w1.frozen? ⟨g,0,none⟩=false):=hid fun w1 hb=>⟨World.ownsRow.cellAt (OwnV.below ho rfl hb) 0 (by omega),World.ownsRow.frozenAt (OwnV.below ho rfl hb) 0⟩;unfold Got at HG;show Calls _ _ _ _ (fun e w'=>e=.returned (.int .i64 (Num.dec s).1)∧RpI b g (RP.num s).2 w w');generalize (Num.dec s).1=z at HG ⊢;generalize (Num.dec s).2=k at HG hkk HPUT;generalize (RP.num s).2=t at HPUT ⊢;clear ho hv hr h;have hkc:k≤c:=by omega
 cases A with
 | none =>
  obtain rfl:c=0:=hA0 rfl;obtain rfl:n=0:=by omega
  obtain rfl:k=0:=by omega
  go_enter Tryz.func60,Tryz.ntmps60;go_wp2_with (go_at_call 85;refine HG.out.mono ?_;rintro e w1⟨rfl,hb1⟩;obtain⟨m1,f1⟩:=HCL.out w1 hb1);go_ret;exact⟨rfl,HPUT.out _ _ hb1 (fun _ e=>by cases e) (by simp)⟩
 | some ad =>
  by_cases hck:c=k
  ·obtain rfl:n=k:=by omega
   subst hck;go_enter Tryz.func60,Tryz.ntmps60;go_wp2_with (go_at_call 85;refine HG.out.mono ?_;rintro e w1⟨rfl,hb1⟩;obtain⟨m1,f1⟩:=HCL.out w1 hb1);go_ret;refine⟨rfl,?_⟩;have:=HPUT.out _ (some ad) hb1 (fun _ _ e=>absurd e (by omega)) (fun e=>by cases e);simpa using this
  go_enter Tryz.func60,Tryz.ntmps60;go_wp2_with (go_at_call 85;refine HG.out.mono ?_;rintro e w1⟨rfl,hb1⟩;obtain⟨m1,f1⟩:=HCL.out w1 hb1);go_ret;exact⟨rfl,HPUT.out _ _ hb1 (fun _ e _=>by injection e with e;rw[e]) (fun e=>by cases e)⟩
theorem cut_le(s:List UInt8):(Num.cut 12 s).2≤s.length:=by
 by_cases h:Num.cutok 12 s
 ·rw[Num.cut_yes h];obtain⟨_,h2,_,h4⟩:=h;dsimp only;omega
 rw[Num.cut_no h];exact Nat.zero_le _
theorem iname_any{b g:Nat}{s:List UInt8}{w:World}(h:ImR b g s w):Calls Tryz.prog 86 #[.pointer (some ⟨g,0,none⟩)] w (fun e w'=>e=.returned (.string (RP.str s).1)∧RpI b g (RP.str s).2 w w'):=by
 obtain⟨v,ho,hv⟩:=id h;obtain⟨A,n,c,rfl,hr,hc,hn,hA0⟩:=hv.is;have hz:=ho.obk_ge (b:=g) rfl;have m0:w.cell? ⟨g,0,none⟩=some (.slice A n c):=World.ownsRow.cellAt ho 0 (by omega);have f0:w.frozen? ⟨g,0,none⟩=false:=World.ownsRow.frozenAt ho 0;have HG:=hid (cut_any A n c s 12 w (hr.more (by omega)) (by omega) hc);have hkk:(Num.cut 12 s).2≤n:=by
  have h1:=hr.1;have h2:=cut_le s;omega
 have HPUT:Hid (∀ w1 A',Below w.heap.size w w1→(∀ ad,A=some ad→(Num.cut 12 s).2 < n→A'=some (ad.add (Num.cut 12 s).2))→(A'=none→c - (Num.cut 12 s).2=0)→RpI b g (RP.str s).2 w (w1.setCell ⟨g,0,none⟩ (.slice A' (n - (Num.cut 12 s).2) (c - (Num.cut 12 s).2)))):=hid fun w1 A' hb h1 h2=>h.put hb (BySl.drop (hr.below (hb.mono (by omega))) hc hn hkk h1 h2);have HCL:Hid (∀ w1,Below w.heap.size w w1→w1.cell? ⟨g,0,none⟩=some (.slice A n c)∧w1.frozen? ⟨g,0,none⟩=false):=hid fun w1 hb=>⟨World.ownsRow.cellAt (OwnV.below ho rfl hb) 0 (by omega),World.ownsRow.frozenAt (OwnV.below ho rfl hb) 0⟩;unfold CutGot at HG;show Calls _ _ _ _ (fun e w'=>e=.returned (.string (str (Num.cut 12 s).1))∧RpI b g (RP.str s).2 w w');generalize (Num.cut 12 s).1=z at HG ⊢;generalize (Num.cut 12 s).2=k at HG hkk HPUT;generalize (RP.str s).2=t at HPUT ⊢;clear ho hv hr h;have hkc:k≤c:=by omega
 cases A with
 | none =>
  obtain rfl:c=0:=hA0 rfl;obtain rfl:n=0:=by omega
  obtain rfl:k=0:=by omega
  go_enter Tryz.func86,Tryz.ntmps86;go_wp2_with (go_at_call 107;refine HG.out.mono ?_;rintro e w1⟨rfl,hb1⟩;obtain⟨m1,f1⟩:=HCL.out w1 hb1);go_ret;exact⟨rfl,HPUT.out _ _ hb1 (fun _ e=>by cases e) (by simp)⟩
 | some ad =>
  by_cases hck:c=k
  ·obtain rfl:n=k:=by omega
   subst hck;go_enter Tryz.func86,Tryz.ntmps86;go_wp2_with (go_at_call 107;refine HG.out.mono ?_;rintro e w1⟨rfl,hb1⟩;obtain⟨m1,f1⟩:=HCL.out w1 hb1);go_ret;refine⟨rfl,?_⟩;have:=HPUT.out _ (some ad) hb1 (fun _ _ e=>absurd e (by omega)) (fun e=>by cases e);simpa using this
  go_enter Tryz.func86,Tryz.ntmps86;go_wp2_with (go_at_call 107;refine HG.out.mono ?_;rintro e w1⟨rfl,hb1⟩;obtain⟨m1,f1⟩:=HCL.out w1 hb1);go_ret;exact⟨rfl,HPUT.out _ _ hb1 (fun _ e _=>by injection e with e;rw[e]) (fun e=>by cases e)⟩
theorem ismall_any{b g:Nat}{s:List UInt8}{w:World}(h:ImR b g s w):Calls Tryz.prog 88 #[.pointer (some ⟨g,0,none⟩)] w (fun e w'=>e=.returned (.int .i64 (RP.num s).1)∧RpI b g (RP.num s).2 w w'):=by
 have HG:=hid (inum_any h);have hi:Hid (In64 (RP.num s).1):=hid (Num.dec_bounds s).1;generalize RP.num s=q at HG hi ⊢;obtain⟨z,t⟩:=q;clear h;have i1:=hi.out.1;have i2:=hi.out.2;dsimp only at HG i1 i2 ⊢;go_enter Tryz.func88,Tryz.ntmps88;go_wp2_with (go_at_call 60;refine HG.out.mono ?_;rintro e w1⟨rfl,h1⟩);go_ret;exact⟨rfl,h1⟩
theorem iflag_any{b g:Nat}{s:List UInt8}{w:World}(h:ImR b g s w):Calls Tryz.prog 87 #[.pointer (some ⟨g,0,none⟩)] w (fun e w'=>e=.returned (.bool (decide ((RP.num s).1=1)))∧RpI b g (RP.num s).2 w w'):=by
 have HG:=hid (inum_any h);generalize RP.num s=q at HG ⊢;obtain⟨z,t⟩:=q;clear h;dsimp only at HG ⊢;have HQ:Hid ((z == 1)=decide (z=1)):=hid rfl;go_enter Tryz.func87,Tryz.ntmps87;go_wp2_with (go_at_call 60;refine HG.out.mono ?_;rintro e w1⟨rfl,h1⟩);go_ret;exact⟨rfl,h1⟩
theorem RiX.sm{x:Cf}(h:RiX x)(l:LenX x):SmX 16 x:=by
 obtain⟨z0,z1,z2,z3,z4⟩:=h.sz;rw[l.p] at z0 z1;rw[l.c] at z2;rw[l.t] at z3 z4;refine⟨z0,by omega,by omega,by omega,fun y hy=>?_,fun y hy=>?_⟩
 ·obtain⟨i,hi⟩:=List.getElem?_of_mem hy;have h3:=(ptE_rightB hi (h.pt i (List.getElem?_eq_some_iff.1 hi).1)).2.2;unfold partF at h3;simp only[Bool.and_eq_true,decide_eq_true_eq] at h3;omega
 have:=(tbW_fine (h.tb y hy)).1;have:=l.nd y hy;omega
noncomputable def imB(x:Cf):List UInt8:=if (whF x).1=0 then bytesB x else []
def ByA(l:List UInt8)(z:Int)(w:World)(e:Ending)(w':World):Prop:=∃ A n c,e=.returned (.tuple #[.slice A n c,.int .i64 z])∧Own w' w.heap.size A n c l∧Below w.heap.size w w'
theorem bytesB_few{x:Cf}(h:RiX x)(l:LenX x)(nb:NbX x):(horaB++confE (coreX x)).length≤100000:=by
 have hi:∀(k:Nat) (y:Pq),x.P[k]? = some y→PartIn y:=fun k y hy=>PartIn.of hy (h.pt k (List.getElem?_eq_some_iff.1 hy).1) (l.pr y (List.mem_of_getElem? hy));obtain⟨z0,z1,z2,z3,z4⟩:=h.sz;have h1:=flat_few partE 165 (x.P.map coreK) fun k hk=>by
  obtain⟨y,hy,rfl⟩:=List.mem_map.1 hk;obtain⟨i,hi'⟩:=List.getElem?_of_mem hy;exact partE_few (hi i y hi')
 have h2:=flat_few chanE 54 x.C fun y hy=>by
  obtain⟨i,hi'⟩:=List.getElem?_of_mem hy;exact chanE_few (ChanIn.of hi' (h.ch i (List.getElem?_eq_some_iff.1 hi').1) z1)
 have h3:=flat_few tabE 28089 (x.T.map NdT.l) fun t ht=>by
  obtain⟨y,hy,rfl⟩:=List.mem_map.1 ht;exact tabE_few (nb y hy) (by have:=(tbW_fine (h.tb y hy)).1;omega)
 have e1:=enc_few ((x.P.map coreK).length:Int) (by rw[List.length_map];unfold In64;omega);have e2:=enc_few (x.C.length:Int) (by unfold In64;omega);have e3:=enc_few ((x.T.map NdT.l).length:Int) (by rw[List.length_map];unfold In64;omega);rw[List.length_map] at h1 h3;unfold confE coreX;simp only[List.length_append,show horaB.length=4 from rfl];omega
theorem ibytes_any(x:Cf)(w:World)(hx:CfR w x):Calls Tryz.prog 17 #[cfv x] w (ByA (imB x) (whF x).1 w):=by
 have HR:Hid (∀ V,Below w.heap.size w V→Calls Tryz.prog 30 #[cfv x] V (Ans (.int .i64 (whF x).1) V)):=hid fun V hV=>by
  have h:=hx.on hV;exact cfright_any x.A1 x.A2 x.A3 x.n1 x.n2 x.n3 x.c1 x.c2 x.c3 x.P x.C x.T V h.pp h.ch h.tb (fun y hy=>(h.pt y hy).1) h.tt h.k1
 have HM:Hid ((whF x).1=0→∀ V,Below w.heap.size w V→Calls Tryz.prog 32 #[cfv x] V (MdA (horaB++confE (coreX x)) V)):=hid fun hz V hV=>wmod_any x V (hx.on hV) (RiX.of hz) ((RiX.of hz).sm (LenX.of hx));have HL:Hid ((whF x).1=0→(horaB++confE (coreX x)).length≤100000):=hid fun hz=>bytesB_few (RiX.of hz) (LenX.of hx) (NbX.of hx);have HI:Hid ((whF x).1=0→imB x=Crc.seal4 (horaB++confE (coreX x))):=hid fun hz=>by unfold imB;rw[if_pos hz,bytesB_E (LenX.of hx)]
 have HI2:Hid ((whF x).1≠0→imB x=[]):=hid fun hz=>by unfold imB;rw[if_neg hz]
 generalize (whF x).1=z at HR HM HL HI HI2 ⊢;generalize imB x=bb at HI HI2 ⊢;generalize horaB++confE (coreX x)=mm at HM HL HI;have hb0:=bl1 w (.cells #[.slice x.A1 x.n1 x.c1,.slice x.A2 x.n2 x.c2,.slice x.A3 x.n3 x.c3] 26);have HBX:=hid fun V (hv:Below (w.alloc (.cells #[.slice x.A1 x.n1 x.c1,.slice x.A2 x.n2 x.c2,.slice x.A3 x.n3 x.c3] 26)).heap.size (w.alloc (.cells #[.slice x.A1 x.n1 x.c1,.slice x.A2 x.n2 x.c2,.slice x.A3 x.n3 x.c3] 26)) V)=>((box_vec w (.slice x.A1 x.n1 x.c1) (.slice x.A2 x.n2 x.c2) (.slice x.A3 x.n3 x.c3) 26).on hv).three;clear hx;by_cases hz:z=0
 ·have hzi:(z != 0)=false:=by rw[hz];rfl
  have HMz:=hid (HM.out hz);have HLz:=HL.out hz;have HIz:=hid (HI.out hz);have HZ:=hid hz;clear hz HM HL HI HI2;go_enter Tryz.func17,Tryz.ntmps17;obtain⟨A1,A2,A3,n1,n2,n3,c1,c2,c3,P,C,T⟩:=x;dsimp only[cfv] at HR HMz HBX hb0 ⊢;obtain⟨m0,m1,m2⟩:=HBX.out _ (Below.refl _ _);go_wp2_with fail;refine(HR.out _ hb0).mono ?_;rintro e w1⟨rfl,hb1⟩;obtain⟨k0,k1,k2⟩:=HBX.out w1 hb1;have hb2:=hb0.trans (hb1.mono hb0.size);clear m0 m1 m2 hb1 hb0;go_wp2_with fail;refine(HMz.out w1 hb2).mono ?_;rintro e w2⟨A,n,c,rfl,ho,hb3⟩;have hl:=ho.len;go_wp2_with (go_at_call 31;refine(seal_any A n c mm w2 ho.rd (by omega)).mono ?_;rintro e w3⟨A3',c3',rfl,ho3,hb4⟩);go_ret2;rw[HIz.out,HZ.out];exact⟨A3',_,c3',rfl,ho3.weak (Nat.le_trans hb2.size hb3.size),(hb2.trans (hb3.mono hb2.size)).trans (hb4.mono (Nat.le_trans hb2.size hb3.size))⟩
 have hzi:(z != 0)=true:=bne_iff_ne.2 hz;have HIz:=hid (HI2.out hz);clear hz HM HL HI HI2;go_enter Tryz.func17,Tryz.ntmps17;obtain⟨A1,A2,A3,n1,n2,n3,c1,c2,c3,P,C,T⟩:=x;dsimp only[cfv] at HR HBX hb0 ⊢;obtain⟨m0,m1,m2⟩:=HBX.out _ (Below.refl _ _);go_wp2_with fail;refine(HR.out _ hb0).mono ?_;rintro e w1⟨rfl,hb1⟩;have hb2:=hb0.trans (hb1.mono hb0.size);clear m0 m1 m2 hb1 hb0;go_wp2_with fail;go_ret2;rw[HIz.out];exact⟨none,0,0,rfl,World.ownsRow_nil _ _ _ _,hb2⟩
theorem isize_any(x:Cf)(w:World)(hx:CfR w x):Calls Tryz.prog 20 #[cfv x] w (Ans (.int .i64 ((imB x).length:Nat)) w):=by
 have HR:Hid (∀ V,Below w.heap.size w V→Calls Tryz.prog 17 #[cfv x] V (ByA (imB x) (whF x).1 V)):=hid fun V hV=>ibytes_any x V (hx.on hV);generalize (whF x).1=z at HR;generalize imB x=bb at HR ⊢;have hb0:=bl1 w (.cells #[.slice x.A1 x.n1 x.c1,.slice x.A2 x.n2 x.c2,.slice x.A3 x.n3 x.c3] 26);obtain⟨m0,m1,m2⟩:=(box_vec w (.slice x.A1 x.n1 x.c1) (.slice x.A2 x.n2 x.c2) (.slice x.A3 x.n3 x.c3) 26).three;clear hx;go_enter Tryz.func20,Tryz.ntmps20;obtain⟨A1,A2,A3,n1,n2,n3,c1,c2,c3,P,C,T⟩:=x;dsimp only[cfv] at HR m0 m1 m2 hb0 ⊢;go_wp2_with fail;refine(HR.out _ hb0).mono ?_;rintro e w1⟨A,n,c,rfl,ho,hb1⟩;have HLN:=hid ho.len;have hb2:=hb0.trans (hb1.mono hb0.size);clear m0 m1 m2 hb1 hb0 ho;go_wp2_with fail;go_ret;exact⟨by rw[HLN.out];rfl,hb2⟩
theorem bequal_any(A D:Option Addr)(n c m d B B':Nat)(l k:List UInt8)(w:World)(h1:Rd w B A n l)(h2:Rd w B' D m k):Calls Tryz.prog 36 #[.slice A n c,.slice D m d] w (fun e w'=>e=.returned (.bool (decide (l=k)))∧w'=w):=by
 have p1:=run_conv w B A n c l h1;have p2:=run_conv w B' D m d k h2;have i1:((str l).toList == (str k).toList)=decide (l=k):=by
  rw[str_toList,str_toList];by_cases h:l=k
  ·rw[decide_eq_true h,h,beq_self_eq_true]
  rw[decide_eq_false h];exact beq_eq_false_iff_ne.2 h
 generalize str l=s1 at p1 i1;generalize str k=s2 at p2 i1;generalize decide (l=k)=q at i1 ⊢;clear h1 h2;go_enter Tryz.func36,Tryz.ntmps36;go_wp2_with fail;go_ret;exact⟨rfl,rfl⟩
theorem take_ne{l k:List UInt8}{n m:Nat}(h1:l.length=n)(h2:k.length=m)(h:¬ m≤n):decide (l.take m=k)=false:=decide_eq_false fun e=>by
 have:=congrArg List.length e
 rw[List.length_take] at this
 omega
theorem bprefix_any(A D:Option Addr)(n c m d B B':Nat)(l k:List UInt8)(w:World)(h1:Rd w B A n l)(h2:Rd w B' D m k)(hc:n≤c):Calls Tryz.prog 59 #[.slice A n c,.slice D m d] w (fun e w'=>e=.returned (.bool (decide (l.take m=k)))∧w'=w):=by
 by_cases h:m≤n
 ·have hi:(m:Int)≤(n:Int):=by omega
  have hmc:m≤c:=by omega
  have HE:=hid (bequal_any A D m c m d B B' (l.take m) k w (h1.front m h) h2);generalize decide (l.take m=k)=q at HE ⊢;clear h1 h2;go_enter Tryz.func59,Tryz.ntmps59;go_wp2_with (go_at_call 36;refine HE.out.mono ?_;rintro e w1⟨rfl,rfl⟩);go_ret;exact⟨rfl,rfl⟩
 have hi:¬ (m:Int)≤(n:Int):=by omega
 have HE:=hid (take_ne h1.1 h2.1 h);clear h1 h2;go_enter Tryz.func59,Tryz.ntmps59;go_wp2_with fail;go_ret;exact⟨by rw[HE.out];rfl,rfl⟩
theorem BySl.drop2{b n c k:Nat}{A A':Option Addr}{s:List UInt8}{w:World}(h:Rd w b A n s)(hc:n≤c)(hn:n - k≤140737488351232)(hk:k≤n)(hA:∀ ad,A=some ad→k < n→A'=some (ad.add k))(h0:A'=none→c - k=0):BySl b (.slice A' (n - k) (c - k)) (s.drop k) w:=by
 refine⟨A',n - k,c - k,rfl,?_,by omega,hn,h0⟩;by_cases hlt:k < n
 ·obtain⟨ad,e,hb,hcl⟩:=h.2 (by omega);subst e;rw[hA ad rfl hlt];exact h.back k (n - k) (by omega)
 exact⟨by rw[List.length_drop,h.1],fun h1=>by omega⟩
theorem oval_few{l:List UInt8}{k:Nat}(h:l.length≤k+4):(Crc.oval l).length≤k:=by
 have h2:(Crc.oval l).length≤l.length - 4:=by
  unfold Crc.oval;split <;> simp
 omega
def CutP(b:Nat)(l k:List UInt8)(w:World)(e:Ending)(w':World):Prop:=∃ v q,e=.returned (.tuple #[v,.bool q])∧q=decide (l.take k.length=k)∧(q=true→BySl b v (l.drop k.length) w)∧w'=w
theorem bcut_any(A D:Option Addr)(n c m d b B':Nat)(l k:List UInt8)(w:World)(h1:Rd w b A n l)(h2:Rd w B' D m k)(hc:n≤c)(hn:n≤140737488351232+m)(hA:A=none→c=0)(hm:0 < m):Calls Tryz.prog 34 #[.slice A n c,.slice D m d] w (CutP b l k w):=by
 have HE:=hid (bprefix_any A D n c m d b B' l k w h1 h2 hc);have hkm:k.length=m:=h2.1;unfold CutP;rw[hkm];have HNO:Hid (¬ m≤n→decide (l.take m=k)=false):=hid (take_ne h1.1 h2.1);have HDR:Hid (∀ A',m≤n→(∀ ad,A=some ad→m < n→A'=some (ad.add m))→(A'=none→c - m=0)→BySl b (.slice A' (n - m) (c - m)) (l.drop m) w):=hid fun A' hk h3 h4=>BySl.drop2 h1 hc (by omega) hk h3 h4;generalize decide (l.take m=k)=q at HE HNO ⊢;cases q with
 | false =>
  clear h1 h2 HNO HDR;go_enter Tryz.func34,Tryz.ntmps34;go_wp2_with (go_at_call 59;refine HE.out.mono ?_;rintro e w1⟨rfl,rfl⟩);go_ret2;exact⟨_,false,rfl,rfl,fun e=>(by cases e),rfl⟩
 | true =>
  have hmn:m≤n:=by
   rcases Nat.lt_or_ge n m with h | h
   ·have:=HNO.out (by omega);cases this
   exact h
  have hmc:m≤c:=by omega
  clear h1 h2 HNO;cases A with
  | none=>have:=hA rfl;omega
  | some ad =>
   by_cases hcm:c=m
   ·subst hcm;obtain rfl:n=c:=by omega
    go_enter Tryz.func34,Tryz.ntmps34;go_wp2_with (go_at_call 59;refine HE.out.mono ?_;rintro e w1⟨rfl,rfl⟩);go_ret2;refine⟨_,true,rfl,rfl,fun _=>?_,rfl⟩;have h:=HDR.out (some ad) (Nat.le_refl _) (fun _ _ e=>absurd e (by omega)) (fun e=>by cases e);simpa using h
   go_enter Tryz.func34,Tryz.ntmps34;go_wp2_with (go_at_call 59;refine HE.out.mono ?_;rintro e w1⟨rfl,rfl⟩);go_ret2;exact⟨_,true,rfl,rfl,fun _=>HDR.out _ hmn (fun _ e _=>by injection e with e;rw[e]) (fun e=>by cases e),rfl⟩
end Go.Proofs.YtdkngfdnfekgfaaGreat
