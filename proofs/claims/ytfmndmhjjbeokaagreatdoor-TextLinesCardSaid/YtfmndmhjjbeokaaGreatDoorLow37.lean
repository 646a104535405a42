import Derived.Test.YtfmndmhjjbeokaaGreatDoorLow36
import Derived.Test.YtfmndmhjjbeokaaGreatDoorLow35
import Derived.Test.YtfmndmhjjbeokaaGreatDoorLow31
namespace Go.Proofs.YtfmndmhjjbeokaaGreatDoor
set_option maxRecDepth 100000
open Go.RowKit Tab Txt
set_option linter.unusedSimpArgs false
set_option linter.unusedVariables false
abbrev TreC (X gt gr:Nat) (wv:Value) (AO:Option Addr) (n co:Nat) (w:World):Prop:=OwnV 122 3 w X (some ⟨gt,0,none⟩) 1 1 [.pointer (some ⟨gr,0,none⟩),wv,.slice AO n co]
def AtR (AO A':Option Addr) (w:World):Prop:=obk A'=obk AO∨∃ g',obk A'=some g'∧w.heap.size≤g'
set_option maxHeartbeats 4000000 in
theorem tput_any {X gt gr:Nat} {wv:Value} {out:List Nd} {AO:Option Addr} {n co:Nat} {w:World} (nd:Nd) (hT:TreC X gt gr wv AO n co w) (hO:OwnV 54 3 w X AO n co (ns out)) (hn:n≤1048576) (hX:X≤w.heap.size) :
  Calls Tryz.prog 115 #[.pointer (some ⟨gt,0,none⟩),.agg #[.int .i64 nd.k,.int .i64 nd.p,.int .i64 nd.n]] w (fun e w'=>e=.returned (.tuple #[])∧∃ A' c',TreC X gt gr wv A' (n+1) c' w'∧OwnV 54 3 w' X A' (n+1) c' (ns (out++[nd]))∧KpR gt AO w w'∧AtR AO A' w):=by
 have hb:=bl1 w (.cells #[.int .i64 nd.k,.int .i64 nd.p,.int .i64 nd.n] 54)
 have HSZ:Hid (w.heap.size≤(w.alloc (.cells #[.int .i64 nd.k,.int .i64 nd.p,.int .i64 nd.n] 54)).heap.size):=Lib.hid hb.size
 have HKB:Hid (KpR gt AO w (w.alloc (.cells #[.int .i64 nd.k,.int .i64 nd.p,.int .i64 nd.n] 54)).drew):=Lib.hid (KpR.trans (KpR.bel hb) (KpR.bel (Below.refl _ _).drew))
 have ht1:=OwnV.below hT rfl hb
 have ho1:=OwnV.below hO rfl hb
 have HT:Hid (TreC X gt gr wv AO n co (w.alloc (.cells #[.int .i64 nd.k,.int .i64 nd.p,.int .i64 nd.n] 54)).drew):=Lib.hid (OwnV.below ht1 rfl (Below.refl _ _).drew)
 have HO:Hid (OwnV 54 3 (w.alloc (.cells #[.int .i64 nd.k,.int .i64 nd.p,.int .i64 nd.n] 54)).drew X AO n co (ns out)):=Lib.hid (OwnV.below ho1 rfl (Below.refl _ _).drew)
 have B0:Hid ((w.alloc (.cells #[.int .i64 nd.k,.int .i64 nd.p,.int .i64 nd.n] 54)).drew.cell? ⟨w.heap.size,0,none⟩=some (.int .i64 nd.k)):=Lib.hid (World.cell?_alloc_mark _ _ _ _ _)
 have B1:Hid ((w.alloc (.cells #[.int .i64 nd.k,.int .i64 nd.p,.int .i64 nd.n] 54)).drew.cell? ⟨w.heap.size,1,none⟩=some (.int .i64 nd.p)):=Lib.hid (World.cell?_alloc_mark _ _ _ _ _)
 have B2:Hid ((w.alloc (.cells #[.int .i64 nd.k,.int .i64 nd.p,.int .i64 nd.n] 54)).drew.cell? ⟨w.heap.size,2,none⟩=some (.int .i64 nd.n)):=Lib.hid (World.cell?_alloc_mark _ _ _ _ _)
 have HXB:Hid (X≤(w.alloc (.cells #[.int .i64 nd.k,.int .i64 nd.p,.int .i64 nd.n] 54)).drew.heap.size):=Lib.hid (Nat.le_trans hX hb.size)
 clear hT hO hX hb ht1 ho1
 go_enter Tryz.func115,Tryz.ntmps115
 go_upto_region 1 with fail
 generalize hW0:(w.alloc (.cells #[.int .i64 nd.k,.int .i64 nd.p,.int .i64 nd.n] 54)).drew=W0 at HKB HT HO B0 B1 B2 HXB
 refine Rgs.region (w0:=w.alloc (.cells #[.int .i64 nd.k,.int .i64 nd.p,.int .i64 nd.n] 54)) (by kernel_rfl) (by kernel_rfl) (fun (opn:Nat) (vl:Value) (_:World)=>match opn with | 0=>vl=.pointer (some ⟨gt,0,none⟩) | 1=>vl=.pointer (some ⟨gt,0,none⟩) | 2=>vl=.pointer (some ⟨gt,0,none⟩) | 3=>vl=.pointer (some ⟨gt,2,none⟩) | 4=>vl=.slice AO n co | 8=>vl=.pointer (some ⟨gt,0,none⟩) | 9=>vl=.pointer (some ⟨gt,2,none⟩) | _=>True) (ApG (fun _:Unit=>.agg #[.int .i64 nd.k,.int .i64 nd.p,.int .i64 nd.n]) (fun _:Unit=>ns [nd]) (fun _ w=>KpR gt AO W0 w) W0 54 3 122 3 X gt [.pointer (some ⟨gr,0,none⟩),wv,.slice AO n co] 2 X AO n co (ns out) 5 6 7 10 9 10 11) ⟨fun _=>hW0,fun e=>absurd e (by decide)⟩ (Rgs.steps_of ?_) ?_
 ·refine ⟨?_,?_,?_,?_,?_,?_,?_,?_,?_,?_,?_,trivial⟩
  ·intro a w1 live S E D C' h0 hk hW
   have e0:a.eval (.tmp 0)=.pointer (some ⟨gt,0,none⟩):=E 0 rfl
   exact Rgs.val rfl (Reg.wanted_free rfl) (.pointer (some ⟨gt,0,none⟩)) (by have c:=Reg.consts a;generalize a.eval=ρ at *;simp [execOp,go_sem,c.1,c.2,e0]) rfl (hW.upd 0 4 _ (by decide) (by decide))
  ·intro a w1 live S E D C' h0 hk hW
   have e0:a.eval (.tmp 0)=.pointer (some ⟨gt,0,none⟩):=E 0 rfl
   exact Rgs.val rfl (Reg.wanted_free rfl) (.pointer (some ⟨gt,0,none⟩)) (by have c:=Reg.consts a;generalize a.eval=ρ at *;simp [execOp,go_sem,c.1,c.2,e0]) rfl (hW.upd 1 5 _ (by decide) (by decide))
  ·intro a w1 live S E D C' h0 hk hW
   have d1:a.eval (.tmp 5)=.pointer (some ⟨gt,0,none⟩):=D 1 rfl _ _ rfl rfl
   exact Rgs.val rfl (Reg.wanted_free rfl) (.pointer (some ⟨gt,0,none⟩)) (by have c:=Reg.consts a;generalize a.eval=ρ at *;simp [execOp,go_sem,c.1,c.2,d1]) rfl (hW.upd 2 6 _ (by decide) (by decide))
  ·intro a w1 live S E D C' h0 hk hW
   have d2:a.eval (.tmp 6)=.pointer (some ⟨gt,0,none⟩):=D 2 rfl _ _ rfl rfl
   exact Rgs.val rfl (Reg.wanted_free rfl) (.pointer (some ⟨gt,2,none⟩)) (by have c:=Reg.consts a;generalize a.eval=ρ at *;simp [execOp,go_sem,c.1,c.2,d2]) rfl (hW.upd 3 7 _ (by decide) (by decide))
  ·intro a w1 live S E D C' h0 hk hW
   have d3:a.eval (.tmp 7)=.pointer (some ⟨gt,2,none⟩):=D 3 rfl _ _ rfl rfl
   have l7:=Reg.not_live C' h0 (j:=7) rfl rfl
   have l10:=Reg.not_live C' l7 (j:=10) rfl rfl
   have hc:=(hW.cellC l10 HT.out 2 _ rfl).1
   exact Rgs.val rfl (Reg.wanted_free rfl) (.slice AO n co) (by have c:=Reg.consts a;generalize a.eval=ρ at *;simp [execOp,go_sem,c.1,c.2,d3,hc]) rfl (hW.upd 4 8 _ (by decide) (by decide))
  ·intro a w1 live S E D C' h0 hk hW
   have e3:a.eval (.tmp 3)=.pointer (some ⟨w.heap.size,0,none⟩):=E 3 rfl
   have l6:=Reg.not_live C' h0 (j:=6) rfl rfl
   have l7:=Reg.not_live C' l6 (j:=7) rfl rfl
   have l10:=Reg.not_live C' l7 (j:=10) rfl rfl
   have hw0:w1=W0:=hW.pre h0
   have b0:=B0.out
   have b1:=B1.out
   have b2:=B2.out
   rw [← hw0] at b0 b1 b2
   exact Rgs.grow rfl (Reg.wanted_free rfl) (.agg #[.int .i64 nd.k,.int .i64 nd.p,.int .i64 nd.n]) w1 (by have c:=Reg.consts a;generalize a.eval=ρ at *;simp [execOp,go_sem,c.1,c.2,e3,b0,b1,b2]) trivial (hW.made h0 l6 l7 l10 (by decide) (by rw [S];exact (by decide:9 < 14)) () (by rw [hw0];exact KpR.refl _) (by rw [hw0];exact Nat.le_refl _) (by rw [hw0];exact HO.out) (by rw [hw0];exact HT.out)) (fun j v _ h=>h)
  ·intro a w1 live S E D C' h0 hk hW
   have l7:=Reg.not_live C' h0 (j:=7) rfl rfl
   have l10:=Reg.not_live C' l7 (j:=10) rfl rfl
   have lc:live 5=true:=hk 5 rfl
   obtain ⟨x,hv,hW'⟩:=hW.lit (fun _ _ _ h1 h2=>KpR.trans h2 h1) lc l7 l10 (by decide) (by rw [S];exact (by decide:10 < 14)) (by decide)
   refine Rgs.grow rfl (Reg.wanted_free rfl) (.slice (some ⟨w1.heap.size,0,none⟩) 1 1) (w1.alloc (.cells #[.int .i64 nd.k,.int .i64 nd.p,.int .i64 nd.n] 54)) ?_ trivial hW' (fun j v _ h=>h)
   have hv2:a.eval (.tmp 9)=.agg #[.int .i64 nd.k,.int .i64 nd.p,.int .i64 nd.n]:=hv
   have c:=Reg.consts a
   generalize a.eval=ρ at *
   simp [execOp,go_sem,c.1,c.2,hv2]
  ·intro a w1 live S E D C' h0 hk hW
   have d4:a.eval (.tmp 8)=.slice AO n co:=D 4 rfl _ _ rfl rfl
   have l10:=Reg.not_live C' h0 (j:=10) rfl rfl
   have lb:live 6=true:=hk 6 rfl
   have lc:live 5=true:=C' _ _ rfl lb 5 rfl
   obtain ⟨gb,qb,A',c',w',hrun,hW'⟩:=hW.app elN (fun _ _ _ h1 h2=>KpR.trans h2 h1) lc lb h0 l10 (by decide) (by rw [S];exact (by decide:11 < 14)) (by decide) (fun _=>rfl) (fun _=>ns_one _) (by decide) (by omega) (by omega) HXB.out
   refine Rgs.grow rfl (Reg.wanted_free rfl) (.slice A' (n+1:Nat) c') w' ?_ trivial hW' (fun j v _ h=>h)
   have cc:=Reg.consts a
   generalize a.eval=ρ at *
   simp only [execOp,resolve,invoke,builtin,Sem.run_bind,Sem.run_pure,Result.andThen_ok,List.map_toArray,List.map_cons,List.map_nil,d4,qb,hrun]
  ·intro a w1 live S E D C' h0 hk hW
   have d0:a.eval (.tmp 4)=.pointer (some ⟨gt,0,none⟩):=D 0 rfl _ _ rfl rfl
   exact Rgs.val rfl (Reg.wanted_free rfl) (.pointer (some ⟨gt,0,none⟩)) (by have c:=Reg.consts a;generalize a.eval=ρ at *;simp [execOp,go_sem,c.1,c.2,d0]) rfl (hW.upd 8 12 _ (by decide) (by decide))
  ·intro a w1 live S E D C' h0 hk hW
   have d8:a.eval (.tmp 12)=.pointer (some ⟨gt,0,none⟩):=D 8 rfl _ _ rfl rfl
   exact Rgs.val rfl (Reg.wanted_free rfl) (.pointer (some ⟨gt,2,none⟩)) (by have c:=Reg.consts a;generalize a.eval=ρ at *;simp [execOp,go_sem,c.1,c.2,d8]) rfl (hW.upd 9 13 _ (by decide) (by decide))
  ·intro a w1 live S E D C' h0 hk hW
   have d9:a.eval (.tmp 13)=.pointer (some ⟨gt,2,none⟩):=D 9 rfl _ _ rfl rfl
   have la:live 7=true:=hk 7 rfl
   have lb:live 6=true:=C' _ _ rfl la 6 rfl
   have lc:live 5=true:=C' _ _ rfl lb 5 rfl
   obtain ⟨A',c',qa,hW'⟩:=hW.put (fun _ _ _ h1 h2=>KpR.trans h2 h1) lc la h0 (by decide) (by decide) (by decide)
   have hc:=hW.cellC h0 HT.out 2 _ rfl
   have hc1:=hc.1
   have hc2:=hc.2
   exact Rgs.store rfl (Reg.wanted_free rfl) (w1.setCell ⟨gt,2,none⟩ (.slice A' (n+1:Nat) c')) (by have c:=Reg.consts a;generalize a.eval=ρ at *;simp [execOp,go_sem,c.1,c.2,d9,qa,hc1,hc2]) trivial hW' (fun j v _ h=>h)
 intro a w9 live hs hd E Dv Hl hW
 obtain ⟨x9,r1,hx9,r2,r3,r4,r5,r6,hfin⟩:=hW.res (Hl 5 (by decide))
 obtain ⟨A9,c9,hO9,hat9,hT9⟩:=hfin (Hl 10 (by decide))
 have HX:=Lib.hid hx9
 have H9O:=Lib.hid hO9
 have H9A:=Lib.hid hat9
 have H9T:=Lib.hid hT9
 rw [Rgs.act_ws a _ _ hs hd E [4,5,6,7,8,9,10,11,12,13] (by kernel_rfl)]
 simp only [List.foldl,List.setIfInBounds_toArray,List.set_cons_succ,List.set_cons_zero]
 clear r1 r2 r3 r4 r5 r6 E Dv Hl hW hx9 hO9 hat9 hT9 hfin
 generalize a.eval=ρ9
 clear a hs hd
 have HKK:Hid (KpR gt AO w w9):=Lib.hid (HKB.out.trans HX.out)
 go_wp2_with fail
 go_end0
 refine ⟨rfl,A9,c9,H9T.out,by have:=H9O.out;rw [← ns_append] at this;exact this,HKK.out,?_⟩
 rcases H9A.out with e | ⟨g',e,hg'⟩
 ·exact .inl e
 ·exact .inr ⟨g',e,Nat.le_trans HSZ.out (by rw [← hW0] at hg';exact hg')⟩
end Go.Proofs.YtfmndmhjjbeokaaGreatDoor
namespace Go.Proofs.YtfmndmhjjbeokaaGreatDoor
set_option maxRecDepth 100000
open Go.RowKit Tab Txt
set_option linter.unusedSimpArgs false
set_option linter.unusedVariables false
def RdO (R:Option (List Nd×List UInt8)) (f:Bool) (l:List Nd) (s:List UInt8):Prop:=match R with
 | some x=>f=false∧l=x.1∧s=x.2
 | none=>f=true
def NdA (B g:Nat) (AN:Option Addr) (nn cn:Nat) (pl:Bool) (R:Option (List Nd×List UInt8)) (out:List Nd) (w:World) (e:Ending) (w':World):Prop :=
 e=.returned (.tuple #[])∧Below B w w'∧∃ (s':List UInt8) (l:List Nd) (f':Bool) (A':Option Addr) (n' c':Nat),(out++l).length=n'∧RdrC B g s' AN nn cn A' n' c' f' pl w'∧OwnV 54 3 w' B A' n' c' (ns (out++l))∧RdO R f' l s'
theorem NdA.fell {B g:Nat} {AN:Option Addr} {nn cn:Nat} {pl:Bool} {R:Option (List Nd×List UInt8)} {out:List Nd} {w w':World} {s':List UInt8} {l:List Nd} {A':Option Addr} {n' c':Nat} (hR:R=none) (hb:Below B w w') (hl:(out++l).length=n') (h:RdrC B g s' AN nn cn A' n' c' true pl w') (ho:OwnV 54 3 w' B A' n' c' (ns (out++l))):NdA B g AN nn cn pl R out w (.returned (.tuple #[])) w' :=
 ⟨rfl,hb,s',l,true,A',n',c',hl,h,ho,by rw [hR];exact rfl⟩
def seqK (f:Nat→List UInt8→Option (List Nd×List UInt8)) (rm:Nat) (s:List UInt8):Option (List Nd×List UInt8):=match f rm s with
 | none=>none
 | some x=>match kidsR f (x.2.length+1) (rm - x.1.length) x.2 with
  | none=>none
  | some y=>(takeB 41 y.2.2).map fun s4=>(⟨3,0,((y.2.1+1:Nat):Int)⟩::(x.1++y.1),s4)
def KidI (f:Nat→List UInt8→Option (List Nd×List UInt8)) (rm:Nat) (R:Option (List Nd×List UInt8)) (fb:Bool) (l:List Nd) (k:Nat) (s:List UInt8):Prop :=
 (fb=true→R=none)∧(fb=false→k≤l.length∧R=match kidsR f (s.length+1) (rm - l.length) s with
  | none=>none
  | some y=>(takeB 41 y.2.2).map fun s4=>(⟨3,0,((k+y.2.1:Nat):Int)⟩::(l++y.1),s4))
theorem RdO.cases {R:Option (List Nd×List UInt8)} {f:Bool} {l:List Nd} {s:List UInt8} (h:RdO R f l s):(R=none∧f=true)∨(R=some (l,s)∧f=false):=by
 cases R with
 | none=>exact .inl ⟨rfl,h⟩
 | some x =>
  obtain ⟨h1,h2,h3⟩:=h
  exact .inr ⟨by rw [h2,h3],h1⟩
theorem KidI.start {f:Nat→List UInt8→Option (List Nd×List UInt8)} {rm:Nat} {R:Option (List Nd×List UInt8)} {fb f6:Bool} {sx s6:List UInt8} {l6:List Nd} (hf:Rds f) (h1:fb=true→R=none) (h2:fb=false→R=seqK f rm sx) (h:RdO (if fb=true then none else f rm sx) f6 l6 s6):KidI f rm R f6 l6 1 s6:=by
 cases fb with
 | true =>
  rcases h.cases with ⟨_,e⟩ | ⟨e,_⟩
  ·exact ⟨fun _=>h1 rfl,fun e2=>by rw [e] at e2;cases e2⟩
  ·rw [if_pos rfl] at e;cases e
 | false =>
  rw [if_neg (by decide)] at h
  rcases h.cases with ⟨e0,e⟩ | ⟨e0,e⟩
  ·exact ⟨fun _=>by rw [h2 rfl];unfold seqK;rw [e0],fun e2=>by rw [e] at e2;cases e2⟩
  ·refine ⟨(fun e2=>by rw [e] at e2;cases e2),fun _=>⟨(hf _ _ _ e0).2.2,?_⟩⟩
   rw [h2 rfl]
   unfold seqK
   rw [e0]
   show (match kidsR f (s6.length+1) (rm - l6.length) s6 with | none=>none | some y=>_)=_
   cases kidsR f (s6.length+1) (rm - l6.length) s6 with
   | none=>rfl
   | some y =>
    show Option.map (fun s4=>(⟨3,0,((y.2.1+1:Nat):Int)⟩::(l6++y.1),s4)) (takeB 41 y.2.2)=Option.map (fun s4=>(⟨3,0,((1+y.2.1:Nat):Int)⟩::(l6++y.1),s4)) (takeB 41 y.2.2)
    rw [Nat.add_comm]
theorem KidI.next {f:Nat→List UInt8→Option (List Nd×List UInt8)} {rm:Nat} {R:Option (List Nd×List UInt8)} {f6:Bool} {s s2 s6:List UInt8} {l l6:List Nd} {k:Nat} (hf:Rds f) (h:KidI f rm R false l k s) (ht:takeB 44 s=some s2) (h6:RdO (f (rm - l.length) s2) f6 l6 s6):KidI f rm R f6 (l++l6) (k+1) s6:=by
 obtain ⟨hk,hR⟩:=h.2 rfl
 rw [kidsR_succ,ht] at hR
 replace hR:R=match (match f (rm - l.length) s2 with | none=>none | some x=>match kidsR f s.length (rm - l.length - x.1.length) x.2 with | none=>none | some y=>some (x.1++y.1,y.2.1+1,y.2.2)) with | none=>none | some y=>(takeB 41 y.2.2).map fun s4=>(⟨3,0,((k+y.2.1:Nat):Int)⟩::(l++y.1),s4):=hR
 rcases h6.cases with ⟨e0,e⟩ | ⟨e0,e⟩
 ·refine ⟨fun _=>?_,fun e2=>by rw [e] at e2;cases e2⟩
  rw [e0] at hR
  exact hR
 ·have hl:=hf _ _ _ e0
  refine ⟨(fun e2=>by rw [e] at e2;cases e2),fun _=>⟨by rw [List.length_append];have:=hl.2.2;dsimp only at this;omega,?_⟩⟩
  rw [e0] at hR
  have es:=congrArg List.length (takeB_some ht)
  rw [List.length_cons] at es
  have e3:kidsR f s.length (rm - l.length - l6.length) s6=kidsR f (s6.length+1) (rm - (l++l6).length) s6:=by
   rw [List.length_append,← Nat.sub_sub]
   exact kidsR_fuel hf _ _ _ _ (by have:=hl.1;dsimp only at this;omega) (Nat.lt_succ_self _)
  replace hR:R=match (match kidsR f s.length (rm - l.length - l6.length) s6 with | none=>none | some y=>some (l6++y.1,y.2.1+1,y.2.2)) with | none=>none | some y=>(takeB 41 y.2.2).map fun s4=>(⟨3,0,((k+y.2.1:Nat):Int)⟩::(l++y.1),s4):=hR
  rw [e3] at hR
  rw [hR]
  cases kidsR f (s6.length+1) (rm - (l++l6).length) s6 with
  | none=>rfl
  | some y =>
   show Option.map (fun s4=>(⟨3,0,((k+(y.2.1+1):Nat):Int)⟩::(l++(l6++y.1)),s4)) (takeB 41 y.2.2)=Option.map (fun s4=>(⟨3,0,((k+1+y.2.1:Nat):Int)⟩::((l++l6)++y.1),s4)) (takeB 41 y.2.2)
   rw [List.append_assoc,show k+(y.2.1+1)=k+1+y.2.1 by omega]
theorem KidI.stop {f:Nat→List UInt8→Option (List Nd×List UInt8)} {rm:Nat} {R:Option (List Nd×List UInt8)} {s:List UInt8} {l:List Nd} {k:Nat} (h:KidI f rm R false l k s) (ht:takeB 44 s=none):R=(takeB 41 s).map fun s4=>(⟨3,0,(k:Int)⟩::l,s4):=by
 obtain ⟨_,hR⟩:=h.2 rfl
 rw [kidsR_succ,ht] at hR
 have hR:R=(takeB 41 s).map fun s4=>(⟨3,0,((k+0:Nat):Int)⟩::(l++[]),s4):=hR
 rw [Nat.add_zero,List.append_nil] at hR
 exact hR
theorem nsT_put (l:List Nd) (i:Nat) (z:Int) (x:Nd) (h:l[i]? = some x):(ns l).set (i*3+2) (.int .i64 z)=ns (l.set i ⟨x.k,x.p,z⟩):=by
 induction l generalizing i with
 | nil=>simp at h
 | cons y l ih =>
  cases i with
  | zero=>simp at h;subst h;simp [ns]
  | succ i=>rw [show (i+1)*3+2=i*3+2+1+1+1 by omega];simp only [ns,List.set_cons_succ];rw [ih i (by simpa using h)]
theorem rowT_put {B gb n n1 c1:Nat} {w:World} {out l:List Nd} {z0 z:Int} (h:OwnV 54 3 w B (some ⟨gb,0,none⟩) n1 c1 (ns (out++⟨3,0,z0⟩::l))) (hn:out.length=n) (hn1:(out++⟨3,0,z0⟩::l).length=n1) :
  OwnV 54 3 (w.setCell ⟨gb,n*3+2,none⟩ (.int .i64 z)) B (some ⟨gb,0,none⟩) n1 c1 (ns (out++⟨3,0,z⟩::l))∧w.cell? ⟨gb,n*3+2,none⟩=some (.int .i64 z0)∧w.frozen? ⟨gb,n*3+2,none⟩=false∧n < n1:=by
 have hlt:n < n1:=by rw [← hn1,← hn];simp
 have hx:(out++(⟨3,0,z0⟩:Nd)::l)[n]? = some ⟨3,0,z0⟩:=by rw [← hn,List.getElem?_append_right (Nat.le_refl _),Nat.sub_self];rfl
 have h1:=OwnV.set h (n*3+2) (.int .i64 z) (by rw [ns_length];have:=(List.getElem?_eq_some_iff.1 hx).1;omega)
 rw [nsT_put _ n z _ hx,List.set_append_right _ _ (by omega),← hn,Nat.sub_self,List.set_cons_zero] at h1
 have h2:=World.ownsRow.cellAt h (n*3+2) (by omega)
 obtain ⟨hlen,he⟩:=List.getElem?_eq_some_iff.1 hx
 have h3:=(ns_get _ n hlen).2.2
 rw [h3] at h2
 have he2:(out++(⟨3,0,z0⟩:Nd)::l)[n].n=z0:=by rw [he]
 rw [he2] at h2
 exact ⟨by rw [← hn];exact h1,h2,World.ownsRow.frozenAt h _,hlt⟩
end Go.Proofs.YtfmndmhjjbeokaaGreatDoor
namespace Go.Proofs.YtfmndmhjjbeokaaGreatDoor
set_option maxRecDepth 100000
open Go.RowKit Tab Txt
set_option linter.unusedSimpArgs false
set_option linter.unusedVariables false
namespace Txt
theorem numS_lt {m:Nat} {s:List UInt8} {x:Nat×List UInt8} (h:numS m s=some x):x.2.length < s.length:=by
 have hl:∀ (s:List UInt8) (n:Nat) (x:Nat×List UInt8),n≠0∨True→numL m n s=some x→x.2.length≤s.length:=fun s n x _ h=>numL_le m s n x h
 cases s with
 | nil=>cases h
 | cons c r =>
  rw [numS_cons] at h
  split at h
  ·injection h with h;rw [← h];simp
  ·rw [numL_cons] at h
   split at h
   ·split at h
    ·cases h
    ·have:=numL_le m r _ x h
     rw [List.length_cons]
     omega
   ·rw [if_pos rfl] at h;cases h
theorem winS_eq (whose:List UInt8→Option (Int×List UInt8)) (s:List UInt8):winS whose s=(whose s).bind fun p=>(takeB 58 p.2).bind fun r=>(numZ lim40 r).bind fun n=>some ([(⟨1,p.1,n.1⟩:Nd)],n.2):=by
 unfold winS
 cases whose s with
 | none=>rfl
 | some p =>
  dsimp only
  rw [Option.bind_some]
  cases takeB 58 p.2 with
  | none=>rfl
  | some r =>
   dsimp only
   rw [Option.bind_some]
   unfold numZ
   cases numS lim40 r with
   | none=>rfl
   | some n=>rfl
theorem idl_eq (s:List UInt8):((numS lim40 s).map fun x=>([(⟨2,0,x.1⟩:Nd)],x.2))=(numZ lim40 s).bind fun n=>some ([(⟨2,0,n.1⟩:Nd)],n.2):=by
 unfold numZ
 cases numS lim40 s with
 | none=>rfl
 | some n=>rfl
theorem repS_eq (f:Nat→List UInt8→Option (List Nd×List UInt8)) (rm:Nat) (s:List UInt8):repS f rm s=(numZ lim40 s).bind fun v=>(takeB 40 v.2).bind fun s2=>(f rm s2).bind fun x=>(takeB 41 x.2).bind fun s4=>some ((⟨4,0,v.1⟩:Nd)::x.1,s4):=by
 unfold repS numZ
 cases numS lim40 s with
 | none=>rfl
 | some v =>
  dsimp only
  show _=(takeB 40 v.2).bind _
  cases takeB 40 v.2 with
  | none=>rfl
  | some s2 =>
   dsimp only
   rw [Option.bind_some]
   cases f rm s2 with
   | none=>rfl
   | some x =>
    dsimp only
    rw [Option.bind_some]
    cases takeB 41 x.2 with
    | none=>rfl
    | some s4=>rfl
theorem nodeS_rds {whose:List UInt8→Option (Int×List UInt8)} (hw:∀ s p,whose s=some p→p.2.length≤s.length):∀ lv,Rds (nodeS whose lv):=by
 intro lv
 induction lv with
 | zero=>intro rm s x h;cases h
 | succ lv ih =>
  intro rm s x h
  cases rm with
  | zero=>cases h
  | succ rm =>
   cases s with
   | nil=>cases h
   | cons c s =>
    change stepS whose (nodeS whose lv) (rm+1) (c::s)=some x at h
    rw [stepS_cons] at h
    rw [List.length_cons]
    split at h
    ·unfold winS at h
     split at h
     ·cases h
     ·rename_i p hp
      split at h
      ·cases h
      ·rename_i r hr
       have h1:=hw s p hp
       have h2:=congrArg List.length (takeB_some hr)
       rw [List.length_cons] at h2
       cases hn:numS lim40 r with
       | none=>rw [hn] at h;cases h
       | some v =>
        rw [hn] at h
        injection h with h
        have h3:=numS_lt hn
        rw [← h]
        refine ⟨?_,?_,?_⟩
        ·show v.2.length < _;omega
        ·show 1≤_;omega
        ·show 0 < 1;omega
    ·split at h
     ·cases hn:numS lim40 s with
      | none=>rw [hn] at h;cases h
      | some v =>
       rw [hn] at h
       injection h with h
       have h3:=numS_lt hn
       rw [← h]
       refine ⟨?_,?_,?_⟩
       ·show v.2.length < _;omega
       ·show 1≤_;omega
       ·show 0 < 1;omega
     ·split at h
      ·have:=seqT_len ih h
       exact ⟨by omega,this.2.1,this.2.2⟩
      ·split at h
       ·unfold repS at h
        split at h
        ·cases h
        ·rename_i v hv
         have h3:=numS_lt hv
         split at h
         ·cases h
         ·rename_i s2 hs2
          have h2:=congrArg List.length (takeB_some hs2)
          rw [List.length_cons] at h2
          split at h
          ·cases h
          ·rename_i y hy
           have h4:=ih _ _ _ hy
           cases h5:takeB 41 y.2 with
           | none=>rw [h5] at h;cases h
           | some s4 =>
            rw [h5] at h
            injection h with h
            have h6:=congrArg List.length (takeB_some h5)
            rw [List.length_cons] at h6
            rw [← h]
            refine ⟨?_,?_,?_⟩
            ·show s4.length < _;omega
            ·show y.1.length+1≤_;omega
            ·show 0 < y.1.length+1;omega
       ·cases h
def seqMore (f:Nat→List UInt8→Option (List Nd×List UInt8)) (rm k:Nat) (l:List Nd) (s:List UInt8):Option (List Nd×List UInt8):=match f (rm - l.length) s with
 | none=>none
 | some x=>match kidsR f (x.2.length+1) (rm - l.length - x.1.length) x.2 with
  | none=>none
  | some y=>(takeB 41 y.2.2).map fun s4=>(⟨3,0,((k+1+y.2.1:Nat):Int)⟩::(l++(x.1++y.1)),s4)
def seqEnd (k:Nat) (l:List Nd) (s:List UInt8):Option (List Nd×List UInt8):=(takeB 41 s).map fun s4=>((⟨3,0,(k:Int)⟩:Nd)::l,s4)
theorem seqT_more (f:Nat→List UInt8→Option (List Nd×List UInt8)) (rm:Nat) (s:List UInt8):seqT f rm s=(takeB 40 s).bind (seqMore f rm 0 []):=by
 unfold seqT
 cases takeB 40 s with
 | none=>rfl
 | some s1 =>
  show _=seqMore f rm 0 [] s1
  unfold seqMore
  dsimp only
  rw [show rm - ([]:List Nd).length=rm from rfl]
  cases f rm s1 with
  | none=>rfl
  | some x =>
   dsimp only
   cases kidsR f (x.2.length+1) (rm - x.1.length) x.2 with
   | none=>rfl
   | some y=>dsimp only;rw [show y.2.1+1=0+1+y.2.1 by omega,List.nil_append]
theorem seq_next {f:Nat→List UInt8→Option (List Nd×List UInt8)} {rm k:Nat} {l l6:List Nd} {R:Option (List Nd×List UInt8)} {st st6:Option (List UInt8)} (hf:Rds f) (h:R=st.bind (seqMore f rm k l)) (hg:Got (st.bind (f (rm - l.length))) l6 st6) :
  (∀ r,st6.bind (takeB 44)=some r→R=(some r).bind (seqMore f rm (k+1) (l++l6)))∧(st6.bind (takeB 44)=none→R=st6.bind (seqEnd (k+1) (l++l6))):=by
 obtain ⟨e1,e2⟩:=hg
 cases st with
 | none =>
  rw [show (none:Option (List UInt8)).bind (f (rm - l.length))=none from rfl] at e1
  rw [e1]
  exact ⟨fun r hr=>(by cases hr),fun _=>h⟩
 | some s =>
  rw [Option.bind_some] at e1 e2 h
  unfold seqMore at h
  cases hx:f (rm - l.length) s with
  | none =>
   rw [hx] at e1 h
   rw [e1]
   exact ⟨fun r hr=>(by cases hr),fun _=>h⟩
  | some x =>
   rw [hx] at e1 h
   have hl6:=e2 x hx
   have e1:st6=some x.2:=e1
   rw [e1]
   dsimp only at h
   have hlen:=hf _ _ _ hx
   refine ⟨fun r hr=>?_,fun hr=>?_⟩
   ·rw [Option.bind_some] at hr ⊢
    rw [kidsR_succ,hr] at h
    dsimp only at h
    unfold seqMore
    rw [List.length_append,← Nat.sub_sub,hl6]
    cases hy:f (rm - l.length - x.1.length) r with
    | none=>rw [hy] at h;exact h
    | some y =>
     rw [hy] at h
     dsimp only at h ⊢
     have hr2:=congrArg List.length (takeB_some hr)
     rw [List.length_cons] at hr2
     have hlen2:=hf _ _ _ hy
     rw [kidsR_fuel hf x.2.length (y.2.length+1) _ _ (by omega) (Nat.lt_succ_self _)] at h
     cases hz:kidsR f (y.2.length+1) (rm - l.length - x.1.length - y.1.length) y.2 with
     | none=>rw [hz] at h;exact h
     | some z =>
      rw [hz] at h
      dsimp only at h ⊢
      rw [h,show k+1+(z.2.1+1)=k+1+1+z.2.1 by omega,List.append_assoc]
   ·rw [Option.bind_some] at hr ⊢
    rw [kidsR_succ,hr] at h
    dsimp only at h
    unfold seqEnd
    rw [h,hl6,List.append_nil,show k+1+0=k+1 from rfl]
end Txt
end Go.Proofs.YtfmndmhjjbeokaaGreatDoor
