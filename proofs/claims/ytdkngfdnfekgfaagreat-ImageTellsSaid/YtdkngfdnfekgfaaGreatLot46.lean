import Derived.Test.YtdkngfdnfekgfaaGreatLot44
import Derived.Test.YtdkngfdnfekgfaaGreatLot45
set_option maxHeartbeats 8000000
set_option maxRecDepth 100000
set_option linter.unusedSimpArgs false
set_option linter.unusedVariables false
namespace Go.Proofs.YtdkngfdnfekgfaaGreat
open Go.RowKit Tab
section
variable {σ:Type} {R:Rdr σ} {emb:List UInt8→σ}
end
theorem Img.wax{l:List UInt8}{x:Cf}(h:Img l x):l=Crc.seal4 (horaB++confE (coreX x)):=by rw[← h.is,bytesB_E h.len]
theorem img_nine{l:List UInt8}{x:Cf}(h:Img l x):9≤l.length:=by
 rw[h.wax,Crc.seal4_length,List.length_append];have h1:1≤(confE (coreX x)).length:=by
  unfold confE;rw[List.length_append,Num.enc_length];omega
 have h2:horaB.length=4:=rfl;omega
theorem img_of{w:World}{y:Cf}(h:CfR w y)(hz:(whF y).1=0)(hm:∀ x∈y.C,0≤x.max∧x.max≤4294967295):Img (imB y) y:=⟨RiX.of hz,LenX.of h,hm,NbX.of h,by unfold imB;rw[if_pos hz]⟩
theorem within_row(n:Int)(m:Nat)(w:World)(hm:1≤m)(hm2:m≤140737488351232):Calls Tryz.prog 15 #[.int .i64 n,.int .i64 0,.int .i64 ((m:Int) - 1)] w (fun e w'=>∃ k:Nat,k < m∧e=.returned (.int .i64 k)∧w=w'):=by
 have h:=within_any n (m - 1) w (by omega);rw[show ((m - 1:Nat):Int)=(m:Int) - 1 from by omega] at h;exact h.mono fun e w' ⟨k,h1,h2,h3⟩=>⟨k,by omega,h2,h3⟩
def RfR(b g:Nat)(s:List UInt8×Bool)(w:World):Prop:=∃ v,OwnV 96 2 w b (some ⟨g,0,none⟩) 1 1 [v,.bool s.2]∧BySl b v s.1 w
structure RpR(b g:Nat)(s:List UInt8×Bool)(w w':World):Prop where
 r:RfR b g s w'
 gb:w.grownBy w' (some g)
section
variable {b g:Nat} {s t:List UInt8×Bool} {w w1 w':World}
theorem RfR.on{S:Nat→Prop}(h:RfR b g s w)(hk:KpS S w w')(hg:¬ S g)(hS:∀ k,S k→b≤k):RfR b g s w':=by
 obtain⟨v,h1,h2⟩:=h;have hz:=h1.obk_ge (b:=g) rfl;exact⟨v,hk.own h1 fun k e=>by injection e with e;subst e;exact hg,h2.keep fun p hp=>hk.cell (by omega) fun e=>by have:=hS _ e;omega⟩
theorem RfR.bel(h:RfR b g s w)(hb:Below w.heap.size w w'):RfR b g s w':=h.on (S:=fun _=>False) (KpS.bel hb) (fun e=>e) (fun _ e=>e.elim)
theorem RpR.trans(h:RpR b g s w w1)(k:RpR b g t w1 w'):RpR b g t w w':=⟨k.r,gb_trans h.gb k.gb⟩
theorem RpR.own{E z B n c:Nat}{A:Option Addr}{l:List Value}(h:RpR b g t w w')(hr:RfR b g s w)(ho:OwnV E z w B A n c l)(hE:E≠96):OwnV E z w' B A n c l:=by
 obtain⟨v,h1,_⟩:=hr;exact KpS.row h.gb ho h1 hE
theorem RfR.put(h:RfR b g s w)(hb:Below w.heap.size w w1){v:Value}{x:List UInt8}(hv:BySl b v x w1):RpR b g (x,s.2) w (w1.setCell ⟨g,0,none⟩ v):=by
 obtain⟨u,h1,_⟩:=h;have h2:=OwnV.below h1 rfl hb;have hz:=h1.obk_ge (b:=g) rfl;refine⟨⟨v,h2.set 0 v (by show 0 < 2;omega),hv.keep fun p hp=>?_⟩,gb_set (gb_bl (gb_refl _ _) hb) 0 v⟩;exact((Below.refl b w1).setCell (p:=⟨g,0,none⟩) hz.1 v).cell hp
theorem RfR.fell(h:RfR b g s w)(hb:Below w.heap.size w w1):RpR b g (s.1,true) w (w1.setCell ⟨g,1,none⟩ (.bool true)):=by
 obtain⟨u,h1,hv⟩:=h;have h2:=OwnV.below h1 rfl hb;have hz:=h1.obk_ge (b:=g) rfl;refine⟨⟨u,h2.set 1 (.bool true) (by show 1 < 2;omega),hv.keep fun p hp=>?_⟩,gb_set (gb_bl (gb_refl _ _) hb) 1 _⟩;exact(((Below.refl b w1).setCell (p:=⟨g,1,none⟩) hz.1 (.bool true)).cell hp).trans (hb.cell (by omega))
theorem RfR.cells(h:RfR b g s w):∃ v,(∀ V,Below w.heap.size w V→V.cell? ⟨g,0,none⟩=some v∧V.cell? ⟨g,1,none⟩=some (.bool s.2)∧V.frozen? ⟨g,0,none⟩=false∧V.frozen? ⟨g,1,none⟩=false)∧BySl b v s.1 w∧b≤g∧g < w.heap.size:=by
 obtain⟨v,h1,h2⟩:=h;exact⟨v,fun V hV=>⟨World.ownsRow.cellAt (OwnV.below h1 rfl hV) 0 (by omega),World.ownsRow.cellAt (OwnV.below h1 rfl hV) 1 (by omega),World.ownsRow.frozenAt (OwnV.below h1 rfl hV) 0,World.ownsRow.frozenAt (OwnV.below h1 rfl hV) 1⟩,h2,h1.obk_ge (b:=g) rfl⟩
end
theorem rnum_any{b g:Nat}{s:List UInt8×Bool}{w:World}(h:RfR b g s w):Calls Tryz.prog 49 #[.pointer (some ⟨g,0,none⟩)] w (fun e w'=>e=.returned (.int .i64 (numR s).1)∧RpR b g (numR s).2 w w'):=by
 obtain⟨v,hcl,hv,hz1,hz2⟩:=h.cells;obtain⟨A,n,c,rfl,hr,hc,hn,hA0⟩:=hv.is;obtain⟨m0,m1,f0,f1⟩:=hcl w (Below.refl _ _);have HG:=hid (rget_any A n c s.1 w (hr.more (by omega)) (by omega) hc);have hkk:(Num.dec s.1).2≤n:=by
  have h1:=hr.1;have h2:=(Num.dec_bounds s.1).2.1;omega
 have HFEL:Hid (∀ w1,Below w.heap.size w w1→(s.2=true∨(Num.dec s.1).2=0)→(.returned (.int .i64 0):Ending)=.returned (.int .i64 (numR s).1)∧RpR b g (numR s).2 w (w1.setCell ⟨g,1,none⟩ (.bool true))):=hid fun w1 hb h1=>by
  rw[show numR s=(0,s.1,true) from if_pos h1];exact⟨rfl,h.fell hb⟩
 have HPUT:Hid (∀ w1 A',Below w.heap.size w w1→(∀ ad,A=some ad→(Num.dec s.1).2 < n→A'=some (ad.add (Num.dec s.1).2))→(A'=none→c - (Num.dec s.1).2=0)→s.2=false→(Num.dec s.1).2≠0→(.returned (.int .i64 ((Num.dec s.1).1)):Ending)=.returned (.int .i64 (numR s).1)∧RpR b g (numR s).2 w (w1.setCell ⟨g,0,none⟩ (.slice A' (n - (Num.dec s.1).2) (c - (Num.dec s.1).2)))):=hid fun w1 A' hb h1 h2 h3 h4=>by
  rw[show numR s=((Num.dec s.1).1,s.1.drop (Num.dec s.1).2,false) from if_neg (by rw[h3];simpa using h4)];have:=h.put hb (BySl.drop (hr.below (hb.mono (by omega))) hc hn hkk h1 h2);rw[h3] at this;exact⟨rfl,this⟩
 have HCL:=hid hcl;unfold Got at HG;generalize (Num.dec s.1).1=z at HG HPUT;generalize (Num.dec s.1).2=k at HG hkk HPUT HFEL;generalize numR s=t at HPUT HFEL ⊢;generalize hf:s.2=f at m1 HFEL HPUT HCL;clear hcl hv hr h hf;have hkc:k≤c:=by omega
 cases f with
 | true =>
  go_enter Tryz.func49,Tryz.ntmps49;go_wp2_with (go_at_call 75;refine HG.out.mono ?_;rintro e w1⟨rfl,hb1⟩;obtain⟨q0,q1,q2,q3⟩:=HCL.out w1 hb1);go_ret;exact HFEL.out _ hb1 (.inl (by simp))
 | false =>
  by_cases hk0:k=0
  ·subst hk0;go_enter Tryz.func49,Tryz.ntmps49;go_wp2_with (go_at_call 75;refine HG.out.mono ?_;rintro e w1⟨rfl,hb1⟩;obtain⟨q0,q1,q2,q3⟩:=HCL.out w1 hb1);go_ret;exact HFEL.out _ hb1 (.inr (by simp))
  have hki:((k:Int) == 0)=false:=by rw[beq_eq_false_iff_ne];omega
  cases A with
  | none =>
   obtain rfl:c=0:=hA0 rfl;exact absurd (by omega:k=0) hk0
  | some ad =>
   by_cases hck:c=k
   ·obtain rfl:n=k:=by omega
    subst hck;go_enter Tryz.func49,Tryz.ntmps49;go_wp2_with (go_at_call 75;refine HG.out.mono ?_;rintro e w1⟨rfl,hb1⟩;obtain⟨q0,q1,q2,q3⟩:=HCL.out w1 hb1);go_ret;have:=HPUT.out _ (some ad) hb1 (fun _ _ e=>absurd e (by omega)) (fun e=>by cases e) (by simp) hk0;simpa using this
   go_enter Tryz.func49,Tryz.ntmps49;go_wp2_with (go_at_call 75;refine HG.out.mono ?_;rintro e w1⟨rfl,hb1⟩;obtain⟨q0,q1,q2,q3⟩:=HCL.out w1 hb1);go_ret;exact HPUT.out _ _ hb1 (fun _ e _=>by injection e with e;rw[e]) (fun e=>by cases e) (by simp) hk0
theorem rstr_any{b g:Nat}{s:List UInt8×Bool}{w:World}(h:RfR b g s w):Calls Tryz.prog 74 #[.pointer (some ⟨g,0,none⟩),.int .i64 12] w (fun e w'=>e=.returned (.string (strR s).1)∧RpR b g (strR s).2 w w'):=by
 obtain⟨v,hcl,hv,hz1,hz2⟩:=h.cells;obtain⟨A,n,c,rfl,hr,hc,hn,hA0⟩:=hv.is;obtain⟨m0,m1,f0,f1⟩:=hcl w (Below.refl _ _);have HG:=hid (rcut_any A n c s.1 12 w (hr.more (by omega)) (by omega) hc);have hkk:(Num.cut 12 s.1).2≤n:=by
  have h1:=hr.1;have h2:=cut_le s.1;omega
 have HFEL:Hid (∀ w1,Below w.heap.size w w1→(s.2=true∨(Num.cut 12 s.1).2=0)→(.returned (.string ⟨#[]⟩):Ending)=.returned (.string (strR s).1)∧RpR b g (strR s).2 w (w1.setCell ⟨g,1,none⟩ (.bool true))):=hid fun w1 hb h1=>by
  rw[show strR s=(⟨#[]⟩,s.1,true) from if_pos h1];exact⟨rfl,h.fell hb⟩
 have HPUT:Hid (∀ w1 A',Below w.heap.size w w1→(∀ ad,A=some ad→(Num.cut 12 s.1).2 < n→A'=some (ad.add (Num.cut 12 s.1).2))→(A'=none→c - (Num.cut 12 s.1).2=0)→s.2=false→(Num.cut 12 s.1).2≠0→(.returned (.string (str (Num.cut 12 s.1).1)):Ending)=.returned (.string (strR s).1)∧RpR b g (strR s).2 w (w1.setCell ⟨g,0,none⟩ (.slice A' (n - (Num.cut 12 s.1).2) (c - (Num.cut 12 s.1).2)))):=hid fun w1 A' hb h1 h2 h3 h4=>by
  rw[show strR s=(str (Num.cut 12 s.1).1,s.1.drop (Num.cut 12 s.1).2,false) from if_neg (by rw[h3];simpa using h4)];have:=h.put hb (BySl.drop (hr.below (hb.mono (by omega))) hc hn hkk h1 h2);rw[h3] at this;exact⟨rfl,this⟩
 have HCL:=hid hcl;unfold CutGot at HG;generalize (Num.cut 12 s.1).1=z at HG HPUT;generalize (Num.cut 12 s.1).2=k at HG hkk HPUT HFEL;generalize strR s=t at HPUT HFEL ⊢;generalize hf:s.2=f at m1 HFEL HPUT HCL;clear hcl hv hr h hf;have hkc:k≤c:=by omega
 cases f with
 | true =>
  go_enter Tryz.func74,Tryz.ntmps74;go_wp2_with (go_at_call 92;refine HG.out.mono ?_;rintro e w1⟨rfl,hb1⟩;obtain⟨q0,q1,q2,q3⟩:=HCL.out w1 hb1);go_ret;exact HFEL.out _ hb1 (.inl (by simp))
 | false =>
  by_cases hk0:k=0
  ·subst hk0;go_enter Tryz.func74,Tryz.ntmps74;go_wp2_with (go_at_call 92;refine HG.out.mono ?_;rintro e w1⟨rfl,hb1⟩;obtain⟨q0,q1,q2,q3⟩:=HCL.out w1 hb1);go_ret;exact HFEL.out _ hb1 (.inr (by simp))
  have hki:((k:Int) == 0)=false:=by rw[beq_eq_false_iff_ne];omega
  cases A with
  | none =>
   obtain rfl:c=0:=hA0 rfl;exact absurd (by omega:k=0) hk0
  | some ad =>
   by_cases hck:c=k
   ·obtain rfl:n=k:=by omega
    subst hck;go_enter Tryz.func74,Tryz.ntmps74;go_wp2_with (go_at_call 92;refine HG.out.mono ?_;rintro e w1⟨rfl,hb1⟩;obtain⟨q0,q1,q2,q3⟩:=HCL.out w1 hb1);go_ret;have:=HPUT.out _ (some ad) hb1 (fun _ _ e=>absurd e (by omega)) (fun e=>by cases e) (by simp) hk0;simpa using this
   go_enter Tryz.func74,Tryz.ntmps74;go_wp2_with (go_at_call 92;refine HG.out.mono ?_;rintro e w1⟨rfl,hb1⟩;obtain⟨q0,q1,q2,q3⟩:=HCL.out w1 hb1);go_ret;exact HPUT.out _ _ hb1 (fun _ e _=>by injection e with e;rw[e]) (fun e=>by cases e) (by simp) hk0
theorem rint_any{b g:Nat}{s:List UInt8×Bool}{w:World}(h:RfR b g s w)(lo hi:Int):Calls Tryz.prog 46 #[.pointer (some ⟨g,0,none⟩),.int .i64 lo,.int .i64 hi] w (fun e w'=>e=.returned (.int .i64 (intR lo hi s).1)∧RpR b g (intR lo hi s).2 w w'):=by
 have HG:=hid (rnum_any h);have HI:Hid (In64 (numR s).1):=hid (by
  unfold numR;split
  ·unfold In64;simp
  exact(Num.dec_bounds s.1).1)
 have HE:Hid (intR lo hi s=if (numR s).1 < lo∨hi < (numR s).1 then (0,(numR s).2.1,true) else numR s):=hid rfl;generalize intR lo hi s=t at HE ⊢;generalize numR s=q at HG HE HI;obtain⟨z,st⟩:=q;dsimp only at HG HE HI;have i1:=HI.out.1;have i2:=HI.out.2;clear h;by_cases h1:z < lo
 ·have HE1:=hid (HE.out.trans (if_pos (.inl h1)));go_enter Tryz.func46,Tryz.ntmps46;go_wp2_with (go_at_call 49;refine HG.out.mono ?_;rintro e w1⟨rfl,k1⟩;obtain⟨v1,c1,_,_,_⟩:=k1.r.cells;obtain⟨q0,q1,q2,q3⟩:=c1 w1 (Below.refl _ _));go_ret;rw[HE1.out];exact⟨rfl,k1.trans (k1.r.fell (Below.refl _ _))⟩
 by_cases h2:hi < z
 ·have HE1:=hid (HE.out.trans (if_pos (.inr h2)));go_enter Tryz.func46,Tryz.ntmps46;go_wp2_with (go_at_call 49;refine HG.out.mono ?_;rintro e w1⟨rfl,k1⟩;obtain⟨v1,c1,_,_,_⟩:=k1.r.cells;obtain⟨q0,q1,q2,q3⟩:=c1 w1 (Below.refl _ _));go_ret;rw[HE1.out];exact⟨rfl,k1.trans (k1.r.fell (Below.refl _ _))⟩
 have HE1:=hid (HE.out.trans (if_neg (by omega)));go_enter Tryz.func46,Tryz.ntmps46;go_wp2_with (go_at_call 49;refine HG.out.mono ?_;rintro e w1⟨rfl,k1⟩);go_ret;rw[HE1.out];exact⟨rfl,k1⟩
theorem rdone_any{b g:Nat}{s:List UInt8×Bool}{w:World}(h:RfR b g s w):Calls Tryz.prog 50 #[.pointer (some ⟨g,0,none⟩)] w (fun e w'=>e=.returned (.bool (decide (s=([],false))))∧w=w'):=by
 obtain⟨v,hcl,hv,hz1,hz2⟩:=h.cells;obtain⟨A,n,c,rfl,hr,hc,hn,hA0⟩:=hv.is;obtain⟨m0,m1,f0,f1⟩:=hcl w (Below.refl _ _);have hl:=hr.1;obtain⟨s1,f⟩:=s;have HQ:Hid (decide ((s1,f)=([],false))=(!f && decide (n=0))):=hid (by
  dsimp only at hl;subst hl;cases f <;> cases s1 <;> simp)
 generalize decide ((s1,f)=([],false))=q at HQ ⊢;dsimp only at m1;clear hcl hv hr h hl;cases f with
 | true =>
  have HE:=hid HQ.out;go_enter Tryz.func50,Tryz.ntmps50;go_wp2_with fail;go_ret;exact⟨by rw[HE.out];rfl,rfl⟩
 | false =>
  have HE:=hid HQ.out;by_cases h0:n=0
  ·subst h0;go_enter Tryz.func50,Tryz.ntmps50;go_wp2_with fail;go_ret;exact⟨by rw[HE.out];rfl,rfl⟩
  have hi:((n:Int) == 0)=false:=by rw[beq_eq_false_iff_ne];omega
  have HE:Hid (q=false):=hid (by rw[HQ.out,decide_eq_false h0];rfl);go_enter Tryz.func50,Tryz.ntmps50;go_wp2_with fail;go_ret;exact⟨by rw[HE.out];rfl,rfl⟩
theorem RfR.ge{b g:Nat}{s:List UInt8×Bool}{w:World}(h:RfR b g s w):b≤w.heap.size:=by
 obtain⟨v,h1,_⟩:=h;have hz:=h1.obk_ge (b:=g) rfl;omega
theorem RfR.set{b g g3 B n:Nat}{s:List UInt8×Bool}{w:World}{T:Nat}{l:List Value}(h:RfR b g s w)(ho:OwnV T n w B (some ⟨g3,0,none⟩) 1 1 l)(hT:T≠96)(hb:b≤B)(k:Nat)(v:Value):RfR b g s (w.setCell ⟨g3,k,none⟩ v) :=
 h.on (S:=fun j=>j=g3) (KpS.set (S:=fun j=>j=g3) rfl k v) (fun e=>by
  obtain⟨vr,hr,_⟩:=h
  exact ho.ne hr hT g3 rfl (by rw[← e];rfl)) (fun j e=>by
  subst e
  exact Nat.le_trans hb (ho.obk_ge (b:=j) rfl).1)
def RDR(b g:Nat)(s0 s1 s2:List UInt8×Bool)(i j:Nat)(live:Nat→Bool)(w:World):Prop:=RfR b g (if live j=true then s2 else if live i=true then s1 else s0) w
theorem rdr_ph(b g:Nat)(s0 s1 s2:List UInt8×Bool)(i j:Nat):RdPh 96 2 b g (fun k=>k == i || k == j) (RDR b g s0 s1 s2 i j) where
 row live w h:=by
  obtain⟨v,h1,_⟩:=h;exact⟨_,h1⟩
 keep S live w w' h k h1 h2:=RfR.on h k h1 h2
 upd live k w hc h:=by
  simp only[Bool.or_eq_false_iff,beq_eq_false_iff_ne] at hc;unfold RDR;rw[upd_ne hc.1,upd_ne hc.2];exact h
theorem rdr_start{b g i j:Nat}{s0 s1 s2:List UInt8×Bool}{w:World}(h:RfR b g s0 w):RDR b g s0 s1 s2 i j (fun _=>false) w:=by unfold RDR;simpa using h
theorem intR_bd{lo hi:Int}(h1:lo≤0)(h2:0≤hi)(s:List UInt8×Bool):lo≤(intR lo hi s).1∧(intR lo hi s).1≤hi:=by
 unfold intR;split
 ·exact⟨h1,h2⟩
 omega
theorem numR_in(s:List UInt8×Bool):In64 (numR s).1:=by
 unfold numR;split
 ·unfold In64;simp
 exact(Num.dec_bounds s.1).1
theorem strR_few(s:List UInt8×Bool):(strR s).1.size≤12:=by
 unfold strR;split
 ·exact Nat.zero_le _
 exact name_few s.1
theorem rchan_any{b g:Nat}{s:List UInt8×Bool}{w:World}(h:RfR b g s w):Calls Tryz.prog 48 #[.pointer (some ⟨g,0,none⟩)] w (fun e w'=>e=.returned (cv (chanG RR s).1)∧RpR b g (chanG RR s).2 w w'):=by
 obtain⟨⟨z1,s1⟩,e1⟩:∃ q,q=intR 0 6 s:=⟨_,rfl⟩;obtain⟨⟨z2,s2⟩,e2⟩:∃ q,q=intR 0 6 s1:=⟨_,rfl⟩;obtain⟨⟨z3,s3⟩,e3⟩:∃ q,q=intR 0 1 s2:=⟨_,rfl⟩;obtain⟨⟨z4,s4⟩,e4⟩:∃ q,q=intR 0 8 s3:=⟨_,rfl⟩;obtain⟨⟨z5,s5⟩,e5⟩:∃ q,q=intR 0 4294967295 s4:=⟨_,rfl⟩;obtain⟨⟨z6,s6⟩,e6⟩:∃ q,q=numR s5:=⟨_,rfl⟩;have hE:chanG RR s=(⟨z1,z2,decide (z3=1),z4,IntKind.u32.wrap z5,z6⟩,s6):=by
  unfold chanG;show (ChV.mk (intR 0 6 s).1 (intR 0 6 (intR 0 6 s).2).1 (decide ((intR 0 1 (intR 0 6 (intR 0 6 s).2).2).1=1)) (intR 0 8 (intR 0 1 (intR 0 6 (intR 0 6 s).2).2).2).1 (IntKind.u32.wrap (intR 0 4294967295 (intR 0 8 (intR 0 1 (intR 0 6 (intR 0 6 s).2).2).2).2).1) (numR (intR 0 4294967295 (intR 0 8 (intR 0 1 (intR 0 6 (intR 0 6 s).2).2).2).2).2).1,(numR (intR 0 4294967295 (intR 0 8 (intR 0 1 (intR 0 6 (intR 0 6 s).2).2).2).2).2).2)=_;rw[← e1];dsimp only;rw[← e2];dsimp only;rw[← e3];dsimp only;rw[← e4];dsimp only;rw[← e5];dsimp only;rw[← e6]
 rw[hE,IntKind.wrap_u32'];have HC1:=hid fun V (h:RfR b g s V)=>rint_any h 0 6;have HC2:=hid fun V (h:RfR b g s1 V)=>rint_any h 0 6;have HC3:=hid fun V (h:RfR b g s2 V)=>rint_any h 0 1;have HC4:=hid fun V (h:RfR b g s3 V)=>rint_any h 0 8;have HC5:=hid fun V (h:RfR b g s4 V)=>rint_any h 0 4294967295;have HC6:=hid fun V (h:RfR b g s5 V)=>rnum_any h;rw[← e1] at HC1;rw[← e2] at HC2;rw[← e3] at HC3;rw[← e4] at HC4;rw[← e5] at HC5;rw[← e6] at HC6;have hb0:=bl1 w (.cells #[.int .i64 0,.int .i64 0,.bool false,.int .i64 0,.int .u32 0,.int .i64 0] 63);have HO:=hid (ownV_lit w 63 6 w.heap.size #[.int .i64 0,.int .i64 0,.bool false,.int .i64 0,.int .u32 0,.int .i64 0] 1 rfl (Nat.le_refl _) (by unfold maxLen;omega));have HS:=hid (show RfR b g s _ from h.bel hb0);have HB:=hid hb0;have HBW:=hid h.ge;clear hE e1 e2 e3 e4 e5 e6 hb0 h;go_enter Tryz.func48,Tryz.ntmps48;go_upto_region 1 with fail;generalize w.alloc (.cells #[.int .i64 0,.int .i64 0,.bool false,.int .i64 0,.int .u32 0,.int .i64 0] 63)=W0 at HS HO HB ⊢;obtain⟨g2,hg2⟩:∃ g,g=w.heap.size:=⟨_,rfl⟩;rw[← hg2] at HO ⊢;have HG2:=hid hg2;clear hg2;have HLT:Hid (w.heap.size≤g2):=hid (Nat.le_of_eq HG2.out.symm);go_upto_region 2 with (go_at_call 46;refine(HC1.out _ HS.out).mono ?_;rintro e w1⟨rfl,q1⟩);have hb3:=bl1 w1 (.cells #[.int .i64 z1,.int .i64 0,.bool false,.int .i64 0,.int .u32 0,.int .i64 0] 63);have hr3:=ownV_lit w1 63 6 w1.heap.size #[.int .i64 z1,.int .i64 0,.bool false,.int .i64 0,.int .u32 0,.int .i64 0] 1 rfl (Nat.le_refl _) (by unfold maxLen;omega);have HRS:=hid (OwnV.below (q1.own HS.out HO.out (by decide)) rfl hb3);have HQ:=hid (q1.r.bel hb3);have HG:=hid (gb_lay HB.out (gb_bl q1.gb hb3));have hlt:g2 < w1.heap.size:=Nat.lt_of_lt_of_le (HO.out.obk_ge (b:=g2) rfl).2 q1.gb.size;generalize w1.alloc (.cells #[.int .i64 z1,.int .i64 0,.bool false,.int .i64 0,.int .u32 0,.int .i64 0] 63)=wx at hr3 HRS HQ HG ⊢;obtain⟨g3,hg3⟩:∃ g,g=w1.heap.size:=⟨_,rfl⟩;rw[← hg3] at hr3 hlt ⊢;have HLT:Hid (w.heap.size≤g3∧g2 < g3):=hid (by have:=HG2.out;omega);have HR:=hid (hr3.weak (show w.heap.size≤g3 by have:=HG2.out;omega));clear hb3 hr3 q1 hlt hg3 HO HS;go_upto_region 3 with (go_at_call 46;refine(HC2.out _ HQ.out).mono ?_;rintro e w1⟨rfl,q1⟩;have r1:=q1.own HQ.out HR.out (by decide);have HQP:=HQ;obtain⟨c1,f1⟩:=rowf r1 1 _ rfl);have HG:=hid (kps_gb (S:=fun j=>j=g3) (gb_trans HG.out q1.gb) (KpS.set (S:=fun j=>j=g3) rfl 1 (.int .i64 z2)) (fun j e=>by have:=HLT.out;omega));have HQ:=hid (q1.r.set r1 (by decide) HBW.out 1 (.int .i64 z2));have HRS:=hid ((q1.own HQP.out HRS.out (by decide)).other ⟨g3,1,none⟩ (.int .i64 z2) (fun j e=>by injection e with e;injection e with e;show j≠g3;have:=HLT.out;omega));have HR:=hid (r1.set 1 (.int .i64 z2) (by simp));simp only[List.set_cons_succ,List.set_cons_zero] at HR;clear q1 r1 c1 f1 HQP;generalize w1.setCell ⟨g3,1,none⟩ (.int .i64 z2)=wx at HQ HR HG HRS ⊢;go_upto_region 4 with (go_at_call 46;refine(HC3.out _ HQ.out).mono ?_;rintro e w1⟨rfl,q1⟩;have r1:=q1.own HQ.out HR.out (by decide);have HQP:=HQ;obtain⟨c1,f1⟩:=rowf r1 2 _ rfl);have HG:=hid (kps_gb (S:=fun j=>j=g3) (gb_trans HG.out q1.gb) (KpS.set (S:=fun j=>j=g3) rfl 2 (.bool (z3 == 1))) (fun j e=>by have:=HLT.out;omega));have HQ:=hid (q1.r.set r1 (by decide) HBW.out 2 (.bool (z3 == 1)));have HRS:=hid ((q1.own HQP.out HRS.out (by decide)).other ⟨g3,2,none⟩ (.bool (z3 == 1)) (fun j e=>by injection e with e;injection e with e;show j≠g3;have:=HLT.out;omega));have HR:=hid (r1.set 2 (.bool (z3 == 1)) (by simp));simp only[List.set_cons_succ,List.set_cons_zero] at HR;clear q1 r1 c1 f1 HQP;generalize w1.setCell ⟨g3,2,none⟩ (.bool (z3 == 1))=wx at HQ HR HG HRS ⊢;go_upto_region 5 with (go_at_call 46;refine(HC4.out _ HQ.out).mono ?_;rintro e w1⟨rfl,q1⟩;have r1:=q1.own HQ.out HR.out (by decide);have HQP:=HQ;obtain⟨c1,f1⟩:=rowf r1 3 _ rfl);have HG:=hid (kps_gb (S:=fun j=>j=g3) (gb_trans HG.out q1.gb) (KpS.set (S:=fun j=>j=g3) rfl 3 (.int .i64 z4)) (fun j e=>by have:=HLT.out;omega));have HQ:=hid (q1.r.set r1 (by decide) HBW.out 3 (.int .i64 z4));have HRS:=hid ((q1.own HQP.out HRS.out (by decide)).other ⟨g3,3,none⟩ (.int .i64 z4) (fun j e=>by injection e with e;injection e with e;show j≠g3;have:=HLT.out;omega));have HR:=hid (r1.set 3 (.int .i64 z4) (by simp));simp only[List.set_cons_succ,List.set_cons_zero] at HR;clear q1 r1 c1 f1 HQP;generalize w1.setCell ⟨g3,3,none⟩ (.int .i64 z4)=wx at HQ HR HG HRS ⊢;go_upto_region 6 with (go_at_call 46;refine(HC5.out _ HQ.out).mono ?_;rintro e w1⟨rfl,q1⟩;have r1:=q1.own HQ.out HR.out (by decide);have HQP:=HQ;obtain⟨c1,f1⟩:=rowf r1 4 _ rfl);have HG:=hid (kps_gb (S:=fun j=>j=g3) (gb_trans HG.out q1.gb) (KpS.set (S:=fun j=>j=g3) rfl 4 (.int .u32 (z5 % 4294967296))) (fun j e=>by have:=HLT.out;omega));have HQ:=hid (q1.r.set r1 (by decide) HBW.out 4 (.int .u32 (z5 % 4294967296)));have HRS:=hid ((q1.own HQP.out HRS.out (by decide)).other ⟨g3,4,none⟩ (.int .u32 (z5 % 4294967296)) (fun j e=>by injection e with e;injection e with e;show j≠g3;have:=HLT.out;omega));have HR:=hid (r1.set 4 (.int .u32 (z5 % 4294967296)) (by simp));simp only[List.set_cons_succ,List.set_cons_zero] at HR;clear q1 r1 c1 f1 HQP;generalize w1.setCell ⟨g3,4,none⟩ (.int .u32 (z5 % 4294967296))=wx at HQ HR HG HRS ⊢;go_upto_region 7 with (go_at_call 49;refine(HC6.out _ HQ.out).mono ?_;rintro e w1⟨rfl,q1⟩;have r1:=q1.own HQ.out HR.out (by decide);have HQP:=HQ;obtain⟨c1,f1⟩:=rowf r1 5 _ rfl);have HG:=hid (kps_gb (S:=fun j=>j=g3) (gb_trans HG.out q1.gb) (KpS.set (S:=fun j=>j=g3) rfl 5 (.int .i64 z6)) (fun j e=>by have:=HLT.out;omega));have HQ:=hid (q1.r.set r1 (by decide) HBW.out 5 (.int .i64 z6));have HRS:=hid ((q1.own HQP.out HRS.out (by decide)).other ⟨g3,5,none⟩ (.int .i64 z6) (fun j e=>by injection e with e;injection e with e;show j≠g3;have:=HLT.out;omega));have HR:=hid (r1.set 5 (.int .i64 z6) (by simp));simp only[List.set_cons_succ,List.set_cons_zero] at HR;clear q1 r1 c1 f1 HQP;generalize w1.setCell ⟨g3,5,none⟩ (.int .i64 z6)=wx at HQ HR HG HRS ⊢;go_upto_region 7 with fail;refine wp_region_lit (wpList_loadX rfl (.tmp 3) rfl rfl (agCh _) (szCh _) HR.out (wpList_storeX (l:=cc ⟨z1,z2,decide (z3=1),z4,z5 % 4294967296,z6⟩) rfl (.tmp 2) (.tmp 24) rfl rfl rfl (szCh _) HRS.out rfl (i_cc _) fun w9 ho9 hg9=>?_));go_wp2_with fail;exact bodyPost_ret (results_oneX rfl (agCh _) (szCh _) rfl ho9) rfl ⟨rfl,HQ.out.on (S:=fun j=>j=g2) (KpS.gb hg9 rfl) (fun e=>by
  obtain⟨vr,hr,_⟩:=HQ.out;exact HRS.out.ne hr (by decide) g2 rfl (by rw[← e];rfl)) (fun j e=>by have:=HBW.out;have:=HG2.out;omega),kps_gb (S:=fun j=>j=g2) HG.out (KpS.gb hg9 rfl) (fun j e=>by have:=HG2.out;omega)⟩
def KPq(Q:Int×Int):ApK (Int×Int):={ KPr Q with TR:=96,tr:=2 }
theorem kpq_g{b B g:Nat}(s0 s1:List UInt8×Bool)(Q:Int×Int)(h:b≤B):ApG (KPq Q) (fun k=>k == 4 || k == 4) (RDR b g s0 s1 s1 4 4) b g B B 6 7 9:=⟨rdr_ph _ _ _ _ _ _ _,Nat.ne_of_beq_eq_false rfl,Nat.ne_of_beq_eq_false rfl,Nat.ne_of_beq_eq_false rfl,Nat.ne_of_beq_eq_false rfl,Nat.ne_of_beq_eq_false rfl,Nat.ne_of_beq_eq_false rfl,h,h,rfl,rfl,rfl,by decide,by decide,by decide⟩
def PrtR(b g:Nat)(G:PtK×List UInt8×Bool)(w:World)(e:Ending)(w':World):Prop:=∃ y:Pq,e=.returned (pv y.1)∧PrtA G.1 w y w'∧RpR b g G.2 w w'
theorem rpart_any{b g:Nat}{s:List UInt8×Bool}{w:World}(h:RfR b g s w):Calls Tryz.prog 47 #[.pointer (some ⟨g,0,none⟩)] w (PrtR b g (partG RR s) w):=by
 obtain⟨⟨nm,s1⟩,e1⟩:∃ q,q=strR s:=⟨_,rfl⟩;obtain⟨⟨bu,s2⟩,e2⟩:∃ q,q=numR s1:=⟨_,rfl⟩;obtain⟨⟨pe,s3⟩,e3⟩:∃ q,q=numR s2:=⟨_,rfl⟩;obtain⟨⟨zf1,s4⟩,e4⟩:∃ q,q=intR 0 1 s3:=⟨_,rfl⟩;obtain⟨⟨zf2,s5⟩,e5⟩:∃ q,q=intR 0 1 s4:=⟨_,rfl⟩;obtain⟨⟨zc,s6⟩,e6⟩:∃ q,q=intR 0 3 s5:=⟨_,rfl⟩;have HEP:Hid (partG RR s=(⟨nm,bu,pe,decide (zf1=1),decide (zf2=1),(rowG (procG RR) (cntG 3 zc) s6).1,(rowG (intR 0 2) 5 (rowG (procG RR) (cntG 3 zc) s6).2).1⟩,(rowG (intR 0 2) 5 (rowG (procG RR) (cntG 3 zc) s6).2).2)):=hid (by
  unfold partG headG procsG;simp only[show RR.str=strR from rfl,show RR.num=numR from rfl,show RR.int=intR from rfl,← e1,← e2,← e3,← e4,← e5,← e6])
 have HC1:=hid fun V (h:RfR b g s V)=>rstr_any h;have HC2:=hid fun V (h:RfR b g s1 V)=>rnum_any h;have HC3:=hid fun V (h:RfR b g s2 V)=>rnum_any h;have HC4:=hid fun V (h:RfR b g s3 V)=>rint_any h 0 1;have HC5:=hid fun V (h:RfR b g s4 V)=>rint_any h 0 1;have HC6:=hid fun V (h:RfR b g s5 V)=>rint_any h 0 3;have HNF:Hid (nm.size≤12):=hid (by have:=strR_few s;rw[← e1] at this;exact this);have HIN:Hid (In64 pe):=hid (by have:=numR_in s2;rw[← e3] at this;exact this);have hzc:0≤zc∧zc≤3:=by have:=intR_bd (lo:=0) (hi:=3) (by omega) (by omega) s5;rw[← e6] at this;exact this
 rw[← e1] at HC1;rw[← e2] at HC2;rw[← e3] at HC3;rw[← e4] at HC4;rw[← e5] at HC5;rw[← e6] at HC6;generalize partG RR s=G at HEP ⊢;have hm3:=cntG_le 3 zc;have hzm:zc=(cntG 3 zc:Int):=by unfold cntG;omega
 generalize cntG 3 zc=m at HEP hm3 hzm;subst hzm;have HM3:=hid hm3;have hb0:=bl1 w (.cells #[.string ⟨#[]⟩,.int .i64 0,.int .i64 0,.bool false,.bool false,.slice none 0 0,.int .i64 0,.int .i64 0,.int .i64 0,.int .i64 0,.int .i64 0] 57);have HO:=hid (ownV_lit w 57 11 w.heap.size #[.string ⟨#[]⟩,.int .i64 0,.int .i64 0,.bool false,.bool false,.slice none 0 0,.int .i64 0,.int .i64 0,.int .i64 0,.int .i64 0,.int .i64 0] 1 rfl (Nat.le_refl _) (by unfold maxLen;omega));have HS:=hid (show RfR b g s _ from h.bel hb0);have HB:=hid hb0;have HBW:=hid h.ge;clear e1 e2 e3 e4 e5 e6 hb0 h hm3 hzc;go_enter Tryz.func47,Tryz.ntmps47;go_upto_region 1 with fail;generalize w.alloc (.cells #[.string ⟨#[]⟩,.int .i64 0,.int .i64 0,.bool false,.bool false,.slice none 0 0,.int .i64 0,.int .i64 0,.int .i64 0,.int .i64 0,.int .i64 0] 57)=W0 at HS HO HB ⊢;obtain⟨g2,hg2⟩:∃ g,g=w.heap.size:=⟨_,rfl⟩;rw[← hg2] at HO ⊢;have HG2:=hid hg2;clear hg2;go_upto_region 2 with (go_at_call 74;refine(HC1.out _ HS.out).mono ?_;rintro e w1⟨rfl,q1⟩);have hb3:=bl1 w1 (.cells #[.string nm,.int .i64 0,.int .i64 0,.bool false,.bool false,.slice none 0 0,.int .i64 0,.int .i64 0,.int .i64 0,.int .i64 0,.int .i64 0] 57);have hr3:=ownV_lit w1 57 11 w1.heap.size #[.string nm,.int .i64 0,.int .i64 0,.bool false,.bool false,.slice none 0 0,.int .i64 0,.int .i64 0,.int .i64 0,.int .i64 0,.int .i64 0] 1 rfl (Nat.le_refl _) (by unfold maxLen;omega);have HRS:=hid ((OwnV.below (q1.own HS.out HO.out (by decide)) rfl hb3).weak (Nat.le_of_eq HG2.out.symm));have HQ:=hid (q1.r.bel hb3);have HG:=hid (gb_lay HB.out (gb_bl q1.gb hb3));have hlt:g2 < w1.heap.size:=Nat.lt_of_lt_of_le (HO.out.obk_ge (b:=g2) rfl).2 q1.gb.size;generalize w1.alloc (.cells #[.string nm,.int .i64 0,.int .i64 0,.bool false,.bool false,.slice none 0 0,.int .i64 0,.int .i64 0,.int .i64 0,.int .i64 0,.int .i64 0] 57)=wx at hr3 HRS HQ HG ⊢;obtain⟨g3,hg3⟩:∃ g,g=w1.heap.size:=⟨_,rfl⟩;rw[← hg3] at hr3 hlt ⊢;have HLT:Hid (w.heap.size≤g3∧g2 < g3):=hid (by have:=HG2.out;omega);have HR:=hid (hr3.weak (show w.heap.size≤g3 by have:=HG2.out;omega));clear hb3 hr3 q1 hlt hg3 HO HS;go_upto_region 3 with (go_at_call 49;refine(HC2.out _ HQ.out).mono ?_;rintro e w1⟨rfl,q1⟩;have r1:=q1.own HQ.out HR.out (by decide);have HQP:=HQ;obtain⟨c1,f1⟩:=rowf r1 1 _ rfl);have HG:=hid (kps_gb (S:=fun j=>j=g3) (gb_trans HG.out q1.gb) (KpS.set (S:=fun j=>j=g3) rfl 1 (.int .i64 bu)) (fun j e=>by have:=HLT.out;omega));have HQ:=hid (q1.r.set r1 (by decide) HBW.out 1 (.int .i64 bu));have HRS:=hid ((q1.own HQP.out HRS.out (by decide)).other ⟨g3,1,none⟩ (.int .i64 bu) (fun j e=>by injection e with e;injection e with e;show j≠g3;have:=HLT.out;omega));have HR:=hid (r1.set 1 (.int .i64 bu) (by simp));simp only[List.set_cons_succ,List.set_cons_zero] at HR;clear q1 r1 c1 f1 HQP;generalize w1.setCell ⟨g3,1,none⟩ (.int .i64 bu)=wx at HQ HR HG HRS ⊢;go_upto_region 4 with (go_at_call 49;refine(HC3.out _ HQ.out).mono ?_;rintro e w1⟨rfl,q1⟩;have r1:=q1.own HQ.out HR.out (by decide);have HQP:=HQ;obtain⟨c1,f1⟩:=rowf r1 2 _ rfl);have HG:=hid (kps_gb (S:=fun j=>j=g3) (gb_trans HG.out q1.gb) (KpS.set (S:=fun j=>j=g3) rfl 2 (.int .i64 pe)) (fun j e=>by have:=HLT.out;omega));have HQ:=hid (q1.r.set r1 (by decide) HBW.out 2 (.int .i64 pe));have HRS:=hid ((q1.own HQP.out HRS.out (by decide)).other ⟨g3,2,none⟩ (.int .i64 pe) (fun j e=>by injection e with e;injection e with e;show j≠g3;have:=HLT.out;omega));have HR:=hid (r1.set 2 (.int .i64 pe) (by simp));simp only[List.set_cons_succ,List.set_cons_zero] at HR;clear q1 r1 c1 f1 HQP;generalize w1.setCell ⟨g3,2,none⟩ (.int .i64 pe)=wx at HQ HR HG HRS ⊢;go_upto_region 5 with (go_at_call 46;refine(HC4.out _ HQ.out).mono ?_;rintro e w1⟨rfl,q1⟩;have r1:=q1.own HQ.out HR.out (by decide);have HQP:=HQ;obtain⟨c1,f1⟩:=rowf r1 3 _ rfl);have HG:=hid (kps_gb (S:=fun j=>j=g3) (gb_trans HG.out q1.gb) (KpS.set (S:=fun j=>j=g3) rfl 3 (.bool (zf1 == 1))) (fun j e=>by have:=HLT.out;omega));have HQ:=hid (q1.r.set r1 (by decide) HBW.out 3 (.bool (zf1 == 1)));have HRS:=hid ((q1.own HQP.out HRS.out (by decide)).other ⟨g3,3,none⟩ (.bool (zf1 == 1)) (fun j e=>by injection e with e;injection e with e;show j≠g3;have:=HLT.out;omega));have HR:=hid (r1.set 3 (.bool (zf1 == 1)) (by simp));simp only[List.set_cons_succ,List.set_cons_zero] at HR;clear q1 r1 c1 f1 HQP;generalize w1.setCell ⟨g3,3,none⟩ (.bool (zf1 == 1))=wx at HQ HR HG HRS ⊢;go_upto_region 6 with (go_at_call 46;refine(HC5.out _ HQ.out).mono ?_;rintro e w1⟨rfl,q1⟩;have r1:=q1.own HQ.out HR.out (by decide);have HQP:=HQ;obtain⟨c1,f1⟩:=rowf r1 4 _ rfl);have HG:=hid (kps_gb (S:=fun j=>j=g3) (gb_trans HG.out q1.gb) (KpS.set (S:=fun j=>j=g3) rfl 4 (.bool (zf2 == 1))) (fun j e=>by have:=HLT.out;omega));have HQ:=hid (q1.r.set r1 (by decide) HBW.out 4 (.bool (zf2 == 1)));have HRS:=hid ((q1.own HQP.out HRS.out (by decide)).other ⟨g3,4,none⟩ (.bool (zf2 == 1)) (fun j e=>by injection e with e;injection e with e;show j≠g3;have:=HLT.out;omega));have HR:=hid (r1.set 4 (.bool (zf2 == 1)) (by simp));simp only[List.set_cons_succ,List.set_cons_zero] at HR;clear q1 r1 c1 f1 HQP;generalize w1.setCell ⟨g3,4,none⟩ (.bool (zf2 == 1))=wx at HQ HR HG HRS ⊢;go_wp2_with (go_at_call 46;refine(HC6.out _ HQ.out).mono ?_;rintro e w4⟨rfl,q4⟩);have HQ4:=hid q4.r;have HR4:=hid (q4.own HQ.out HR.out (by decide));have HRS4:=hid (q4.own HQ.out HRS.out (by decide));have HG4:=hid (gb_trans HG.out q4.gb);clear q4 HQ HR HRS HG HC1 HC2 HC3 HC4 HC5 HC6;go_loopw [4,5] (fun v _ wr=>∃(k j c:Nat) (A:Option Addr),k+j=m∧v=.int .i64 j∧RfR b g (rowG (procG RR) k s6).2 wr∧OwnV 57 11 wr w.heap.size (some ⟨g3,0,none⟩) 1 1 [.string nm,.int .i64 bu,.int .i64 pe,.bool (zf1 == 1),.bool (zf2 == 1),.slice A k c,.int .i64 0,.int .i64 0,.int .i64 0,.int .i64 0,.int .i64 0]∧OwnV 59 2 wr w.heap.size A k c ((rowG (procG RR) k s6).1.flatMap prc)∧OwnV 57 11 wr w.heap.size (some ⟨g2,0,none⟩) 1 1 [.string ⟨#[]⟩,.int .i64 0,.int .i64 0,.bool false,.bool false,.slice none 0 0,.int .i64 0,.int .i64 0,.int .i64 0,.int .i64 0,.int .i64 0]∧w.grownBy wr (some g)) (fun v _ _=>(intOf v).toNat)
 case atStart=>exact⟨0,m,0,none,by omega,rfl,HQ4.out,HR4.out,OwnV.nil _ _ _ _,HRS4.out,HG4.out⟩
 obtain⟨k,j,c,A,hk,rfl,hqr,hpt,hpo,hrs,hgb⟩:=hrel;obtain⟨⟨l,t⟩,hr⟩:∃ r,r=rowG (procG RR) k s6:=⟨_,rfl⟩;obtain⟨⟨ze,t1⟩,e1⟩:∃ q,q=intR 0 512 t:=⟨_,rfl⟩;obtain⟨⟨zp,t2⟩,e2⟩:∃ q,q=intR 0 255 t1:=⟨_,rfl⟩;have HE:Hid (rowG (procG RR) (k+1) s6=(l++[(ze,zp)],t2)):=hid (by
  rw[rowG_succ,← hr];unfold procG;simp only[show RR.int=intR from rfl,← e1,← e2])
 have HC7:=hid fun V (h:RfR b g t V)=>rint_any h 0 512;have HC8:=hid fun V (h:RfR b g t1 V)=>rint_any h 0 255;rw[← e1] at HC7;rw[← e2] at HC8;rw[← hr] at hqr hpo;have HRR:=hid hr.symm;dsimp only at hqr hpo;have HHL:Hid (l.length=k):=hid (by have h:(rowG (procG RR) k s6).1.length=k:=rowG_len _ _ _;rw[← hr] at h;exact h);have HQR:=hid hqr;have HPT0:=hid hpt;have HPO0:=hid hpo;have HRS0:=hid hrs;have HGB0:=hid hgb;clear hr hqr hpt hpo hrs hgb e1 e2 HQ4 HR4 HRS4 HG4;by_cases hlt:0 < j
 ·obtain⟨j,rfl⟩:∃ i,j=i+1:=⟨j - 1,by omega⟩;have hlti:(0:Int) < ((j+1:Nat):Int):=by omega
  have h3:=HM3.out;go_upto_region 10 with (go_at_call 46;refine(HC7.out _ HQR.out).mono ?_;rintro e w2⟨rfl,q2⟩);have HQ2:=hid q2.r;have HPT:=hid (q2.own HQR.out HPT0.out (by decide));have HPO:=hid (q2.own HQR.out HPO0.out (by decide));have HRS:=hid (q2.own HQR.out HRS0.out (by decide));have HGB:=hid (gb_trans HGB0.out q2.gb);have HSZ:Hid (w.heap.size≤w2.drew.heap.size):=hid HGB.out.size;have HRK:Hid (¬ (g2=g∨g2=g3∨obk A=some g2)):=hid (by
   rintro (e | e | e)
   ·obtain⟨vr,hr,_⟩:=HQ2.out;exact HRS.out.ne hr (by decide) g2 rfl (by rw[e];rfl)
   ·have:=HLT.out;omega
   exact HRS.out.ne HPO.out (by decide) g2 rfl e)
  clear q2 HPT0 HPO0 HRS0 HGB0 HQR HC7;refine Rgs.region (by kernel_rfl) (by kernel_rfl) (fun(opn:Nat) (vl:Value) (_:World)=>match opn with
    | 0=>vl=.pointer (some ⟨g3,5,none⟩)
    | 1=>vl=.slice A k c
    | 2=>vl=.int .i64 ze
    | 3=>vl=.pointer (some ⟨g,0,none⟩)
    | 4=>vl=.int .i64 zp
    | 8=>vl=.pointer (some ⟨g3,5,none⟩)
    | _=>True) (ApS (KPq (ze,zp)) (RDR b g t1 t2 t2 4 4) g w.heap.size w.heap.size g3 5 6 7 9 37 38 39 5 [.string nm,.int .i64 bu,.int .i64 pe,.bool (zf1 == 1),.bool (zf2 == 1),.slice A k c,.int .i64 0,.int .i64 0,.int .i64 0,.int .i64 0,.int .i64 0] A k c ((l.flatMap prc)) w2.drew) (ApS.start (rdr_start (HQ2.out.bel (Below.refl _ _).drew)) HPO.out HPT.out) (Rgs.steps_of ?_) ?_
  ·refine⟨?_,?_,?_,?_,?_,?_,?_,?_,?_,?_,trivial⟩<;>intro a w1 live S E D C h0 hk hX
   ·have e0:a.eval (.tmp 3)=.pointer (some ⟨g3,0,none⟩):=E 3 rfl;exact Rgs.va (.pointer (some ⟨g3,5,none⟩)) (hX.id (kpq_g t1 t2 (ze,zp) HBW.out) 0 32 _ (by decide) (by decide) rfl)
   ·have l7:=Reg.not_live C h0 (j:=7) rfl rfl;have l9:=Reg.not_live C l7 (j:=9) rfl rfl;have e0:a.eval (.tmp 32)=.pointer (some ⟨g3,5,none⟩):=D 0 rfl _ _ rfl rfl;have hc:=(rowf (hX.cel l9) 5 _ rfl).1;exact Rgs.va (.slice A k c) (hX.id (kpq_g t1 t2 (ze,zp) HBW.out) 1 33 _ (by decide) (by decide) rfl)
   ·have e0:a.eval (.tmp 5)=.int .i64 ze:=E 5 rfl;exact Rgs.va (.int .i64 ze) (hX.id (kpq_g t1 t2 (ze,zp) HBW.out) 2 34 _ (by decide) (by decide) rfl)
   ·have e0:a.eval (.tmp 0)=.pointer (some ⟨g,0,none⟩):=E 0 rfl;exact Rgs.va (.pointer (some ⟨g,0,none⟩)) (hX.id (kpq_g t1 t2 (ze,zp) HBW.out) 3 35 _ (by decide) (by decide) rfl)
   ·have d35:_=_:=D 3 rfl _ _ rfl rfl;have l5:=Reg.not_live C h0 (j:=5) rfl rfl;have l6:=Reg.not_live C l5 (j:=6) rfl rfl;have l7:=Reg.not_live C l6 (j:=7) rfl rfl;have l9:=Reg.not_live C l7 (j:=9) rfl rfl;have hr:=hX.rd;unfold RDR at hr;simp only[h0,if_true,Bool.false_eq_true,if_false] at hr;refine Rgs.call rfl (Reg.wanted_free rfl) 46 #[.pointer (some ⟨g,0,none⟩),.int .i64 0,.int .i64 255] (by have c:=Reg.consts a;generalize a.eval=ρ at *;simp[execOp,go_sem,c.1,c.2,d35]) ?_;refine(HC8.out _ hr).mono ?_;rintro e w5⟨rfl,q5⟩;exact⟨_,rfl,rfl,hX.upd (kpq_g t1 t2 (ze,zp) HBW.out) 4 36 _ (by decide) (by decide) q5.gb (by unfold RDR;simp only[Rgs.upd_self,if_true];exact q5.r),fun _ _ _ h=>h⟩
   ·have l6:=Reg.not_live C h0 (j:=6) rfl rfl;have l7:=Reg.not_live C l6 (j:=7) rfl rfl;have l9:=Reg.not_live C l7 (j:=9) rfl rfl;have d34:_=_:=D 2 rfl _ _ rfl rfl;have d36:_=_:=D 4 rfl _ _ rfl rfl;have hX2:=hX.mk' (kpq_g t1 t2 (ze,zp) HBW.out) l6 l7 l9 (by decide) (gb_refl _ _) ((kpq_g t1 t2 (ze,zp) HBW.out).rs.upd _ _ _ rfl hX.rd) (ze,zp) rfl (OwnV.nil _ _ _ _) (by rw[S];exact(by decide:37 < 51));exact Rgs.val rfl (Reg.wanted_free rfl) (.agg #[.int .i64 ze,.int .i64 zp]) (by have c:=Reg.consts a;generalize a.eval=ρ at *;simp[execOp,go_sem,c.1,c.2,d34,d36]) trivial hX2
   ·have l7:=Reg.not_live C h0 (j:=7) rfl rfl;have l9:=Reg.not_live C l7 (j:=9) rfl rfl;obtain⟨y,hy,hX2⟩:=hX.lit (kpq_g t1 t2 (ze,zp) HBW.out) (hk 5 rfl) h0 l7 l9 (by decide) (fun _=>rfl) (by rw[S];exact(by decide:38 < 51));have hy2:a.eval (.tmp 37)=.agg #[.int .i64 y.1,.int .i64 y.2]:=hy;exact Rgs.grow rfl (Reg.wanted_free rfl) (.slice (some ⟨w1.heap.size,0,none⟩) 1 1) (w1.alloc (.cells #[.int .i64 y.1,.int .i64 y.2] 59)) (by have c:=Reg.consts a;generalize a.eval=ρ at *;simp[execOp,go_sem,c.1,c.2,hy2]) trivial hX2 (fun _ _ _ h=>h)
   ·have l9:=Reg.not_live C h0 (j:=9) rfl rfl;have d0:_=_:=D 1 rfl _ _ rfl rfl;obtain⟨gb,qb,A',c',w',hrun,hX2⟩:=hX.app elPrI (kpq_g t1 t2 (ze,zp) HBW.out) (C 6 _ rfl (hk 6 rfl) 5 rfl) (hk 6 rfl) h0 l9 (by decide) (fun _=>rfl) (fun y u hu=>prc_one [y] u (by simpa [KPq,KPr] using hu)) (by omega) (by decide) (HSZ.out) (by rw[S];exact(by decide:39 < 51));refine Rgs.grow rfl (Reg.wanted_free rfl) (.slice A' (k+1:Nat) c') w' ?_ trivial hX2 (fun _ _ _ h=>h);have cc:=Reg.consts a;generalize a.eval=ρ at *;simp only[execOp,resolve,invoke,builtin,Sem.run_bind,Sem.run_pure,Result.andThen_ok,List.map_toArray,List.map_cons,List.map_nil,d0,qb,hrun]
   ·have e0:a.eval (.tmp 3)=.pointer (some ⟨g3,0,none⟩):=E 3 rfl;exact Rgs.va (.pointer (some ⟨g3,5,none⟩)) (hX.id (kpq_g t1 t2 (ze,zp) HBW.out) 8 40 _ (by decide) (by decide) rfl)
   have d0:_=_:=D 8 rfl _ _ rfl rfl;have kb:=C 7 _ rfl (hk 7 rfl) 6 rfl;obtain⟨A',c',qa,hX2⟩:=hX.sto (kpq_g t1 t2 (ze,zp) HBW.out) (C 6 _ rfl kb 5 rfl) kb (hk 7 rfl) h0 (by decide) (by simp);obtain⟨hc,hf⟩:=rowf (hX.cel h0) 5 _ rfl;exact Rgs.store rfl (Reg.wanted_free rfl) (w1.setCell ⟨g3,5,none⟩ (.slice A' (k+1:Nat) c')) (by have c:=Reg.consts a;generalize a.eval=ρ at *;simp[execOp,go_sem,c.1,c.2,d0,qa,hc,hf]) trivial hX2 (fun _ _ _ h=>h)
  intro a w4 live hs hd E D Hl hX;have hrd:=hX.rd;unfold RDR at hrd;simp only[Hl 4 (by decide),if_true] at hrd;have HKP:=hid hX.kp;obtain⟨y,A4,c4,hy,ho2,ho1,hcl⟩:=hX.fin (Hl 5 (by decide)) (Hl 7 (by decide)) (Hl 9 (by decide));have HRD:=hid hrd;have HY:=hid hy;have HO2:=hid ho2;have HO1:=hid ho1;have HCL:=hid hcl;rw[Rgs.act_ws a _ _ hs hd E [32,33,34,35,36,37,38,39,40] (by kernel_rfl)];simp only[List.foldl,List.setIfInBounds_toArray,List.set_cons_succ,List.set_cons_zero];clear E D Hl hX hrd hy ho2 ho1 hcl;generalize a.eval=ρ;clear a hs hd;obtain rfl:y=(ze,zp):=HY.out;go_wp2_with fail;go_roundw
  case rel =>
   refine⟨k+1,j,c4,A4,by omega,rfl,?_,?_,?_,?_,?_⟩
   ·rw[HE.out];exact HRD.out
   ·exact HCL.out
   ·rw[HE.out,List.flatMap_append];exact HO1.out
   ·exact HKP.out.own HRS.out fun j e=>by injection e with e;subst e;exact HRK.out
   exact kps_gb (gb_drew HGB.out) HKP.out (fun j e=>by
    rcases e with e | e | e
    ·exact .inl e
    ·have:=HLT.out;exact .inr (by omega)
    exact .inr (HPO.out.obk_ge e).1)
  simp[intOf]
 have hlti:¬ (0:Int) < (j:Int):=by omega
 have hkm:k=m:=by omega
 have hkm3:k≤3:=by have:=HM3.out;omega
 subst hkm;have HEG:Hid (G=(⟨nm,bu,pe,decide (zf1=1),decide (zf2=1),l,(rowG (intR 0 2) 5 t).1⟩,(rowG (intR 0 2) 5 t).2)):=hid (by rw[HEP.out,HRR.out]);clear HEP HRR HE HM3 HC7 HC8;go_wp2_with fail;go_loopw [6,41] (fun _ v wx=>∃ i:Nat,i≤5∧v=.int .i64 i∧RfR b g (rowG (intR 0 2) i t).2 wx∧OwnV 57 11 wx w.heap.size (some ⟨g3,0,none⟩) 1 1 ([.string nm,.int .i64 bu,.int .i64 pe,.bool (zf1 == 1),.bool (zf2 == 1),.slice A k c]++hlC (rowG (intR 0 2) i t).1)∧OwnV 59 2 wx w.heap.size A k c (l.flatMap prc)∧OwnV 57 11 wx w.heap.size (some ⟨g2,0,none⟩) 1 1 [.string ⟨#[]⟩,.int .i64 0,.int .i64 0,.bool false,.bool false,.slice none 0 0,.int .i64 0,.int .i64 0,.int .i64 0,.int .i64 0,.int .i64 0]∧w.grownBy wx (some g)) (fun _ v _=>5 - (intOf v).toNat)
 case atStart=>exact⟨0,by omega,rfl,HQR.out,HPT0.out,HPO0.out,HRS0.out,HGB0.out⟩
 obtain⟨i,hi,rfl,hqr,hpt,hpo,hrs,hgb⟩:=hrel;have hl:(rowG (intR 0 2) i t).1.length=i:=rowG_len _ _ _;obtain⟨⟨hs,u⟩,hr⟩:∃ r,r=rowG (intR 0 2) i t:=⟨_,rfl⟩;obtain⟨⟨zh,u1⟩,e1⟩:∃ q,q=intR 0 2 u:=⟨_,rfl⟩;have HE:Hid (rowG (intR 0 2) (i+1) t=(hs++[zh],u1)):=hid (by rw[rowG_succ,← hr];simp only[← e1]);have HC9:=hid fun V (h:RfR b g u V)=>rint_any h 0 2;rw[← e1] at HC9;rw[← hr] at hqr hpt hl;have HRR:=hid hr.symm;dsimp only at hqr hpt hl;have HPT2:=hid hpt;have HPO2:=hid hpo;have HRS2:=hid hrs;have HGB2:=hid hgb;have HQ2:=hid hqr;have HHL2:=hid hl;clear hr hqr hpt hpo hrs hgb hl e1;by_cases hlt:i < 5
 ·have hlti:(i:Int) < 5:=by omega
  have HNW:Hid (∀ w2,RpR b g u1 wr w2→w2.cell? ⟨g3,6+i,none⟩=some (.int .i64 0)∧w2.frozen? ⟨g3,6+i,none⟩=false):=hid fun w2 q=>rowf (q.own HQ2.out HPT2.out (by decide)) (6+i) _ (by
   rw[List.getElem?_append_right (by show 6≤_;omega),show 6+i - ([.string nm,.int .i64 bu,.int .i64 pe,.bool (zf1 == 1),.bool (zf2 == 1),.slice A k c]:List Value).length=i by show 6+i - 6=i;omega];exact hlC_get HHL2.out hlt)
  go_wp2_with (go_at_call 46;refine(HC9.out _ HQ2.out).mono ?_;rintro e w2⟨rfl,q2⟩;obtain⟨hc,hf⟩:=HNW.out w2 q2);go_roundw
  case rel =>
   have hp2:=q2.own HQ2.out HPT2.out (by decide);have ho2:=q2.own HQ2.out HPO2.out (by decide);have hr2:=q2.own HQ2.out HRS2.out (by decide);have h36:=HLT.out;refine⟨i+1,by omega,by go_num,?_,?_,?_,?_,?_⟩
   ·rw[HE.out];exact q2.r.set hp2 (by decide) HBW.out _ _
   ·rw[HE.out];have h:=hp2.set (6+i) (.int .i64 zh) (by rw[List.length_append];show 6+i < 6+_;unfold hlC;rw[List.length_map,List.length_append,List.length_replicate];have:=HHL2.out;omega);rw[List.set_append_right _ _ (by show 6≤_;omega),show 6+i - ([.string nm,.int .i64 bu,.int .i64 pe,.bool (zf1 == 1),.bool (zf2 == 1),.slice A k c]:List Value).length=i by show 6+i - 6=i;omega,hlC_set HHL2.out hlt] at h;exact h
   ·exact ho2.other _ _ (ho2.ne' hp2 (by decide))
   ·exact hr2.other _ _ (fun j e=>by injection e with e;injection e with e;show j≠g3;omega)
   exact kps_gb (S:=fun j=>j=g3) (gb_trans HGB2.out q2.gb) (KpS.set (S:=fun j=>j=g3) rfl _ _) (fun j e=>by omega)
  simp[intOf];omega
 have hlti:¬ (i:Int) < 5:=by omega
 obtain rfl:i=5:=by omega
 obtain⟨a0,a1,a2,a3,a4,rfl⟩:=five HHL2.out;go_upto_region 16 with fail;refine wp_region_lit (wpList_loadX rfl (.tmp 3) rfl rfl (agPt _) (szPt _) HPT2.out (wpList_storeX (l:=[.string nm,.int .i64 bu,.int .i64 pe,.bool (zf1 == 1),.bool (zf2 == 1),.slice A k c,.int .i64 a0,.int .i64 a1,.int .i64 a2,.int .i64 a3,.int .i64 a4]) rfl (.tmp 2) (.tmp 50) rfl rfl rfl (szPt _) HRS2.out rfl (i_pcq (⟨nm,bu,pe,zf1 == 1,zf2 == 1,A,k,c,a0,a1,a2,a3,a4⟩,[])) fun w9 ho9 hg9=>?_));go_wp2_with fail;refine bodyPost_ret (results_oneX rfl (agPt _) (szPt _) rfl ho9) rfl ?_;refine⟨(⟨nm,bu,pe,zf1 == 1,zf2 == 1,A,k,c,a0,a1,a2,a3,a4⟩,l),rfl,⟨?_,⟨HHL.out,hkm3⟩,⟨HIN.out,HNF.out⟩,?_⟩,?_,?_⟩
 ·rw[HEG.out,HRR.out];rfl
 ·exact OwnV.keep' HPO2.out fun j e=>hg9.block j (HPO2.out.older e) fun e2=>HPO2.out.ne HRS2.out (by decide) j e (by rw[e2];rfl)
 ·rw[HEG.out,HRR.out];exact HQ2.out.on (S:=fun j=>j=g2) (KpS.gb hg9 rfl) (fun e=>by
   obtain⟨vr,hr,_⟩:=HQ2.out;exact HRS2.out.ne hr (by decide) g2 rfl (by rw[← e];rfl)) (fun j e=>by have:=HBW.out;have:=HG2.out;omega)
 exact kps_gb (S:=fun j=>j=g2) HGB2.out (KpS.gb hg9 rfl) (fun j e=>by have:=HG2.out;omega)
end Go.Proofs.YtdkngfdnfekgfaaGreat
