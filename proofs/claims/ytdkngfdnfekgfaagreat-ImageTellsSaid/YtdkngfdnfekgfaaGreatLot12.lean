import Derived.IntWalk
import Derived.BigQuiet
import Derived.Deep.QuietTactic
import Derived.Test.YtdkngfdnfekgfaaGreatLot5
import Derived.StillTailTactics
set_option maxHeartbeats 4000000
set_option maxRecDepth 100000
set_option linter.unusedSimpArgs false
set_option linter.unusedVariables false
namespace Go.Proofs.YtdkngfdnfekgfaaGreat
open Go.RowKit
def wv(n:Int)(m:Nat):Int:=if 0≤n∧n≤m then n else if n.tmod (m+1) < 0 then n.tmod (m+1)+m+1 else n.tmod (m+1)
theorem wv_bd(n:Int)(m:Nat):0≤wv n m∧wv n m≤m:=by
 unfold wv;split
 ·omega
 by_cases h:0≤n
 ·have e:n.tmod ((m:Int)+1)=n % ((m:Int)+1):=Int.tmod_eq_emod_of_nonneg h;have h2:=Int.emod_nonneg n (b:=(m:Int)+1) (by omega);have h3:=Int.emod_lt_of_pos n (b:=(m:Int)+1) (by omega);rw[e,if_neg (by omega)];omega
 obtain⟨h2,h3⟩:=tmod_low n m (by omega);split <;> omega
theorem within_eq(n:Int)(m:Nat)(w:World)(hm:m < 4611686018427387904):
  Calls Tryz.prog 15 #[.int .i64 n,.int .i64 0,.int .i64 m] w fun e w'=>e=.returned (.int .i64 (wv n m))∧w'=w:=by
 generalize hv:wv n m=v;have HV:=hid hv;clear hv;have hm0:(0:Int)≤(m:Int):=Int.natCast_nonneg _;by_cases h0:0≤n
 ·by_cases h1:n≤(m:Int)
  ·go_enter Tryz.func15,Tryz.ntmps15;go_wp2;go_ret;exact⟨by rw[← HV.out,wv,if_pos ⟨h0,h1⟩];rfl,rfl⟩
  have h2:=Int.emod_nonneg n (b:=(m:Int)+1) (by omega);have h3:n % ((m:Int)+1)≤m:=by have:=Int.emod_lt_of_pos n (b:=(m:Int)+1) (by omega);omega
  go_enter Tryz.func15,Tryz.ntmps15;go_wp2;go_ret;refine⟨?_,rfl⟩;have e:n.tmod ((m:Int)+1)=n % ((m:Int)+1):=Int.tmod_eq_emod_of_nonneg h0;rw[← HV.out,wv,if_neg (by omega),e,if_neg (by omega)];simp
 obtain⟨h2,h3⟩:=tmod_low n m (by omega);by_cases h4:n.tmod ((m:Int)+1) < 0
 ·go_enter Tryz.func15,Tryz.ntmps15;go_wp2;go_ret;refine⟨?_,rfl⟩;rw[← HV.out,wv,if_neg (by omega),if_pos h4];simp
 go_enter Tryz.func15,Tryz.ntmps15;go_wp2;go_ret;refine⟨?_,rfl⟩;rw[← HV.out,wv,if_neg (by omega),if_neg (by omega)];simp
structure TapeW(w:World)(B b:Nat)(A:Option Addr)(m c:Nat)(f:Nat→Int)(at_:Nat):Prop where
 rd:RdC w B A m (fun j=>.int .i64 (f j))
 low:B≤b
 c0:w.cell? ⟨b,0,none⟩=some (.slice A m c)
 c1:w.cell? ⟨b,1,none⟩=some (.int .i64 (at_:Int))
 fr:w.frozen? ⟨b,1,none⟩=false
 le:at_≤m
 two:w.cell? ⟨b,2,none⟩=none
def Nexts(B b:Nat)(A:Option Addr)(m c:Nat)(f:Nat→Int)(n:Nat)(w:World)(e:Ending)(w':World):Prop :=
 ∃ k at_:Nat,k < n∧e=.returned (.int .i64 (k:Int))∧TapeW w' B b A m c f at_∧w.grownBy w' (some b)
theorem next_any(B b:Nat)(A:Option Addr)(m c:Nat)(f:Nat→Int)(at_ n:Nat)(w:World)(h:TapeW w B b A m c f at_)(hn:1≤n)(hn2:n≤64)(hm:m≤140737488351232):
  Calls Tryz.prog 21 #[.pointer (some ⟨b,0,none⟩),.int .i64 (n:Int)] w (Nexts B b A m c f n w):=by
 have H:=hid h;have c0:=h.c0;have c1:=h.c1;have hle:=h.le;clear h;by_cases hlt:at_ < m
 ·obtain⟨ad,rfl,hab,hcell⟩:=H.out.rd.at_ hlt;have hfr:=H.out.fr;have hlow:=H.out.low;have htwo:=H.out.two;have hF:∀ q,TapeW ((w.drewN q).setCell ⟨b,1,none⟩ (.int .i64 ((at_:Int)+1))) B b (some ad) m c f (at_+1)∧w.grownBy ((w.drewN q).setCell ⟨b,1,none⟩ (.int .i64 ((at_:Int)+1))) (some b):=fun q=>by
   have hbl:=World.block_lt_of_cell? w _ c1;refine⟨⟨H.out.rd.keep fun p hp=>?_,hlow,?_,?_,?_,by omega,?_⟩,⟨rfl,rfl,rfl,by simp[World.setCell],fun k hk hne=>?_⟩⟩
   ·exact World.cell?_of_block (Below.heap_setCell (w.drewN q) ⟨b,1,none⟩ _ p.block (fun e=>by dsimp only at e;omega))
   ·rw[World.cell?_setCell_other _ _ _ _ (by simp)];exact c0
   ·exact World.cell?_setCell_same _ _ _ (u:=.int .i64 (at_:Int)) c1
   ·simp;exact hfr
   ·rw[World.cell?_setCell_other _ _ _ _ (by simp)];exact htwo
   exact Below.heap_setCell (w.drewN q) ⟨b,1,none⟩ _ k (fun e=>hne (by rw[e]))
  have F:=hid hF;clear hF;have hmd:decide (m≤at_)=false:=decide_eq_false (by omega);go_enter Tryz.func21,Tryz.ntmps21;go_wp2_with fail;go_quiet (fail);go_wp2_with fail;obtain⟨T1,G1⟩:=F.out nq;generalize (w.drewN nq).setCell ⟨b,1,none⟩ (.int .i64 ((at_:Int)+1))=w1 at T1 G1 ⊢;have d0:=T1.c0;have d1:w1.cell? ⟨b,1,none⟩=some (.int .i64 ((at_:Int)+1)):=T1.c1;obtain⟨ad',e,_,dcell⟩:=T1.rd.at_ hlt;injection e with e;subst e;clear c0 c1 hcell hfr;have hwr:IntKind.i64.wrap ((at_:Int)+1 - 1)=(at_:Int):=by rw[IntWalk.i64_in _ (by omega)];omega
  have hwb:=wv_bd (f at_) 1073741824;have hW:=within_eq (f at_) 1073741824;generalize wv (f at_) 1073741824=z at hwb hW;obtain⟨Z,rfl⟩:=Int.eq_ofNat_of_zero_le hwb.1;have hrem:¬ n=0:=by omega
  have HW:=hid hW;clear hW;go_quiet ((go_at_call 15;exact Calls.quiet_of_same (HW.out _ (by decide))));go_wp2_with fail;go_ret;exact⟨Z % n,at_+1,Nat.mod_lt _ (by omega),by rw[Int.natCast_emod];rfl,⟨T1.rd,T1.low,T1.c0,T1.c1,T1.fr,T1.le,T1.two⟩,⟨G1.os,G1.tape,G1.output,G1.size,G1.block⟩⟩
 have hmd:decide (m≤at_)=true:=decide_eq_true (by omega);have F:Hid (∀ q,TapeW (w.drewN q) B b A m c f at_∧w.grownBy (w.drewN q) (some b)):=hid fun q=>by
  have h:=H.out;exact⟨⟨h.rd,h.low,h.c0,h.c1,h.fr,h.le,h.two⟩,⟨rfl,rfl,rfl,Nat.le_refl _,fun _ _ _=>rfl⟩⟩
 go_enter Tryz.func21,Tryz.ntmps21;go_wp2_with fail;go_quiet (fail);go_wp2_with fail;go_ret;exact⟨0,at_,by omega,rfl,(F.out _).1,(F.out _).2⟩
end Go.Proofs.YtdkngfdnfekgfaaGreat
namespace Go.Proofs.YtdkngfdnfekgfaaGreat
open Go.RowKit Tab
theorem next_at(B b:Nat)(A:Option Addr)(m c:Nat)(f:Nat→Int)(at_ n:Nat)(N:Int)(w:World)(h:TapeW w B b A m c f at_)(hN:N=(n:Int))(hn:1≤n)(hn2:n≤64)(hm:m≤140737488351232):
  Calls Tryz.prog 21 #[.pointer (some ⟨b,0,none⟩),.int .i64 N] w (Nexts B b A m c f n w):=by
 subst hN;exact next_any B b A m c f at_ n w h hn hn2 hm
theorem TapeW.lt{w:World}{B b:Nat}{A:Option Addr}{m c:Nat}{f:Nat→Int}{at_:Nat}(h:TapeW w B b A m c f at_):b < w.heap.size:=World.block_lt_of_cell? w _ h.c0
theorem TapeW.below{w w':World}{B b:Nat}{A:Option Addr}{m c:Nat}{f:Nat→Int}{at_:Nat}(h:TapeW w B b A m c f at_){Bs:Nat}(hb:Below Bs w w')(hlt:b < Bs):TapeW w' B b A m c f at_ :=
 ⟨h.rd.keep fun p hp=>hb.cell (by have:=h.low;omega),h.low,(hb.cell (p:=⟨b,0,none⟩) hlt).trans h.c0,(hb.cell (p:=⟨b,1,none⟩) hlt).trans h.c1,(hb.frozen (p:=⟨b,1,none⟩) hlt).trans h.fr,h.le,(hb.cell (p:=⟨b,2,none⟩) hlt).trans h.two⟩
theorem gb_trans{a w w':World}{x:Option Nat}(h:a.grownBy w x)(k:w.grownBy w' x):a.grownBy w' x :=
 ⟨k.os.trans h.os,k.tape.trans h.tape,k.output.trans h.output,Nat.le_trans h.size k.size,fun i hi hne=>(k.block i (Nat.lt_of_lt_of_le hi h.size) hne).trans (h.block i hi hne)⟩
theorem gb_below{a w w':World}{x:Option Nat}{B:Nat}(h:a.grownBy w x)(k:Below B w w')(hB:a.heap.size≤B):a.grownBy w' x :=
 ⟨k.os.trans h.os,k.tape.trans h.tape,k.output.trans h.output,Nat.le_trans h.size k.size,fun i hi hne=>(k.block i (by omega)).trans (h.block i hi hne)⟩
theorem gb_alloc{a w:World}{x:Option Nat}(h:a.grownBy w x)(o:Obj):a.grownBy (w.alloc o) x:=gb_below h (bl1 w o) h.size
structure OwnN(w:World)(B:Nat)(A:Option Addr)(n c:Nat)(l:List Nd):Prop where
 len:l.length=n
 own:OwnV 70 3 w B A n c (ns l)
 bd:∀ x∈l,NdIn x
theorem OwnN.rdn{w:World}{B n c:Nat}{A:Option Addr}{l:List Nd}(h:OwnN w B A n c l):RdN w w.heap.size A n l:=⟨h.len,h.own.rd,h.bd⟩
theorem OwnN.keep{w w':World}{B n c:Nat}{A:Option Addr}{l:List Nd}(h:OwnN w B A n c l)(hk:∀ b,B≤b→b < w.heap.size→w'.heap[b]? = w.heap[b]?):OwnN w' B A n c l:=⟨h.len,h.own.keep hk,h.bd⟩
theorem OwnN.gb{w w':World}{B n c b:Nat}{A:Option Addr}{l:List Nd}(h:OwnN w B A n c l)(hg:w.grownBy w' (some b))(hb:b < B):OwnN w' B A n c l :=
 h.keep fun k hk hlt=>hg.block k hlt (fun e=>by injection e with e;omega)
theorem OwnN.lit(w:World)(B:Nat)(C:Array Value)(l:List Nd)(m:Nat)(hl:l.length=m)(hC:C.toList=ns l)(hB:B≤w.heap.size)(hm:m≤4096)(hb:∀ x∈l,NdIn x):OwnN (w.alloc (.cells C 70)) B (some ⟨w.heap.size,0,none⟩) m m l:=by
 refine⟨hl,?_,hb⟩;have:=ownV_lit w 70 3 B C m (by rw[← Array.length_toList,hC,ns_length,hl]) hB (by unfold maxLen;omega);rwa [hC] at this
def TabsP(B b:Nat)(A:Option Addr)(m c:Nat)(f:Nat→Int)(Q X D:Nat)(w:World)(e:Ending)(w':World):Prop :=
 ∃(x:Nd) (k:F) (A':Option Addr) (n' c' at':Nat),e=.returned (.slice A' n' c')∧(F.cons x k .nil).ok∧OwnN w' w.heap.size A' n' c' (x::k.flat)∧k.sz+1≤X∧k.dep≤D∧(∀ y∈x::k.flat,0≤y.p∧y.p < (Q:Int))∧TapeW w' B b A m c f at'∧w.grownBy w' (some b)
theorem ndIn_mk{k p n:Int}(hk:0≤k∧k≤9)(hp:0≤p∧p≤9)(hn:0≤n∧n≤1048576):NdIn ⟨k,p,n⟩:=by
 unfold NdIn In64;dsimp only;omega
theorem table_anyp(B b:Nat)(A:Option Addr)(m c:Nat)(f:Nat→Int)(hm:m≤140737488351232)(parts:Nat)(hp1:1≤parts)(hp2:parts≤6)(d:Nat):∀(at_:Nat) (w:World),d≤6→TapeW w B b A m c f at_ →
  Calls Tryz.prog 39 #[.pointer (some ⟨b,0,none⟩),.int .i64 (parts:Int),.int .i64 (d:Int)] w (TabsP B b A m c f parts (5 ^ (d+1)) d w):=by
 induction d with
 | zero =>
  intro at_ w hd T;have hX:5 ^ (0+1)=5:=rfl;rw[hX];clear hX;go_enter Tryz.func39,Tryz.ntmps39;go_wp2_with fail;refine(next_at B b A m c f at_ 7 _ w T rfl (by omega) (by omega) hm).mono ?_;rintro e w1⟨k,at1,hk,rfl,T1,G1⟩;by_cases hk0:k=0
  ·subst hk0;go_wp2_with fail;refine(next_at B b A m c f at1 4 _ w1 T1 rfl (by omega) (by omega) hm).mono ?_;rintro e w2⟨j,at2,hj,rfl,T2,G2⟩;go_wp2_with fail;go_ret;exact⟨⟨2,0,1+(j:Int)⟩,.nil,_,1,1,at2,rfl,⟨(fine_iff _ _ _).2 (by omega),by simp[F.cnt,kn],trivial,trivial⟩,OwnN.lit w2 w.heap.size #[.int .i64 2,.int .i64 0,.int .i64 (1+(j:Int))] [⟨2,0,1+(j:Int)⟩] 1 rfl rfl (Nat.le_trans G1.size G2.size) (by omega) (by intro x hx;simp at hx;subst hx;exact ndIn_mk (by omega) (by omega) (by omega)),by simp only[F.sz];omega,by simp only[F.dep];omega,(by intro y hy;simp[F.flat] at hy;subst hy;dsimp only;omega),T2.below (bl1 w2 _) T2.lt,gb_alloc (gb_trans G1 G2) _⟩
  have hk0':((k:Int) == 0)=false:=beq_eq_false_iff_ne.2 (by omega);go_wp2_with fail;refine(next_at B b A m c f at1 parts _ w1 T1 rfl hp1 (by omega) hm).mono ?_;rintro e w2⟨p,at2,hp,rfl,T2,G2⟩;go_wp2_with fail;refine(next_at B b A m c f at2 4 _ w2 T2 rfl (by omega) (by omega) hm).mono ?_;rintro e w3⟨j,at3,hj,rfl,T3,G3⟩;go_wp2_with fail;go_ret;exact⟨⟨1,(p:Int),1+(j:Int)⟩,.nil,_,1,1,at3,rfl,⟨(fine_iff _ _ _).2 (by omega),by simp[F.cnt,kn],trivial,trivial⟩,OwnN.lit w3 w.heap.size #[.int .i64 1,.int .i64 (p:Int),.int .i64 (1+(j:Int))] [⟨1,(p:Int),1+(j:Int)⟩] 1 rfl rfl (Nat.le_trans G1.size (Nat.le_trans G2.size G3.size)) (by omega) (by intro x hx;simp at hx;subst hx;exact ndIn_mk (by omega) (by omega) (by omega)),by simp only[F.sz];omega,by simp only[F.dep];omega,(by intro y hy;simp[F.flat] at hy;subst hy;dsimp only;omega),T3.below (bl1 w3 _) T3.lt,gb_alloc (gb_trans G1 (gb_trans G2 G3)) _⟩
 | succ d ih =>
  intro at_ w hd T;have HIH:=hid ih;clear ih;have hX:5 ^ (d+1)≤78125:=Nat.le_trans (Nat.pow_le_pow_right (by omega) (show d+1≤7 by omega)) (by decide);have hX2:5 ^ (d+1+1)=5*5 ^ (d+1):=by rw[Nat.pow_succ,Nat.mul_comm]
  have hX1:1≤5 ^ (d+1):=Nat.pow_pos (by omega);rw[hX2];generalize 5 ^ (d+1)=X at hX hX1 HIH ⊢;clear hX2;have hd1:decide (((d+1:Nat):Int) < 1)=false:=decide_eq_false (by omega);go_enter Tryz.func39,Tryz.ntmps39;go_wp2_with fail;refine(next_at B b A m c f at_ 7 _ w T rfl (by omega) (by omega) hm).mono ?_;rintro e w1⟨k,at1,hk,rfl,T1,G1⟩;by_cases hk2:k < 2
  ·by_cases hk0:k=0
   ·subst hk0;go_wp2_with fail;refine(next_at B b A m c f at1 4 _ w1 T1 rfl (by omega) (by omega) hm).mono ?_;rintro e w2⟨j,at2,hj,rfl,T2,G2⟩;go_wp2_with fail;go_ret;exact⟨⟨2,0,1+(j:Int)⟩,.nil,_,1,1,at2,rfl,⟨(fine_iff _ _ _).2 (by omega),by simp[F.cnt,kn],trivial,trivial⟩,OwnN.lit w2 w.heap.size #[.int .i64 2,.int .i64 0,.int .i64 (1+(j:Int))] [⟨2,0,1+(j:Int)⟩] 1 rfl rfl (Nat.le_trans G1.size G2.size) (by omega) (by intro x hx;simp at hx;subst hx;exact ndIn_mk (by omega) (by omega) (by omega)),by simp only[F.sz];omega,by simp only[F.dep];omega,(by intro y hy;simp[F.flat] at hy;subst hy;dsimp only;omega),T2.below (bl1 w2 _) T2.lt,gb_alloc (gb_trans G1 G2) _⟩
   have hk0':((k:Int) == 0)=false:=beq_eq_false_iff_ne.2 (by omega);go_wp2_with fail;refine(next_at B b A m c f at1 parts _ w1 T1 rfl hp1 (by omega) hm).mono ?_;rintro e w2⟨p,at2,hp,rfl,T2,G2⟩;go_wp2_with fail;refine(next_at B b A m c f at2 4 _ w2 T2 rfl (by omega) (by omega) hm).mono ?_;rintro e w3⟨j,at3,hj,rfl,T3,G3⟩;go_wp2_with fail;go_ret;exact⟨⟨1,(p:Int),1+(j:Int)⟩,.nil,_,1,1,at3,rfl,⟨(fine_iff _ _ _).2 (by omega),by simp[F.cnt,kn],trivial,trivial⟩,OwnN.lit w3 w.heap.size #[.int .i64 1,.int .i64 (p:Int),.int .i64 (1+(j:Int))] [⟨1,(p:Int),1+(j:Int)⟩] 1 rfl rfl (Nat.le_trans G1.size (Nat.le_trans G2.size G3.size)) (by omega) (by intro x hx;simp at hx;subst hx;exact ndIn_mk (by omega) (by omega) (by omega)),by simp only[F.sz];omega,by simp only[F.dep];omega,(by intro y hy;simp[F.flat] at hy;subst hy;dsimp only;omega),T3.below (bl1 w3 _) T3.lt,gb_alloc (gb_trans G1 (gb_trans G2 G3)) _⟩
  by_cases hk3:k=2
  ·subst hk3;go_wp2_with fail;refine(next_at B b A m c f at1 3 _ w1 T1 rfl (by omega) (by omega) hm).mono ?_;rintro e w2⟨j,at2,hj,rfl,T2,G2⟩;go_wp2_with fail;have ql:=OwnN.lit w2 w.heap.size #[.int .i64 4,.int .i64 0,.int .i64 (1+(j:Int))] [⟨4,0,1+(j:Int)⟩] 1 rfl rfl (Nat.le_trans G1.size G2.size) (by omega) (by intro x hx;simp at hx;subst hx;exact ndIn_mk (by omega) (by omega) (by omega));have T3:=T2.below (bl1 w2 (.cells #[.int .i64 4,.int .i64 0,.int .i64 (1+(j:Int))] 70)) T2.lt;have G3:=gb_alloc (gb_trans G1 G2) (.cells #[.int .i64 4,.int .i64 0,.int .i64 (1+(j:Int))] 70);refine(HIH.out at2 _ (by omega) T3).mono ?_;rintro e w4⟨x,k,A4,n4,c4,at4,rfl,hok,hown,hsz,hdp,hqq,T4,G4⟩;have hb0:b < w.heap.size:=T.lt;have ql4:=ql.gb G4 hb0;have G5:=gb_trans G3 G4;have hlen4:=hown.len;simp only[List.length_cons,F.flat_length] at hlen4;go_wp2_with (at_builtin;go_loud (refine wpList_appV elN rfl (.tmp 40) (.tmp 45) rfl rfl w.heap.size _ 1 1 _ rfl ql4.own A4 n4 c4 _ _ rfl hown.own.rd (by rw[ns_length,hown.len]) (ns_one _) (by omega) (by unfold maxLen;omega) G5.size (1+n4) rfl _ rfl ?_;intro A5 c5 w5 hw5 hb5 _));go_ret;refine⟨⟨4,0,1+(j:Int)⟩,.cons x k .nil,A5,1+n4,c5,at4,rfl,⟨(fine_iff _ _ _).2 (by omega),by simp[F.cnt,kn],hok,trivial⟩,⟨?_,?_,?_⟩,?_,?_,?_,T4.below hb5 hb0,gb_below G5 hb5 (Nat.le_refl _)⟩
   ·simp only[List.length_cons,F.flat,List.append_nil,F.flat_length];omega
   ·have e:(F.cons x k .nil).flat=x::k.flat:=by simp[F.flat]
    rw[e];exact hw5
   ·intro y hy;have e:(F.cons x k .nil).flat=x::k.flat:=by simp[F.flat]
    rw[e] at hy;rcases List.mem_cons.1 hy with rfl | hy
    ·exact ndIn_mk (by omega) (by omega) (by omega)
    exact hown.bd y hy
   ·simp only[F.sz];omega
   ·simp only[F.dep];omega
   intro y hy;have e:(F.cons x k .nil).flat=x::k.flat:=by simp[F.flat]
   rw[e] at hy;rcases List.mem_cons.1 hy with rfl | hy
   ·dsimp only;omega
   exact hqq y hy
  have hk3':((k:Int) == 2)=false:=beq_eq_false_iff_ne.2 (by omega);go_wp2_with fail;refine(next_at B b A m c f at1 4 _ w1 T1 rfl (by omega) (by omega) hm).mono ?_;rintro e w2⟨j,at2,hj,rfl,T2,G2⟩;have hb0:b < w.heap.size:=T.lt;have ql:=OwnN.lit w2 w.heap.size #[.int .i64 3,.int .i64 0,.int .i64 (1+(j:Int))] [⟨3,0,1+(j:Int)⟩] 1 rfl rfl (Nat.le_trans G1.size G2.size) (by omega) (by intro x hx;simp at hx;subst hx;exact ndIn_mk (by omega) (by omega) (by omega));have T3:=T2.below (bl1 w2 (.cells #[.int .i64 3,.int .i64 0,.int .i64 (1+(j:Int))] 70)) T2.lt;have G3:=gb_alloc (gb_trans G1 G2) (.cells #[.int .i64 3,.int .i64 0,.int .i64 (1+(j:Int))] 70);go_wp2_with fail;generalize w2.alloc (.cells #[.int .i64 3,.int .i64 0,.int .i64 (1+(j:Int))] 70)=w3 at ql T3 G3 ⊢;go_loopw [9,10] (fun q s wr=>∃(i:Nat) (g:F) (A1:Option Addr) (n1 c1 at':Nat),i≤1+j∧s=.int .i64 i∧q=.slice A1 n1 c1∧g.ok∧g.cnt=i∧OwnN wr w.heap.size A1 n1 c1 (⟨3,0,1+(j:Int)⟩::g.flat)∧g.sz≤i*X∧g.dep≤d+1∧(∀ y∈g.flat,0≤y.p∧y.p < (parts:Int))∧TapeW wr B b A m c f at'∧w.grownBy wr (some b)) (fun _ s _=>1+j - (intOf s).toNat)
  case atStart=>exact⟨0,.nil,_,1,1,at2,by omega,rfl,rfl,trivial,rfl,ql,by simp[F.sz],by simp[F.dep],(fun y hy=>by simp[F.flat] at hy),T3,G3⟩
  obtain⟨i,g,A1,n1,c1,at3,hi,rfl,rfl,hgok,hgc,hown,hgs,hgd,hgq,T4,G4⟩:=hrel;have HOK:=hid hgok;have HGC:=hid hgc;have HLEN:=hid hown.len;have hiX:(i+1)*X=i*X+X:=Nat.succ_mul i X;have hiX4:i*X≤4*X:=Nat.mul_le_mul_right _ (by omega);clear hgok hgc T1 T2 T3 G1 G2 G3 ql;by_cases hlt:i < 1+j
  ·have hlt':decide ((i:Int) < 1+(j:Int))=true:=decide_eq_true (by omega);go_wp2_with fail;refine(HIH.out at3 _ (by omega) T4).mono ?_;rintro e w5⟨x,kk,A5,n5,c5,at5,rfl,hok,hown5,hsz,hdp,hqq5,T5,G5⟩;have q5:=hown.gb G5 hb0;have G6:=gb_trans G4 G5;have hlen5:=hown5.len;have hlen:=HLEN.out;simp only[List.length_cons,F.flat_length] at hlen5 hlen;go_wp2_with (at_builtin;go_loud (refine wpList_appV elN rfl (.tmp 58) (.tmp 63) rfl rfl w.heap.size _ n1 c1 _ rfl q5.own A5 n5 c5 _ _ rfl hown5.own.rd (by rw[ns_length,hown5.len]) (ns_one _) (by omega) (by unfold maxLen;omega) G6.size (n1+n5) rfl _ rfl ?_;intro A6 c6 w6 hw6 hb6 _));go_roundw
   case rel =>
    have e:(g.app (.cons x kk .nil)).flat=g.flat++x::kk.flat:=by rw[F.app_flat];simp[F.flat]
    refine⟨i+1,g.app (.cons x kk .nil),A6,n1+n5,c6,at5,by omega,by go_num,rfl,F.app_ok HOK.out hok,by rw[F.app_cnt,HGC.out];rfl,⟨?_,?_,?_⟩,?_,?_,?_,T5.below hb6 hb0,gb_below G6 hb6 (Nat.le_refl _)⟩
    ·rw[e];simp only[List.length_cons,List.length_append,F.flat_length];omega
    ·rw[e,← List.cons_append,ns_append];exact hw6
    ·intro y hy;rw[e,← List.cons_append] at hy;rcases List.mem_append.1 hy with hy | hy
     ·exact hown.bd y hy
     exact hown5.bd y hy
    ·rw[F.app_sz,hiX];simp only[F.sz];omega
    ·rw[F.app_dep];simp only[F.dep];omega
    intro y hy;rw[e] at hy;rcases List.mem_append.1 hy with hy | hy
    ·exact hgq y hy
    exact hqq5 y hy
   simp[intOf];omega
  have hlt':decide ((i:Int) < 1+(j:Int))=false:=decide_eq_false (by omega);go_wp2_with fail;go_ret;refine⟨⟨3,0,1+(j:Int)⟩,g,A1,n1,c1,at3,rfl,⟨(fine_iff _ _ _).2 (by omega),?_,HOK.out,trivial⟩,hown,by omega,hgd,?_,T4,G4⟩
  rotate_left
  ·intro y hy;rcases List.mem_cons.1 hy with rfl | hy
   ·dsimp only;omega
   exact hgq y hy
  have:=HGC.out;simp only[kn];rw[if_pos trivial];omega
theorem OwnN.cap{w:World}{B n c:Nat}{A:Option Addr}{l:List Nd}(h:OwnN w B A n c l):n≤c:=OwnV.cap h.own
theorem tape_boxed(A:Option Addr)(n cap:Nat)(f:Nat→Int)(w:World)(h:RdC w w.heap.size A n fun j=>.int .i64 (f j)):TapeW (w.alloc (.cells #[.slice A n cap,.int .i64 0] 31)) w.heap.size w.heap.size A n cap f 0 :=
 ⟨h.keep fun p hp=>World.cell?_alloc_lt w _ p hp,Nat.le_refl _,by simp[World.cell?_alloc_mark],by simp[World.cell?_alloc_mark],by simp,Nat.zero_le _,by simp[World.cell?_alloc_mark]⟩
theorem gb_boxed{w w1:World}{o:Obj}(h:(w.alloc o).grownBy w1 (some w.heap.size)):Below w.heap.size w w1 :=
 (bl1 w o).trans ⟨h.os,h.tape,h.output,h.size,fun i hi=>h.block i (by simp;omega) (fun e=>by injection e with e;omega)⟩
theorem and_mask(a:Int)(m:Nat)(hm:m < 9223372036854775808):∃ M:Nat,bits .and .i64 a (m:Int)=(M:Int)∧M≤m:=by
 refine⟨(BitVec.ofInt 64 a &&& BitVec.ofInt 64 (m:Int)).toNat,?_,?_⟩
 ·have h:(BitVec.ofInt 64 a &&& BitVec.ofInt 64 (m:Int)).toNat≤m:=by
   rw[BitVec.toNat_and];refine Nat.le_trans Nat.and_le_right ?_;rw[BitVec.ofInt_natCast,BitVec.toNat_ofNat];exact Nat.mod_le _ _
  show IntKind.i64.wrap ((BitVec.ofInt 64 a &&& BitVec.ofInt 64 (m:Int)).toNat:Int)=_;rw[IntKind.wrap_i64];omega
 rw[BitVec.toNat_and];refine Nat.le_trans Nat.and_le_right ?_;rw[BitVec.ofInt_natCast,BitVec.toNat_ofNat];exact Nat.mod_le _ _
def Blk(w:World)(b:Nat)(c:Nat→Value):Prop:=∀ o,o < 37→w.cell? ⟨b,o,none⟩=some (c o)∧w.frozen? ⟨b,o,none⟩=false
def upd(c:Nat→Value)(i:Nat)(v:Value):Nat→Value:=fun j=>if j=i then v else c j
theorem upd_same(c:Nat→Value)(i:Nat)(v:Value):upd c i v i=v:=if_pos rfl
theorem upd_other{c:Nat→Value}{i j:Nat}{v:Value}(h:j≠i):upd c i v j=c j:=if_neg h
section
variable {w w':World} {b:Nat} {c:Nat→Value}
theorem Blk.set(h:Blk w b c){i:Nat}(hi:i < 37)(v:Value):Blk (w.setCell ⟨b,i,none⟩ v) b (upd c i v):=fun o ho=>by
 refine⟨?_,by simpa using (h o ho).2⟩
 by_cases e:o=i
 ·subst e
  rw[upd_same]
  exact World.cell?_setCell_same _ _ _ (h o ho).1
 ·rw[upd_other e,World.cell?_setCell_other _ _ _ _ (by simp[e])]
  exact(h o ho).1
theorem Blk.drewN(h:Blk w b c)(q:Nat):Blk (w.drewN q) b c:=h
theorem Blk.lt(h:Blk w b c):b < w.heap.size:=World.block_lt_of_cell? w _ (h 0 (by omega)).1
theorem Blk.keep(h:Blk w b c)(hk:w'.heap[b]? = w.heap[b]?):Blk w' b c:=fun o ho=>by
 exact⟨(World.cell?_of_block hk).trans (h o ho).1,(World.frozen?_of_block hk).trans (h o ho).2⟩
theorem gb_set{a:World}{x:Nat}(h:a.grownBy w (some x))(o:Nat)(v:Value):a.grownBy (w.setCell ⟨x,o,none⟩ v) (some x) :=
 ⟨h.os,h.tape,h.output,by have:=h.size;simpa [World.setCell] using this,fun k hk hne=>(Below.heap_setCell w ⟨x,o,none⟩ v k (fun e=>hne (by rw[e]))).trans (h.block k hk hne)⟩
theorem gb_refl(w:World)(x:Option Nat):w.grownBy w x:=⟨rfl,rfl,rfl,Nat.le_refl _,fun _ _ _=>rfl⟩
theorem gb_drew{a:World}{x:Option Nat}(h:a.grownBy w x):a.grownBy w.drew x:=⟨h.os,h.tape,h.output,h.size,h.block⟩
theorem gb_drewN{a:World}{x:Option Nat}(h:a.grownBy w x)(q:Nat):a.grownBy (w.drewN q) x:=⟨h.os,h.tape,h.output,h.size,h.block⟩
end
def pushC(c:Nat→Value)(d:Nat)(a b:Int):Nat→Value:=upd (upd (upd c (1+d*2) (.int .i64 a)) (1+d*2+1) (.int .i64 b)) 33 (.int .i64 ((d:Int)+1))
theorem push_any(b:Nat)(c:Nat→Value)(d:Nat)(x y:Int)(w:World)(h:Blk w b c)(hd:d≤15)(hc:c 33=.int .i64 (d:Int)):
  Calls Tryz.prog 145 #[.pointer (some ⟨b,1,none⟩),.agg #[.int .i64 x,.int .i64 y]] w fun e w'=>e=.returned (.tuple #[])∧Blk w' b (pushC c d x y)∧w.grownBy w' (some b):=by
 obtain⟨W,hW⟩:∃ W,W=w.alloc (.cells #[.int .i64 x,.int .i64 y] 163):=⟨_,rfl⟩;have hG:w.grownBy W (some b):=by rw[hW];exact gb_alloc (gb_refl _ _) _
 have hB:Blk W b c:=h.keep (by rw[hW];exact Below.heap_alloc w _ b h.lt);have n0:W.cell? ⟨w.heap.size,0,none⟩=some (.int .i64 x):=by rw[hW];simp[World.cell?_alloc_mark]
 have n1:W.cell? ⟨w.heap.size,1,none⟩=some (.int .i64 y):=by rw[hW];simp[World.cell?_alloc_mark]
 have HW:=hid hW;clear hW;have c33:=(hB 33 (by omega)).1;rw[hc] at c33;have f33:=(hB 33 (by omega)).2;have c1:=(hB (1+d*2) (by omega)).1;have c2:=(hB (1+d*2+1) (by omega)).1;have f1:=(hB (1+d*2) (by omega)).2;have f2:=(hB (1+d*2+1) (by omega)).2;go_enter Tryz.func145,Tryz.ntmps145;go_wp2_with fail;rw[← HW.out];generalize w.heap.size=g at n0 n1 ⊢;have hd0:0≤(d:Int):=by omega
 have hd1:(d:Int) < 16:=by omega
 have hd2:d < 16:=by omega
 go_still_tail 9,(by kernel_rfl);change wpList _ _ _ _ _ W.drew;have q1:¬ 33=1+d*2:=by omega
 have q2:¬ 33=1+d*2+1:=by omega
 have q3:¬ 1+d*2=33:=by omega
 have q4:¬ 1+d*2+1=33:=by omega
 go_wp2_with fail;go_end0;exact⟨rfl,((hB.set (i:=1+d*2) (by omega) _).set (i:=1+d*2+1) (by omega) _).set (i:=33) (by omega) _,gb_drew (gb_set (gb_set (gb_set hG _ _) _ _) _ _)⟩
def StC(c:Nat→Value):List (Nat×Nat)→Prop
 | []=>True
 | (a,b)::o=>c (1+o.length*2)=.int .i64 (a:Int)∧c (1+o.length*2+1)=.int .i64 (b:Int)∧StC c o
theorem StC.put{c:Nat→Value}{st:List (Nat×Nat)}(h:StC c st){i:Nat}(hi:1+st.length*2≤i)(v:Value):StC (upd c i v) st:=by
 induction st with
 | nil=>trivial
 | cons e o ih =>
  obtain⟨a,b⟩:=e;simp only[List.length_cons] at hi;exact⟨by rw[upd_other (by omega)];exact h.1,by rw[upd_other (by omega)];exact h.2.1,ih h.2.2 (by omega)⟩
def PathC(c:Nat→Value)(st:List (Nat×Nat)):Prop:=StC c st∧c 33=.int .i64 (st.length:Int)∧st.length≤16
theorem PathC.push{c:Nat→Value}{st:List (Nat×Nat)}(h:PathC c st)(hl:st.length≤15)(a b:Nat):PathC (pushC c st.length (a:Int) (b:Int)) ((a,b)::st):=by
 unfold pushC;refine⟨⟨?_,?_,?_⟩,?_,by simp only[List.length_cons];omega⟩
 ·rw[upd_other (by omega),upd_other (by omega),upd_same]
 ·rw[upd_other (by omega),show 1+st.length*2+1=1+st.length*2+1 from rfl,upd_same]
 ·exact((h.1.put (by omega) _).put (by omega) _).put (by omega) _
 rw[upd_same];simp
theorem pushC_other(c:Nat→Value)(d:Nat)(a b:Int)(hd:d≤15){j:Nat}(hj:j=0∨33 < j):pushC c d a b j=c j:=by
 unfold pushC;rw[upd_other (by omega),upd_other (by omega),upd_other (by omega)]
def Rest(c c':Nat→Value):Prop:=c' 0=c 0∧∀ j,33 < j→c' j=c j
theorem Rest.refl(c:Nat→Value):Rest c c:=⟨rfl,fun _ _=>rfl⟩
theorem Rest.put{c c':Nat→Value}(h:Rest c c'){i:Nat}(hi:1≤i)(hi2:i≤33)(v:Value):Rest c (upd c' i v) :=
 ⟨by rw[upd_other (by omega)];exact h.1,fun j hj=>by rw[upd_other (by omega)];exact h.2 j hj⟩
theorem StC.dec{c:Nat→Value}{a b:Nat}{o:List (Nat×Nat)}(h:StC c ((a,b)::o))(x:Nat):StC (upd c (1+o.length*2) (.int .i64 (x:Int))) ((x,b)::o) :=
 ⟨upd_same _ _ _,by rw[upd_other (by omega)];exact h.2.1,h.2.2.put (by omega) _⟩
def deepOf(w:World)(b:Nat):Nat:=match w.cell? ⟨b,33,none⟩ with
 | some (.int _ z)=>z.toNat
 | _=>0
theorem deepOf_eq{w:World}{b:Nat}{c:Nat→Value}{d:Nat}(h:Blk w b c)(e:c 33=.int .i64 (d:Int)):deepOf w b=d:=by
 unfold deepOf;rw[(h 33 (by omega)).1,e];simp
def Went(b:Nat)(c:Nat→Value)(st:List (Nat×Nat))(p:Nat)(w:World)(e:Ending)(w':World):Prop :=
 e=.returned (.int .i64 ((popm st p).2:Nat))∧∃ c',Blk w' b c'∧PathC c' (popm st p).1∧Rest c c'∧w.grownBy w' (some b)
theorem Went.mk{b:Nat}{c c':Nat→Value}{st st':List (Nat×Nat)}{p p':Nat}{w w':World}{z:Int}(h:popm st p=(st',p'))(hz:z=(p':Int))(hB:Blk w' b c')(hP:PathC c' st')(hR:Rest c c')(hG:w.grownBy w' (some b)):Went b c st p w (.returned (.int .i64 z)) w':=by
 unfold Went;rw[h,hz];exact⟨rfl,c',hB,hP,hR,hG⟩
theorem behind1_any(b:Nat)(c:Nat→Value)(st:List (Nat×Nat))(p:Nat)(w:World)(h:Blk w b c)(hp:PathC c st)(hb:∀ e∈st,1≤e.1∧e.1≤9223372036854775807∧e.2≤1048576)(hpl:p≤1048576):
  Calls Tryz.prog 144 #[.pointer (some ⟨b,1,none⟩),.int .i64 (p:Int)] w (Went b c st (p+1) w):=by
 have H:=hid h;have HP:=hid hp;have HB:=hid hb;clear h hp hb;go_enter Tryz.func144,Tryz.ntmps144;go_wp2_with fail;go_loopw [] (fun wr=>∃(c':Nat→Value) (st':List (Nat×Nat)),Blk wr b c'∧PathC c' st'∧popm st' (p+1)=popm st (p+1)∧(∀ e∈st',1≤e.1∧e.1≤9223372036854775807∧e.2≤1048576)∧Rest c c'∧w.grownBy wr (some b)) (fun wr=>deepOf wr b)
 case atStart=>exact⟨c,st,H.out,HP.out,rfl,HB.out,Rest.refl _,gb_refl _ _⟩
 obtain⟨c',st',hB,hP,hpop,hbd,hR,hG⟩:=hrel;have HPOP:=hid hpop;have HBD:=hid hbd;clear hpop hbd;obtain⟨hs,hd,hl⟩:=hP;have HD:=hid hd;have c33:=(hB 33 (by omega)).1;rw[hd] at c33;have f33:=(hB 33 (by omega)).2;cases st' with
 | nil =>
  go_wp2_with fail;go_ret;exact Went.mk (HPOP.out.symm.trans rfl) (by omega) hB ⟨hs,HD.out,by simp⟩ hR hG
 | cons e o =>
  obtain⟨a,q⟩:=e;obtain⟨b1,b2,b3⟩:=HBD.out (a,q) (by simp);dsimp only at b1 b2 b3;have c1:=(hB (1+o.length*2) (by simp at hl;omega)).1;have c2:=(hB (1+o.length*2+1) (by simp at hl;omega)).1;have f1:=(hB (1+o.length*2) (by simp at hl;omega)).2;rw[hs.1] at c1;rw[hs.2.1] at c2;simp only[List.length_cons] at c33 hl;have hs2:=hs.dec (a - 1);have HS:=hid hs2;have HS3:Hid (StC c' o):=hid hs.2.2;clear hs hd hs2;generalize hod:o.length=d at c33 hl c1 c2 f1 HS;have HOD:=hid hod;have q1:¬ 33=1+d*2:=by omega
  have q2:¬ 33=1+d*2+1:=by omega
  have q3:¬ 1+d*2=33:=by omega
  have q4:¬ 1+d*2+1=33:=by omega
  have hd0:0≤(d:Int):=by omega
  have hd1:(d:Int) < 16:=by omega
  have hd2:d < 16:=by omega
  have hB1:∀ nq,Blk ((wr.drewN nq).setCell ⟨b,1+d*2,none⟩ (.int .i64 ((a:Int) - 1))) b (upd c' (1+d*2) (.int .i64 ((a:Int) - 1))):=fun nq=>(hB.drewN nq).set (by omega) _;have hG1:∀ nq,w.grownBy ((wr.drewN nq).setCell ⟨b,1+d*2,none⟩ (.int .i64 ((a:Int) - 1))) (some b):=fun nq=>gb_set (gb_drewN hG nq) _ _;have hR1:=hR.put (i:=1+d*2) (by omega) (by omega) (.int .i64 ((a:Int) - 1));have ea:(a:Int) - 1=((a - 1:Nat):Int):=by omega
  have HEA:=hid ea;have HB1:=hid hB1;have HBo:=hid hB;clear hod ea hB1;by_cases h1:1 < a
  ·have hc1:PathC (upd c' (1+d*2) (.int .i64 ((a:Int) - 1))) ((a - 1,q)::o):=⟨by rw[HEA.out];exact HS.out,by rw[upd_other (by omega)];exact HD.out,by simp only[List.length_cons,HOD.out];omega⟩;have HC1:=hid hc1;clear hc1;have hd3:IntKind.i64.wrap ((d:Int)+1 - 1)=(d:Int):=by rw[IntWalk.i64_in _ (by omega)];omega
   by_cases hq:0 < q
   ·go_wp2_with fail;go_quiet (fail);go_wp2_with fail;go_ret;exact Went.mk (st':=(a - 1,q)::o) (p':=q) (by rw[← HPOP.out,popm_more _ _ h1,if_pos hq]) rfl (HB1.out _) HC1.out hR1 (hG1 _)
   go_wp2_with fail;go_quiet (fail);go_wp2_with fail;go_ret;exact Went.mk (st':=(a - 1,q)::o) (p':=p+1) (by rw[← HPOP.out,popm_more _ _ h1,if_neg hq]) (by omega) (HB1.out _) HC1.out hR1 (hG1 _)
  have h1':¬ 1 < (a:Int):=by omega
  have hd3:IntKind.i64.wrap ((d:Int)+1 - 1)=(d:Int):=by rw[IntWalk.i64_in _ (by omega)];omega
  go_wp2_with fail;go_quiet (fail);go_wp2_with fail;go_roundw
  case rel =>
   refine⟨upd (upd c' (1+d*2) (.int .i64 ((a:Int) - 1))) 33 (.int .i64 (d:Int)),o,(HB1.out _).set (by omega) _,⟨?_,by rw[upd_same,HOD.out],by rw[HOD.out];omega⟩,by rw[← HPOP.out,popm_less _ _ h1],fun e he=>HBD.out e (by simp[he]),hR1.put (by omega) (by omega) _,gb_set (hG1 _) _ _⟩;have h3:=HS3.out;exact(h3.put (by rw[HOD.out];omega) _).put (by rw[HOD.out];omega) _
  show deepOf _ b < deepOf _ b;rw[deepOf_eq ((HB1.out _).set (i:=33) (by omega) (.int .i64 (d:Int))) (upd_same _ _ _),deepOf_eq HBo.out HD.out];simp only[List.length_cons,HOD.out];omega
end Go.Proofs.YtdkngfdnfekgfaaGreat
