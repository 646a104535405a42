import Derived.Test.YtfmndmhjjbeokaaGreatDoorLow46
import Derived.Test.YtfmndmhjjbeokaaGreatDoorLow44
namespace Go.Proofs.YtfmndmhjjbeokaaGreatDoor
set_option maxRecDepth 100000
open Go.RowKit Tab Txt
set_option linter.unusedSimpArgs false
set_option linter.unusedVariables false
namespace Txt
theorem numL_m {m:Nat}:∀ (s:List UInt8) (n:Nat) (x:Nat×List UInt8),n≤m→numL m n s=some x→x.1≤m
 | [],n,x,hn,h=>by
  unfold numL at h
  split at h
  ·cases h
  ·injection h with h;rw [← h];exact hn
 | c::s,n,x,hn,h=>by
  rw [numL_cons] at h
  split at h
  ·split at h
   ·cases h
   ·exact numL_m s _ x (by omega) h
  ·split at h
   ·cases h
   ·injection h with h;rw [← h];exact hn
theorem numS_m {m:Nat} {s:List UInt8} {x:Nat×List UInt8} (h:numS m s=some x):x.1≤m:=by
 cases s with
 | nil=>cases h
 | cons c r =>
  rw [numS_cons] at h
  split at h
  ·injection h with h;rw [← h];exact Nat.zero_le _
  ·exact numL_m _ _ _ (Nat.zero_le _) h
theorem numZ_m {m:Nat} {s:List UInt8} {x:Int×List UInt8} (h:numZ m s=some x):0≤x.1∧x.1≤m:=by
 unfold numZ at h
 cases e:numS m s with
 | none=>rw [e] at h;cases h
 | some y =>
  rw [e] at h
  injection h with h
  have:=numS_m e
  rw [← h]
  show 0≤(y.1:Int)∧(y.1:Int)≤m
  omega
theorem chanS_max {N:List (List UInt8)} {s:List UInt8} {z:ChV×List UInt8} (h:chanS N s=some z):0≤z.1.max∧z.1.max≤lim32:=by
 unfold chanS at h
 obtain ⟨s1,_,h⟩:=Option.bind_eq_some_iff.1 h
 obtain ⟨a,_,h⟩:=Option.bind_eq_some_iff.1 h
 obtain ⟨s2,_,h⟩:=Option.bind_eq_some_iff.1 h
 obtain ⟨b,_,h⟩:=Option.bind_eq_some_iff.1 h
 obtain ⟨s3,_,h⟩:=Option.bind_eq_some_iff.1 h
 obtain ⟨k,_,h⟩:=Option.bind_eq_some_iff.1 h
 obtain ⟨s4,_,h⟩:=Option.bind_eq_some_iff.1 h
 obtain ⟨m,hm,h⟩:=Option.bind_eq_some_iff.1 h
 obtain ⟨s5,_,h⟩:=Option.bind_eq_some_iff.1 h
 obtain ⟨l,_,h⟩:=Option.bind_eq_some_iff.1 h
 injection h with h
 rw [← h]
 exact numZ_m hm
theorem kids_cnt {f:Nat→List UInt8→Option (List Nd×List UInt8)} (hf:Rds f):∀ (k rm:Nat) (s:List UInt8) (y:List Nd×Nat×List UInt8),kidsR f k rm s=some y→y.2.1≤y.1.length
 | 0,_,_,_,h=>by cases h
 | k+1,rm,s,y,h=>by
  rw [kidsR_succ] at h
  split at h
  ·injection h with h;rw [← h];exact Nat.le_refl _
  ·split at h
   ·cases h
   ·rename_i x hx
    split at h
    ·cases h
    ·rename_i z hz
     injection h with h
     have h1:=kids_cnt hf k _ _ _ hz
     have h2:=(hf _ _ _ hx).2.2
     rw [← h]
     show z.2.1+1≤(x.1++z.1).length
     rw [List.length_append]
     omega
theorem nodeS_in {whose:List UInt8→Option (Int×List UInt8)} (hw:∀ s p,whose s=some p→p.2.length≤s.length) (hi:∀ s p,whose s=some p→In64 p.1):∀ lv rm s x,rm≤128→nodeS whose lv rm s=some x→∀ z∈x.1,NdIn z:=by
 have hnum:∀ (k p:Int) (s:List UInt8) (v:Nat×List UInt8),In64 k→In64 p→numS lim40 s=some v→NdIn ⟨k,p,v.1⟩:=fun k p s v hk hp h=>⟨hk,hp,by have:=numS_m h;unfold lim40 at this;unfold In64;dsimp only;omega⟩
 intro lv
 induction lv with
 | zero=>intro rm s x _ h;cases h
 | succ lv ih =>
  intro rm s x hrm h
  cases rm with
  | zero=>cases h
  | succ rm =>
   cases s with
   | nil=>cases h
   | cons c s =>
    change stepS whose (nodeS whose lv) (rm+1) (c::s)=some x at h
    rw [stepS_cons] at h
    have ihm:∀ rm' s' x',rm'≤128→nodeS whose lv rm' s'=some x'→∀ z∈x'.1,NdIn z:=fun rm' s' x' h1 h2=>ih rm' s' x' h1 h2
    split at h
    ·unfold winS at h
     split at h
     ·cases h
     ·rename_i p hp
      split at h
      ·cases h
      ·rename_i r hr
       cases hn:numS lim40 r with
       | none=>rw [hn] at h;cases h
       | some v =>
        rw [hn] at h
        injection h with h
        rw [← h]
        intro z hz
        rw [List.mem_singleton.1 hz]
        exact hnum 1 p.1 r v ⟨by decide,by decide⟩ (hi _ _ hp) hn
    ·split at h
     ·cases hn:numS lim40 s with
      | none=>rw [hn] at h;cases h
      | some v =>
       rw [hn] at h
       injection h with h
       rw [← h]
       intro z hz
       rw [List.mem_singleton.1 hz]
       exact hnum 2 0 s v ⟨by decide,by decide⟩ ⟨by decide,by decide⟩ hn
     ·split at h
      ·have hf:∀ rm' s' x',(fun r t=>if r≤128 then nodeS whose lv r t else none) rm' s'=some x'→∀ z∈x'.1,NdIn z:=fun rm' s' x' h2=>by
        dsimp only at h2
        split at h2
        ·exact ihm rm' s' x' ‹_› h2
        ·cases h2
       have hsl:=(seqT_len (nodeS_rds hw lv) h)
       unfold seqT at h
       split at h
       ·cases h
       ·split at h
        ·cases h
        ·rename_i y hy
         split at h
         ·cases h
         ·rename_i v hv
          cases h41:takeB 41 v.2.2 with
          | none=>rw [h41] at h;cases h
          | some s4 =>
           rw [h41] at h
           injection h with h
           have hc:=kids_cnt (nodeS_rds hw lv) _ _ _ _ hv
           have hxl:x.1.length=y.1.length+v.1.length+1:=by rw [← h];show (y.1++v.1).length+1=_;rw [List.length_append]
           have hk:∀ (k rm':Nat) (s':List UInt8) (u:List Nd×Nat×List UInt8),rm'≤128→kidsR (nodeS whose lv) k rm' s'=some u→∀ z∈u.1,NdIn z:=by
            intro k
            induction k with
            | zero=>intro rm' s' u _ h5;cases h5
            | succ k ihk =>
             intro rm' s' u hr5 h5
             rw [kidsR_succ] at h5
             split at h5
             ·injection h5 with h5;rw [← h5];intro z hz;cases hz
             ·split at h5
              ·cases h5
              ·rename_i q hq
               split at h5
               ·cases h5
               ·rename_i t ht
                injection h5 with h5
                rw [← h5]
                intro z hz
                rcases List.mem_append.1 hz with hz | hz
                ·exact ihm _ _ _ hr5 hq z hz
                ·exact ihk _ _ _ (by omega) ht z hz
           rw [← h]
           intro z hz
           rcases List.mem_cons.1 hz with rfl | hz
           ·exact ⟨by unfold In64;dsimp only;omega,by unfold In64;dsimp only;omega,by unfold In64;dsimp only;omega⟩
           ·rcases List.mem_append.1 hz with hz | hz
            ·exact ihm _ _ _ (by omega) hy z hz
            ·exact hk _ _ _ _ (by omega) hv z hz
      ·split at h
       ·unfold repS at h
        split at h
        ·cases h
        ·rename_i v hv
         split at h
         ·cases h
         ·split at h
          ·cases h
          ·rename_i y hy
           cases h5:takeB 41 y.2 with
           | none=>rw [h5] at h;cases h
           | some s4 =>
            rw [h5] at h
            injection h with h
            rw [← h]
            intro z hz
            rcases List.mem_cons.1 hz with rfl | hz
            ·exact hnum 4 0 _ v ⟨by decide,by decide⟩ ⟨by decide,by decide⟩ hv
            ·exact ihm _ _ _ (by omega) hy z hz
       ·cases h
theorem knownS_in {N:List (List UInt8)} {b:UInt8} {s:List UInt8} {p:Int×List UInt8} (hN:N.length≤1048576) (h:knownS N b s=some p):In64 p.1:=by
 unfold knownS at h
 split at h
 ·cases h
 ·injection h with h
  rw [← h]
  rcases findF_range N (aheadT (isB b) s) with h1 | ⟨h1,h2⟩
  ·exact ⟨by dsimp only;omega,by dsimp only;omega⟩
  ·rename_i h3;rw [h2] at h3;exact absurd (by decide) h3
end Txt
theorem bs_word (a:ByteArray) (l:List UInt8) (hl:(bsOf l).toList=l):(a.toList == l)=decide (a=bsOf l):=by
 have:=bs_eq_of (a:=a) (b:=bsOf l) rfl
 rwa [hl] at this
theorem word_dec (d l:List UInt8) (hl:(bsOf l).toList=l):((bsOf d).toList == l)=decide (d=l):=by
 rw [bs_word _ _ hl]
 by_cases h:d=l
 ·rw [decide_eq_true h,h];exact decide_eq_true rfl
 ·rw [decide_eq_false h];exact decide_eq_false fun e=>h (bsOf_inj e)
structure LnS (B Br g gc b2 b3:Nat) (x:Cf) (w:World) (st:Option (List UInt8)) (W:World):Prop where
 rd:RdrS Br g st W
 cv:CvS B gc x W
 k2:W.cell? ⟨b2,0,none⟩=some (.pointer (some ⟨g,0,none⟩))
 k3:W.cell? ⟨b3,0,none⟩=some (.pointer (some ⟨gc,0,none⟩))
 gb:w.grownBy W (some g)
 l2:w.heap.size≤b2∧b2 < W.heap.size
 l3:w.heap.size≤b3∧b3 < W.heap.size
 lg:g < w.heap.size∧gc < w.heap.size
 la:∀ k,obk x.A1=some k∨obk x.A2=some k∨obk x.A3=some k→k < w.heap.size
theorem LnS.step {B Br g gc b2 b3:Nat} {x:Cf} {w W W':World} {st st':Option (List UInt8)} (h:LnS B Br g gc b2 b3 x w st W) (k:Rpo Br g st' W W'):LnS B Br g gc b2 b3 x w st' W' :=
 have:=h.l2
 have:=h.l3
 have:=h.lg
 ⟨k.rd,h.cv.rdr h.rd k.gb,by rw [cell_block (k.gb.block b2 (by omega) (by intro e;injection e with e;omega))];exact h.k2,by rw [cell_block (k.gb.block b3 (by omega) (by intro e;injection e with e;omega))];exact h.k3,ogb_trans h.gb k.gb,⟨by omega,Nat.lt_of_lt_of_le h.l2.2 k.gb.size⟩,⟨by omega,Nat.lt_of_lt_of_le h.l3.2 k.gb.size⟩,h.lg,h.la⟩
theorem LnS.start {B Br g gc:Nat} {x:Cf} {w:World} {st:Option (List UInt8)} (h:RdrS Br g st w) (hc:CvS B gc x w):LnS B Br g gc w.heap.size (w.heap.size+1) x w st ((w.alloc (.cells #[.pointer (some ⟨g,0,none⟩)] 77)).alloc (.cells #[.pointer (some ⟨gc,0,none⟩)] 83)):=by
 have b1:=bl1 w (.cells #[.pointer (some ⟨g,0,none⟩)] 77)
 have hz:(w.alloc (.cells #[.pointer (some ⟨g,0,none⟩)] 77)).heap.size=w.heap.size+1:=by simp
 have c2:(w.alloc (.cells #[.pointer (some ⟨g,0,none⟩)] 77)).cell? ⟨w.heap.size,0,none⟩=some (.pointer (some ⟨g,0,none⟩)):=World.cell?_alloc_mark _ _ _ _ _
 generalize w.alloc (.cells #[.pointer (some ⟨g,0,none⟩)] 77)=W1 at b1 hz c2 ⊢
 have b2:=bl1 W1 (.cells #[.pointer (some ⟨gc,0,none⟩)] 83)
 have hz2:(W1.alloc (.cells #[.pointer (some ⟨gc,0,none⟩)] 83)).heap.size=w.heap.size+2:=by simp [hz]
 have c3:(W1.alloc (.cells #[.pointer (some ⟨gc,0,none⟩)] 83)).cell? ⟨W1.heap.size,0,none⟩=some (.pointer (some ⟨gc,0,none⟩)):=World.cell?_alloc_mark _ _ _ _ _
 rw [hz] at c3
 refine ⟨OwnV.below (OwnV.below h rfl b1) rfl b2,(hc.on b1).on b2,?_,c3,ogb_bel (b1.trans (b2.mono b1.size)),⟨Nat.le_refl _,by omega⟩,⟨by omega,by omega⟩,⟨h.cells.2.2.2.2.2,(OwnV.obk_ge hc.s.cf (b:=gc) rfl).2⟩,fun k hk=>?_⟩
 ·rw [cell_block (b2.block w.heap.size (by omega))]
  exact c2
 ·rcases hk with hk | hk | hk
  ·exact OwnV.older hc.s.pp.own hk
  ·exact OwnV.older hc.s.ch.own hk
  ·exact OwnV.older hc.s.tb.own hk
theorem LnS.kpl {B Br g gc b2 b3:Nat} {x:Cf} {w W:World} {st:Option (List UInt8)} (h:LnS B Br g gc b2 b3 x w st W):KpL g gc x w W:=KpL.of (KpG.gb (A:=x.A1) h.gb) (.inl rfl)
theorem LnS.same {B Br g gc b2 b3:Nat} {x:Cf} {c:Cft} {w W:World} {st:Option (List UInt8)} {R:Option (Cft×List UInt8)} (h:LnS B Br g gc b2 b3 x w st W) (hx:Ctn x c) (hR:R=some (c,[])∧st=some []∨R=none∧st=none):LineX B Br g gc R x w (.returned (.tuple #[])) W:=by
 rcases hR with ⟨rfl,rfl⟩ | ⟨rfl,rfl⟩
 ·exact ⟨rfl,some [],rfl,h.rd,h.kpl,fun c' r e=>by injection e with e;injection e with e1 e2;subst e1;exact ⟨x,h.cv,hx,by omega⟩⟩
 ·exact ⟨rfl,none,rfl,h.rd,h.kpl,fun c' r e=>by cases e⟩
theorem take_35 {s:List UInt8} (h0:s≠[]) (h:s.head? = some 35):∃ r,(some s).bind (takeB 35)=some r:=by
 cases s with
 | nil=>exact absurd rfl h0
 | cons c r=>injection h with h;subst h;exact ⟨r,takeB_self 35 r⟩
theorem take_n35 {s:List UInt8} (h:s.head?≠some 35):(some s).bind (takeB 35)=none:=by
 cases s with
 | nil=>rfl
 | cons c r=>exact takeB_ne (fun e=>h (by rw [e];rfl)) r
end Go.Proofs.YtfmndmhjjbeokaaGreatDoor
namespace Go.Proofs.YtfmndmhjjbeokaaGreatDoor
set_option maxRecDepth 100000
open Go.RowKit Tab Txt
set_option linter.unusedSimpArgs false
set_option linter.unusedVariables false
def PhQ {α:Type} (Br g gc b2 b3:Nat) (A:Option Addr) (W0:World) (F:α×Option (List UInt8)→World→Prop) (y:α×Option (List UInt8)) (W:World):Prop :=
 RdrS Br g y.2 W∧KpG g gc A W0 W∧(W.cell? ⟨b2,0,none⟩=some (.pointer (some ⟨g,0,none⟩))∧W.cell? ⟨b3,0,none⟩=some (.pointer (some ⟨gc,0,none⟩)))∧F y W
structure LnA (g gc b2 b3:Nat) (A:Option Addr) (W0:World):Prop where
 n1:g≠gc
 n2:b2≠gc∧b3≠gc
 n3:obk A≠some g∧obk A≠some b2∧obk A≠some b3
 lt:∀ k,obk A=some k→k < W0.heap.size
 lc:gc < W0.heap.size
 l2:b2 < W0.heap.size∧b3 < W0.heap.size
theorem PhQ.keep {α:Type} {Br g gc b2 b3:Nat} {A:Option Addr} {W0:World} {F:α×Option (List UInt8)→World→Prop} (ha:LnA g gc b2 b3 A W0) (hF:∀ y w w',W0.heap.size≤w.heap.size→KpR gc A w w'→F y w→F y w'):∀ y w w',KpR gc A w w'→PhQ Br g gc b2 b3 A W0 F y w→PhQ Br g gc b2 b3 A W0 F y w':=fun y w w' hk ⟨h1,h2,⟨h3,h4⟩,h5⟩=>by
 have:=h2.size
 have q:=ha.l2
 refine ⟨hk.own h1 (by intro e;injection e with e;exact ha.n1 e) (fun k e=>by injection e with e;subst e;exact ha.n3.1),h2.trans (KpG.kpr hk),⟨?_,?_⟩,hF y w w' h2.size hk h5⟩
 ·rw [cell_block (hk.block b2 (by omega) ha.n2.1 ha.n3.2.1)];exact h3
 ·rw [cell_block (hk.block b3 (by omega) ha.n2.2 ha.n3.2.2)];exact h4
theorem LnS.a {B Br g gc b2 b3:Nat} {x:Cf} {w W:World} {st:Option (List UInt8)} {A:Option Addr} (h:LnS B Br g gc b2 b3 x w st W) (hA:A=x.A1∨A=x.A2∨A=x.A3):LnA g gc b2 b3 A W:=by
 have q2:=h.l2
 have q3:=h.l3
 have q:=h.lg
 have hs:=h.gb.size
 have hlt:∀ k,obk A=some k→k < w.heap.size:=fun k hk=>h.la k (by rcases hA with rfl | rfl | rfl <;> simp [hk])
 have hng:obk A≠some g:=by
  rcases hA with rfl | rfl | rfl
  ·exact apart_rd h.cv.s.pp.own h.rd (by decide)
  ·exact apart_rd h.cv.s.ch.own h.rd (by decide)
  ·exact apart_rd h.cv.s.tb.own h.rd (by decide)
 refine ⟨fun e=>?_,⟨by omega,by omega⟩,⟨hng,fun e=>?_,fun e=>?_⟩,fun k hk=>by have:=hlt k hk;omega,by omega,⟨q2.2,q3.2⟩⟩
 ·exact OwnV.apart h.rd h.cv.s.cf (by decide) g rfl (by rw [e];rfl)
 ·have:=hlt _ e;omega
 ·have:=hlt _ e;omega
def PaQ (W0:World) (R:Option (Pq×List UInt8)) (y:Pq×Option (List UInt8)) (W:World):Prop:=OwnV 62 2 W W0.heap.size y.1.1.pa y.1.1.pn y.1.1.pc (y.1.2.flatMap prc)∧y.1.1.name.size≤1048576∧In64 y.1.1.per∧y.1.2.length=y.1.1.pn∧y.1.1.pn≤1048577∧Got R (stripP y.1) y.2
def ChQ (R:Option (ChV×List UInt8)) (y:ChV×Option (List UInt8)) (W:World):Prop:=∃ z,Got R z y.2∧y.1=⟨z.from_,z.to_,z.queue,z.cap,z.max % 4294967296,z.late⟩
def TaQ (W0:World) (R:Option (List Nd×List UInt8)) (y:NdT×Option (List UInt8)) (W:World):Prop:=OwnV 54 3 W W0.heap.size y.1.A y.1.n y.1.c (ns y.1.l)∧y.1.l.length=y.1.n∧y.1.n≤128∧Got R y.1.l y.2
theorem new_keep {E s n c gc:Nat} {A A1:Option Addr} {l:List Value} {W0 w w':World} (ho:OwnV E s w W0.heap.size A1 n c l) (hk:KpR gc A w w') (hg:gc < W0.heap.size) (hA:∀ k,obk A=some k→k < W0.heap.size):OwnV E s w' W0.heap.size A1 n c l :=
 hk.own ho (fun e=>by have:=OwnV.obk_ge ho e;omega) fun k hk2 e=>by have:=OwnV.obk_ge ho hk2;have:=hA k e;omega
theorem i_pcq (y:Pq):∀ u∈pcq y,u.oneCell'=true:=by
 intro u hu
 simp [pcq,pcl] at hu
 rcases hu with rfl | rfl | rfl | rfl | rfl | rfl | rfl | rfl | rfl | rfl | rfl <;> rfl
theorem i_cc (y:ChV):∀ u∈cc y,u.oneCell'=true:=by
 intro u hu
 simp [cc] at hu
 rcases hu with rfl | rfl | rfl | rfl | rfl | rfl <;> rfl
theorem i_tcn (y:NdT):∀ u∈tcn y,u.oneCell'=true:=by
 intro u hu
 simp [tcn] at hu
 rcases hu with rfl
 rfl
theorem kpart:(bsOf wPart).toList=[112,97,114,116]:=by kernel_rfl
theorem kchan:(bsOf wChan).toList=[99,104,97,110]:=by kernel_rfl
theorem ktable:(bsOf wTable).toList=[116,97,98,108,101]:=by kernel_rfl
set_option maxHeartbeats 16000000 in
theorem tline_any {B Br g gc:Nat} {s:List UInt8} {w:World} {x:Cf} {c:Cft} (h:RdrS Br g (some s) w) (hl:s.length≤1048576) (hc:CvS B gc x w) (hB:B≤w.heap.size) (hx:Ctn x c) (hsz:x.n1+(x.n2+x.n3)≤100000) :
  Calls Tryz.prog 43 #[.pointer (some ⟨g,0,none⟩),.pointer (some ⟨gc,0,none⟩)] w (LineX B Br g gc (lineS c s) x w):=by
 have HS0:=Lib.hid (LnS.start h hc)
 have HX:=Lib.hid hx
 have HL:=Lib.hid hl
 have HBW:=Lib.hid hB
 have HSZ:=Lib.hid hsz
 have H0:=HS0
 clear HS0
 by_cases h0:s=[]
 ·have HE:=Lib.hid (tend_nil H0.out.rd (by rw [Option.getD_some];exact h0))
  have HR:Hid (lineS c s=some (c,[])∧some s=some []∨lineS c s=none∧some s=none):=Lib.hid (.inl ⟨by unfold lineS;rw [if_pos (.inl h0)],by rw [h0]⟩)
  generalize lineS c s=R at HR ⊢
  clear h hc hx hB hsz hl h0
  go_enter Tryz.func43,Tryz.ntmps43
  obtain ⟨_,_,k2,k3,_⟩:=H0.out
  go_wp2_with fail
  refine HE.out.mono ?_
  rintro e w1 ⟨rfl,rfl⟩
  go_wp2_with fail
  first | go_end0 | refine bodyPost_ret (results_none rfl _ _ _) rfl ?_
  exact H0.out.same HX.out HR.out
 by_cases h1:s.head? = some 35
 ·obtain ⟨r,hr⟩:=take_35 h0 h1
  have HE:=Lib.hid (by obtain ⟨a,b,e⟩:∃ a b,s=a::b:=(match s,h0 with | a::b,_=>⟨a,b,rfl⟩);exact tend_cons (show RdrS Br g (some (a::b)) _ from e▸H0.out.rd))
  have HT:=Lib.hid fun W (hh:RdrS Br g (some s) W)=>ttake_yes hh 35 35 rfl hr
  have HR:Hid (lineS c s=some (c,[])):=Lib.hid (by unfold lineS;rw [if_pos (.inr h1)])
  generalize lineS c s=R at HR ⊢
  clear h hc hx hB hsz hl h0 h1 hr
  go_enter Tryz.func43,Tryz.ntmps43
  obtain ⟨_,_,k2,k3,_⟩:=H0.out
  go_wp2_with fail
  refine HE.out.mono ?_
  rintro e w1 ⟨rfl,rfl⟩
  go_wp2_with fail
  refine (HT.out _ H0.out.rd).mono ?_
  rintro e w2 ⟨rfl,hm⟩
  have H1:=Lib.hid (H0.out.step hm)
  clear hm HT k2 k3
  obtain ⟨hrd,_,k2,k3,_⟩:=H1.out
  obtain ⟨m0,m1,f0,f1,_,_⟩:=hrd.cells
  have H2:=Lib.hid (H1.out.step (Rpo.set0 hrd r [] rfl))
  clear hrd
  go_wp2_with fail
  first | go_end0 | refine bodyPost_ret (results_none rfl _ _ _) rfl ?_
  exact H2.out.same HX.out (.inl ⟨HR.out,rfl⟩)
 have HE:=Lib.hid (by obtain ⟨a,b,e⟩:∃ a b,s=a::b:=(match s,h0 with | a::b,_=>⟨a,b,rfl⟩);exact tend_cons (show RdrS Br g (some (a::b)) _ from e▸H0.out.rd))
 have HT:=Lib.hid (ttake_no H0.out.rd 35 35 rfl (take_n35 h1))
 have HU:=Lib.hid fun W (hh:RdrS Br g (some s) W)=>tupto_any hh (by rw [Option.getD_some];omega) 32 32 rfl
 have HLB0:Hid ((behindT (isB 32) s).length≤1048576):=Lib.hid (Nat.le_trans (behind_le _ _) hl)
 have hRl:lineS c s=if aheadT (isB 32) s=wPart then (partS (behindT (isB 32) s)).map fun x=>(⟨c.P++[x.1],c.C,c.T⟩,x.2)
   else if aheadT (isB 32) s=wChan then (chanS (namesP c.P) (behindT (isB 32) s)).map fun x=>(⟨c.P,c.C++[x.1],c.T⟩,x.2)
   else if aheadT (isB 32) s=wTable then (tabS (namesP c.P) (behindT (isB 32) s)).map fun x=>(⟨c.P,c.C,c.T++[x.1]⟩,x.2) else none:=by
  unfold lineS
  rw [if_neg (by simp [h0,h1])]
 rw [hRl]
 rw [show (some s).map (behindT (isB 32))=some (behindT (isB 32) s) from rfl,Option.getD_some] at HU
 obtain ⟨A1,A2,A3,n1,n2,n3,c1,c2,c3,P,C,T⟩:=x
 have HNM:Hid (namesP P=namesP c.P):=Lib.hid hx.names
 dsimp only at HSZ
 have q1:((bsOf (aheadT (isB 32) s)).toList == [112,97,114,116])=decide (aheadT (isB 32) s=wPart):=word_dec _ _ kpart
 have q2:((bsOf (aheadT (isB 32) s)).toList == [99,104,97,110])=decide (aheadT (isB 32) s=wChan):=word_dec _ _ kchan
 have q3:((bsOf (aheadT (isB 32) s)).toList == [116,97,98,108,101])=decide (aheadT (isB 32) s=wTable):=word_dec _ _ ktable
 clear h hc hx hB hsz hl h0 h1 hRl
 generalize aheadT (isB 32) s=wd at HU q1 q2 q3 ⊢
 generalize behindT (isB 32) s=rs at HU HLB0 ⊢
 generalize bsOf wd=sv at HU q1 q2 q3
 by_cases hp:wd=wPart
 ·rw [if_pos hp]
  have p1:(sv.toList == [112,97,114,116])=true:=by rw [q1,decide_eq_true hp]
  clear q1 q2 q3 hp
  go_enter Tryz.func43,Tryz.ntmps43
  obtain ⟨_,_,k2,k3,_⟩:=H0.out
  go_wp2_with fail
  refine HE.out.mono ?_
  rintro e w1 ⟨rfl,rfl⟩
  go_wp2_with fail
  refine HT.out.mono ?_
  rintro e w2 ⟨rfl,hm⟩
  have H1:=Lib.hid (H0.out.step hm)
  clear hm HT k2 k3
  obtain ⟨_,_,k2,k3,_⟩:=H1.out
  go_wp2_with fail
  refine (HU.out _ H1.out.rd).mono ?_
  rintro e W2 ⟨rfl,hm⟩
  have H2:=Lib.hid (H1.out.step hm)
  clear hm HU k2 k3
  have HLB:Hid (((some rs).getD []).length≤1048576):=HLB0
  have HBW0:Hid (B≤W2.drew.heap.size):=Lib.hid (by have:=HBW.out;have:=H2.out.gb.size;show B≤W2.heap.size;omega)
  have H2D:=Lib.hid (H2.out.step (st':=some rs) ⟨OwnV.below H2.out.rd rfl (Below.refl _ _).drew,ogb_bel (Below.refl _ _).drew⟩)
  have K0:Hid (W2.drew.cell? ⟨w.heap.size,0,none⟩=some (.pointer (some ⟨g,0,none⟩))∧W2.drew.cell? ⟨w.heap.size+1,0,none⟩=some (.pointer (some ⟨gc,0,none⟩))):=Lib.hid ⟨H2D.out.k2,H2D.out.k3⟩
  have HLA:=Lib.hid (H2D.out.a (A:=A1) (.inl rfl))
  have HPH:=Lib.hid (PhQ.keep (Br:=Br) (F:=PaQ W2.drew ((some rs).bind partS)) HLA.out fun y v v' hs hk hf=>⟨new_keep hf.1 hk HLA.out.lc HLA.out.lt,hf.2⟩)
  obtain ⟨_,_,k2,k3,_⟩:=H2.out
  go_upto_region 7 with fail
  clear k2 k3
  generalize hW0:W2.drew=W0 at HBW0 H2D K0 HLA HPH
  refine Rgs.region (w0:=W2) (by kernel_rfl) (by kernel_rfl) (fun (opn:Nat) (vl:Value) (_:World)=>match opn with | 0=>vl=.pointer (some ⟨gc,0,none⟩) | 1=>vl=.pointer (some ⟨gc,0,none⟩) | 2=>vl=.pointer (some ⟨gc,0,none⟩) | 3=>vl=.pointer (some ⟨gc,0,none⟩) | 4=>vl=.slice A1 n1 c1 | 5=>vl=.pointer (some ⟨g,0,none⟩) | 9=>vl=.pointer (some ⟨gc,0,none⟩) | 10=>vl=.pointer (some ⟨gc,0,none⟩) | _=>True) (ApG (fun y:Pq×Option (List UInt8)=>pv y.1.1) (fun y=>pcq y.1) (PhQ Br g gc w.heap.size (w.heap.size+1) A1 W0 (PaQ W0 ((some rs).bind partS))) W0 60 11 31 3 B gc [.slice A1 n1 c1,.slice A2 n2 c2,.slice A3 n3 c3] 0 B A1 n1 c1 (P.flatMap pcq) 6 7 8 11 23 24 25) ⟨fun _=>hW0,fun e=>absurd e (by decide)⟩ (Rgs.steps_of ?_) ?_
  ·refine ⟨?_,?_,?_,?_,?_,?_,?_,?_,?_,?_,?_,?_,trivial⟩
   ·intro a w1 live S E D C' h0 hk hW
    have e3:a.eval (.tmp 3)=.pointer (some ⟨w.heap.size+1,0,none⟩):=E 3 rfl
    have l9:=Reg.not_live C' h0 (j:=9) rfl rfl
    have l10:=Reg.not_live C' l9 (j:=10) rfl rfl
    have l11:=Reg.not_live C' l10 (j:=11) rfl rfl
    have hb:=(hW.phi (fun W=>W.cell? ⟨w.heap.size,0,none⟩=some (.pointer (some ⟨g,0,none⟩))∧W.cell? ⟨w.heap.size+1,0,none⟩=some (.pointer (some ⟨gc,0,none⟩))) K0.out (fun y W h=>h.2.2.1)).2
    exact Rgs.val rfl (Reg.wanted_free rfl) (.pointer (some ⟨gc,0,none⟩)) (by have c:=Reg.consts a;generalize a.eval=ρ at *;simp [execOp,go_sem,c.1,c.2,e3,hb]) rfl (hW.upd 0 17 _ (by decide) (by decide))
   ·intro a w1 live S E D C' h0 hk hW
    have e3:a.eval (.tmp 3)=.pointer (some ⟨w.heap.size+1,0,none⟩):=E 3 rfl
    have l2:=Reg.not_live C' h0 (j:=2) rfl rfl
    have l3:=Reg.not_live C' l2 (j:=3) rfl rfl
    have l4:=Reg.not_live C' l3 (j:=4) rfl rfl
    have l8:=Reg.not_live C' l4 (j:=8) rfl rfl
    have l11:=Reg.not_live C' l8 (j:=11) rfl rfl
    have hb:=(hW.phi (fun W=>W.cell? ⟨w.heap.size,0,none⟩=some (.pointer (some ⟨g,0,none⟩))∧W.cell? ⟨w.heap.size+1,0,none⟩=some (.pointer (some ⟨gc,0,none⟩))) K0.out (fun y W h=>h.2.2.1)).2
    exact Rgs.val rfl (Reg.wanted_free rfl) (.pointer (some ⟨gc,0,none⟩)) (by have c:=Reg.consts a;generalize a.eval=ρ at *;simp [execOp,go_sem,c.1,c.2,e3,hb]) rfl (hW.upd 1 18 _ (by decide) (by decide))
   ·intro a w1 live S E D C' h0 hk hW
    have d1:a.eval (.tmp 18)=.pointer (some ⟨gc,0,none⟩):=D 1 rfl _ _ rfl rfl
    exact Rgs.val rfl (Reg.wanted_free rfl) (.pointer (some ⟨gc,0,none⟩)) (by have c:=Reg.consts a;generalize a.eval=ρ at *;simp [execOp,go_sem,c.1,c.2,d1]) rfl (hW.upd 2 19 _ (by decide) (by decide))
   ·intro a w1 live S E D C' h0 hk hW
    have d2:a.eval (.tmp 19)=.pointer (some ⟨gc,0,none⟩):=D 2 rfl _ _ rfl rfl
    exact Rgs.val rfl (Reg.wanted_free rfl) (.pointer (some ⟨gc,0,none⟩)) (by have c:=Reg.consts a;generalize a.eval=ρ at *;simp [execOp,go_sem,c.1,c.2,d2]) rfl (hW.upd 3 20 _ (by decide) (by decide))
   ·intro a w1 live S E D C' h0 hk hW
    have d3:a.eval (.tmp 20)=.pointer (some ⟨gc,0,none⟩):=D 3 rfl _ _ rfl rfl
    have l8:=Reg.not_live C' h0 (j:=8) rfl rfl
    have l11:=Reg.not_live C' l8 (j:=11) rfl rfl
    have hc:=(hW.cellC l11 H2D.out.cv.s.cf 0 _ rfl).1
    exact Rgs.val rfl (Reg.wanted_free rfl) (.slice A1 n1 c1) (by have c:=Reg.consts a;generalize a.eval=ρ at *;simp [execOp,go_sem,c.1,c.2,d3,hc]) rfl (hW.upd 4 21 _ (by decide) (by decide))
   ·intro a w1 live S E D C' h0 hk hW
    have e2:a.eval (.tmp 2)=.pointer (some ⟨w.heap.size,0,none⟩):=E 2 rfl
    have l6:=Reg.not_live C' h0 (j:=6) rfl rfl
    have l7:=Reg.not_live C' l6 (j:=7) rfl rfl
    have l8:=Reg.not_live C' l7 (j:=8) rfl rfl
    have l11:=Reg.not_live C' l8 (j:=11) rfl rfl
    have hb:=(hW.phi (fun W=>W.cell? ⟨w.heap.size,0,none⟩=some (.pointer (some ⟨g,0,none⟩))∧W.cell? ⟨w.heap.size+1,0,none⟩=some (.pointer (some ⟨gc,0,none⟩))) K0.out (fun y W h=>h.2.2.1)).1
    exact Rgs.val rfl (Reg.wanted_free rfl) (.pointer (some ⟨g,0,none⟩)) (by have c:=Reg.consts a;generalize a.eval=ρ at *;simp [execOp,go_sem,c.1,c.2,e2,hb]) rfl (hW.upd 5 22 _ (by decide) (by decide))
   ·intro a w1 live S E D C' h0 hk hW
    have d5:a.eval (.tmp 22)=.pointer (some ⟨g,0,none⟩):=D 5 rfl _ _ rfl rfl
    have l7:=Reg.not_live C' h0 (j:=7) rfl rfl
    have l8:=Reg.not_live C' l7 (j:=8) rfl rfl
    have l11:=Reg.not_live C' l8 (j:=11) rfl rfl
    have hw0:w1=W0:=hW.pre h0
    refine Rgs.call rfl (Reg.wanted_free rfl) 73 #[.pointer (some ⟨g,0,none⟩)] (by have c:=Reg.consts a;generalize a.eval=ρ at *;simp [execOp,go_sem,c.1,c.2,d5]) ?_
    rw [hw0]
    refine ((tpart_any H2D.out.rd HLB.out)).mono ?_
    rintro e w5 ⟨nm,bv,pw,f1,f2,a0,a1,a2,a3,a4,Lp,st9,Ap,np,cp,rfl,hnl,i1,i2,hpl,hpn,hpo,hg,h5⟩
    have hk5:KpG g gc A1 W0 w5:=KpG.gb h5.gb
    have hs5:=H2D.out.step h5
    exact ⟨_,rfl,trivial,hW.made h0 l7 l8 l11 (by decide) (by rw [S];exact (by decide:23 < 61)) ((⟨bsOf nm,bv,pw,f1,f2,Ap,np,cp,a0,a1,a2,a3,a4⟩,Lp),st9) ⟨h5.rd,hk5,⟨hs5.k2,hs5.k3⟩,⟨hpo,by rw [bs_size];omega,i2,hpl,hpn,hg⟩⟩ h5.gb.size hs5.cv.s.pp.own hs5.cv.s.cf,fun jq vq _ hq=>hq⟩
   ·intro a w1 live S E D C' h0 hk hW
    have l8:=Reg.not_live C' h0 (j:=8) rfl rfl
    have l11:=Reg.not_live C' l8 (j:=11) rfl rfl
    have lc:live 6=true:=hk 6 rfl
    obtain ⟨x,hv,hW'⟩:=hW.lit HPH.out lc l8 l11 (by decide) (by rw [S];exact (by decide:24 < 61)) (by decide)
    refine Rgs.grow rfl (Reg.wanted_free rfl) (.slice (some ⟨w1.heap.size,0,none⟩) 1 1) (w1.alloc (.cells #[.string x.1.1.name,.int .i64 x.1.1.bud,.int .i64 x.1.1.per,.bool x.1.1.sched,.bool x.1.1.stop,.slice x.1.1.pa x.1.1.pn x.1.1.pc,.int .i64 x.1.1.h0,.int .i64 x.1.1.h1,.int .i64 x.1.1.h2,.int .i64 x.1.1.h3,.int .i64 x.1.1.h4] 60)) ?_ trivial hW' (fun j v _ h=>h)
    have hv2:a.eval (.tmp 23)=.agg #[.string x.1.1.name,.int .i64 x.1.1.bud,.int .i64 x.1.1.per,.bool x.1.1.sched,.bool x.1.1.stop,.slice x.1.1.pa x.1.1.pn x.1.1.pc,.int .i64 x.1.1.h0,.int .i64 x.1.1.h1,.int .i64 x.1.1.h2,.int .i64 x.1.1.h3,.int .i64 x.1.1.h4]:=hv
    have c:=Reg.consts a
    generalize a.eval=ρ at *
    simp [execOp,go_sem,c.1,c.2,hv2]
   ·intro a w1 live S E D C' h0 hk hW
    have d4:a.eval (.tmp 21)=.slice A1 n1 c1:=D 4 rfl _ _ rfl rfl
    have l11:=Reg.not_live C' h0 (j:=11) rfl rfl
    have lb:live 7=true:=hk 7 rfl
    have lc:live 6=true:=C' _ _ rfl lb 6 rfl
    obtain ⟨gb,qb,A',c',w',hrun,hW'⟩:=hW.app elPt HPH.out lc lb h0 l11 (by decide) (by rw [S];exact (by decide:25 < 61)) (by decide) (fun y=>pcq_len y.1) (fun y=>i_pcq y.1) (by decide) (by have:=HSZ.out;omega) (by have:=HSZ.out;omega) HBW0.out
    refine Rgs.grow rfl (Reg.wanted_free rfl) (.slice A' (n1+1:Nat) c') w' ?_ trivial hW' (fun j v _ h=>h)
    have cc:=Reg.consts a
    generalize a.eval=ρ at *
    simp only [execOp,resolve,invoke,builtin,Sem.run_bind,Sem.run_pure,Result.andThen_ok,List.map_toArray,List.map_cons,List.map_nil,d4,qb,hrun]
   ·intro a w1 live S E D C' h0 hk hW
    have d0:a.eval (.tmp 17)=.pointer (some ⟨gc,0,none⟩):=D 0 rfl _ _ rfl rfl
    exact Rgs.val rfl (Reg.wanted_free rfl) (.pointer (some ⟨gc,0,none⟩)) (by have c:=Reg.consts a;generalize a.eval=ρ at *;simp [execOp,go_sem,c.1,c.2,d0]) rfl (hW.upd 9 26 _ (by decide) (by decide))
   ·intro a w1 live S E D C' h0 hk hW
    have d9:a.eval (.tmp 26)=.pointer (some ⟨gc,0,none⟩):=D 9 rfl _ _ rfl rfl
    exact Rgs.val rfl (Reg.wanted_free rfl) (.pointer (some ⟨gc,0,none⟩)) (by have c:=Reg.consts a;generalize a.eval=ρ at *;simp [execOp,go_sem,c.1,c.2,d9]) rfl (hW.upd 10 27 _ (by decide) (by decide))
   ·intro a w1 live S E D C' h0 hk hW
    have d10:a.eval (.tmp 27)=.pointer (some ⟨gc,0,none⟩):=D 10 rfl _ _ rfl rfl
    have la:live 8=true:=hk 8 rfl
    have lb:live 7=true:=C' _ _ rfl la 7 rfl
    have lc:live 6=true:=C' _ _ rfl lb 6 rfl
    obtain ⟨A',c',qa,hW'⟩:=hW.put HPH.out lc la h0 (by decide) (by decide) (by decide)
    have hc:=hW.cellC h0 H2D.out.cv.s.cf 0 _ rfl
    have hc1:=hc.1
    have hc2:=hc.2
    exact Rgs.store rfl (Reg.wanted_free rfl) (w1.setCell ⟨gc,0,none⟩ (.slice A' (n1+1:Nat) c')) (by have c:=Reg.consts a;generalize a.eval=ρ at *;simp [execOp,go_sem,c.1,c.2,d10,qa,hc1,hc2]) trivial hW' (fun j v _ h=>h)
  intro a w9 live hs hd E Dv Hl hW
  obtain ⟨x9,r1,hx9,r2,r3,r4,r5,r6,hfin⟩:=hW.res (Hl 6 (by decide))
  obtain ⟨A9,c9,hO9,hat9,hT9⟩:=hfin (Hl 11 (by decide))
  have HX9:=Lib.hid hx9
  have H9O:=Lib.hid hO9
  have H9T:=Lib.hid hT9
  rw [Rgs.act_ws a _ _ hs hd E [17,18,19,20,21,22,23,24,25,26,27] (by kernel_rfl)]
  simp only [List.foldl,List.setIfInBounds_toArray,List.set_cons_succ,List.set_cons_zero]
  clear r1 r2 r3 r4 r5 r6 E Dv Hl hW hx9 hO9 hat9 hT9 hfin
  generalize a.eval=ρ9
  clear a hs hd
  have HKL:Hid (KpL g gc ⟨A1,A2,A3,n1,n2,n3,c1,c2,c3,P,C,T⟩ w w9):=Lib.hid (KpL.of ((KpG.gb H2D.out.gb).trans HX9.out.2.1) (.inl rfl))
  go_wp2_with fail
  first | go_end0 | refine bodyPost_ret (results_none rfl _ _ _) rfl ?_
  obtain ⟨hrd,hkp,_,hpo,hnm,hper,hpl,hpn,hgot⟩:=HX9.out
  obtain ⟨g1,g2⟩:=hgot
  rw [Option.bind_some] at g1 g2
  refine ⟨rfl,x9.2,?_,hrd,HKL.out,fun c' r e=>?_⟩
  ·rw [g1,Option.map_map];rfl
  ·cases hz:partS rs with
   | none=>rw [hz] at e;cases e
   | some z =>
    rw [hz] at e
    injection e with e
    injection e with e1 e2
    have hy:=g2 z hz
    refine ⟨_,H2D.out.cv.part1 H2D.out.rd hkp x9.1 H9O.out H9T.out (OwnV.weak hpo HBW0.out) ⟨hper,by omega,hpl,by omega⟩ (by have:=HSZ.out;omega),?_,by show n1+1+(n2+n3)≤n1+(n2+n3)+1;omega⟩
    rw [← e1]
    refine ⟨?_,HX.out.ec,HX.out.et⟩
    show (P++[x9.1]).map stripP=c.P++[z.1]
    rw [List.map_append,show P.map stripP=c.P from HX.out.ep,← hy]
    rfl
 rw [if_neg hp]
 have p1:(sv.toList == [112,97,114,116])=false:=by rw [q1,decide_eq_false hp]
 by_cases hc:wd=wChan
 ·rw [if_pos hc]
  have p2:(sv.toList == [99,104,97,110])=true:=by rw [q2,decide_eq_true hc]
  clear q1 q2 q3 hp hc
  go_enter Tryz.func43,Tryz.ntmps43
  obtain ⟨_,_,k2,k3,_⟩:=H0.out
  go_wp2_with fail
  refine HE.out.mono ?_
  rintro e w1 ⟨rfl,rfl⟩
  go_wp2_with fail
  refine HT.out.mono ?_
  rintro e w2 ⟨rfl,hm⟩
  have H1:=Lib.hid (H0.out.step hm)
  clear hm HT k2 k3
  obtain ⟨_,_,k2,k3,_⟩:=H1.out
  go_wp2_with fail
  refine (HU.out _ H1.out.rd).mono ?_
  rintro e W2 ⟨rfl,hm⟩
  have H2:=Lib.hid (H1.out.step hm)
  clear hm HU k2 k3
  have HLB:Hid (((some rs).getD []).length≤1048576):=HLB0
  have HBW0:Hid (B≤W2.drew.heap.size):=Lib.hid (by have:=HBW.out;have:=H2.out.gb.size;show B≤W2.heap.size;omega)
  have H2D:=Lib.hid (H2.out.step (st':=some rs) ⟨OwnV.below H2.out.rd rfl (Below.refl _ _).drew,ogb_bel (Below.refl _ _).drew⟩)
  have K0:Hid (W2.drew.cell? ⟨w.heap.size,0,none⟩=some (.pointer (some ⟨g,0,none⟩))∧W2.drew.cell? ⟨w.heap.size+1,0,none⟩=some (.pointer (some ⟨gc,0,none⟩))):=Lib.hid ⟨H2D.out.k2,H2D.out.k3⟩
  have HLA:=Lib.hid (H2D.out.a (A:=A2) (.inr (.inl rfl)))
  have HPH:=Lib.hid (PhQ.keep (Br:=Br) (F:=ChQ ((some rs).bind (chanS (namesP P)))) HLA.out fun y v v' hs hk hf=>hf)
  obtain ⟨_,_,k2,k3,_⟩:=H2.out
  go_upto_region 9 with fail
  clear k2 k3
  generalize hW0:W2.drew=W0 at HBW0 H2D K0 HLA HPH
  refine Rgs.region (w0:=W2) (by kernel_rfl) (by kernel_rfl) (fun (opn:Nat) (vl:Value) (_:World)=>match opn with | 0=>vl=.pointer (some ⟨gc,0,none⟩) | 1=>vl=.pointer (some ⟨gc,0,none⟩) | 2=>vl=.pointer (some ⟨gc,0,none⟩) | 3=>vl=.pointer (some ⟨gc,1,none⟩) | 4=>vl=.slice A2 n2 c2 | 5=>vl=.pointer (some ⟨g,0,none⟩) | 6=>vl=.pointer (some ⟨gc,0,none⟩) | 7=>vl=.pointer (some ⟨gc,0,none⟩) | 8=>vl=.pointer (some ⟨gc,0,none⟩) | 9=>vl=.slice A1 n1 c1 | 13=>vl=.pointer (some ⟨gc,0,none⟩) | 14=>vl=.pointer (some ⟨gc,1,none⟩) | _=>True) (ApG (fun y:ChV×Option (List UInt8)=>cv y.1) (fun y=>cc y.1) (PhQ Br g gc w.heap.size (w.heap.size+1) A2 W0 (ChQ ((some rs).bind (chanS (namesP P))))) W0 66 6 31 3 B gc [.slice A1 n1 c1,.slice A2 n2 c2,.slice A3 n3 c3] 1 B A2 n2 c2 (C.flatMap cc) 10 11 12 15 40 41 42) ⟨fun _=>hW0,fun e=>absurd e (by decide)⟩ (Rgs.steps_of ?_) ?_
  ·refine ⟨?_,?_,?_,?_,?_,?_,?_,?_,?_,?_,?_,?_,?_,?_,?_,?_,trivial⟩
   ·intro a w1 live S E D C' h0 hk hW
    have e3:a.eval (.tmp 3)=.pointer (some ⟨w.heap.size+1,0,none⟩):=E 3 rfl
    have l13:=Reg.not_live C' h0 (j:=13) rfl rfl
    have l14:=Reg.not_live C' l13 (j:=14) rfl rfl
    have l15:=Reg.not_live C' l14 (j:=15) rfl rfl
    have hb:=(hW.phi (fun W=>W.cell? ⟨w.heap.size,0,none⟩=some (.pointer (some ⟨g,0,none⟩))∧W.cell? ⟨w.heap.size+1,0,none⟩=some (.pointer (some ⟨gc,0,none⟩))) K0.out (fun y W h=>h.2.2.1)).2
    exact Rgs.val rfl (Reg.wanted_free rfl) (.pointer (some ⟨gc,0,none⟩)) (by have c:=Reg.consts a;generalize a.eval=ρ at *;simp [execOp,go_sem,c.1,c.2,e3,hb]) rfl (hW.upd 0 30 _ (by decide) (by decide))
   ·intro a w1 live S E D C' h0 hk hW
    have e3:a.eval (.tmp 3)=.pointer (some ⟨w.heap.size+1,0,none⟩):=E 3 rfl
    have l2:=Reg.not_live C' h0 (j:=2) rfl rfl
    have l3:=Reg.not_live C' l2 (j:=3) rfl rfl
    have l4:=Reg.not_live C' l3 (j:=4) rfl rfl
    have l12:=Reg.not_live C' l4 (j:=12) rfl rfl
    have l15:=Reg.not_live C' l12 (j:=15) rfl rfl
    have hb:=(hW.phi (fun W=>W.cell? ⟨w.heap.size,0,none⟩=some (.pointer (some ⟨g,0,none⟩))∧W.cell? ⟨w.heap.size+1,0,none⟩=some (.pointer (some ⟨gc,0,none⟩))) K0.out (fun y W h=>h.2.2.1)).2
    exact Rgs.val rfl (Reg.wanted_free rfl) (.pointer (some ⟨gc,0,none⟩)) (by have c:=Reg.consts a;generalize a.eval=ρ at *;simp [execOp,go_sem,c.1,c.2,e3,hb]) rfl (hW.upd 1 31 _ (by decide) (by decide))
   ·intro a w1 live S E D C' h0 hk hW
    have d1:a.eval (.tmp 31)=.pointer (some ⟨gc,0,none⟩):=D 1 rfl _ _ rfl rfl
    exact Rgs.val rfl (Reg.wanted_free rfl) (.pointer (some ⟨gc,0,none⟩)) (by have c:=Reg.consts a;generalize a.eval=ρ at *;simp [execOp,go_sem,c.1,c.2,d1]) rfl (hW.upd 2 32 _ (by decide) (by decide))
   ·intro a w1 live S E D C' h0 hk hW
    have d2:a.eval (.tmp 32)=.pointer (some ⟨gc,0,none⟩):=D 2 rfl _ _ rfl rfl
    exact Rgs.val rfl (Reg.wanted_free rfl) (.pointer (some ⟨gc,1,none⟩)) (by have c:=Reg.consts a;generalize a.eval=ρ at *;simp [execOp,go_sem,c.1,c.2,d2]) rfl (hW.upd 3 33 _ (by decide) (by decide))
   ·intro a w1 live S E D C' h0 hk hW
    have d3:a.eval (.tmp 33)=.pointer (some ⟨gc,1,none⟩):=D 3 rfl _ _ rfl rfl
    have l12:=Reg.not_live C' h0 (j:=12) rfl rfl
    have l15:=Reg.not_live C' l12 (j:=15) rfl rfl
    have hc:=(hW.cellC l15 H2D.out.cv.s.cf 1 _ rfl).1
    exact Rgs.val rfl (Reg.wanted_free rfl) (.slice A2 n2 c2) (by have c:=Reg.consts a;generalize a.eval=ρ at *;simp [execOp,go_sem,c.1,c.2,d3,hc]) rfl (hW.upd 4 34 _ (by decide) (by decide))
   ·intro a w1 live S E D C' h0 hk hW
    have e2:a.eval (.tmp 2)=.pointer (some ⟨w.heap.size,0,none⟩):=E 2 rfl
    have l10:=Reg.not_live C' h0 (j:=10) rfl rfl
    have l11:=Reg.not_live C' l10 (j:=11) rfl rfl
    have l12:=Reg.not_live C' l11 (j:=12) rfl rfl
    have l15:=Reg.not_live C' l12 (j:=15) rfl rfl
    have hb:=(hW.phi (fun W=>W.cell? ⟨w.heap.size,0,none⟩=some (.pointer (some ⟨g,0,none⟩))∧W.cell? ⟨w.heap.size+1,0,none⟩=some (.pointer (some ⟨gc,0,none⟩))) K0.out (fun y W h=>h.2.2.1)).1
    exact Rgs.val rfl (Reg.wanted_free rfl) (.pointer (some ⟨g,0,none⟩)) (by have c:=Reg.consts a;generalize a.eval=ρ at *;simp [execOp,go_sem,c.1,c.2,e2,hb]) rfl (hW.upd 5 35 _ (by decide) (by decide))
   ·intro a w1 live S E D C' h0 hk hW
    have e3:a.eval (.tmp 3)=.pointer (some ⟨w.heap.size+1,0,none⟩):=E 3 rfl
    have l7:=Reg.not_live C' h0 (j:=7) rfl rfl
    have l8:=Reg.not_live C' l7 (j:=8) rfl rfl
    have l9:=Reg.not_live C' l8 (j:=9) rfl rfl
    have l10:=Reg.not_live C' l9 (j:=10) rfl rfl
    have l11:=Reg.not_live C' l10 (j:=11) rfl rfl
    have l12:=Reg.not_live C' l11 (j:=12) rfl rfl
    have l15:=Reg.not_live C' l12 (j:=15) rfl rfl
    have hb:=(hW.phi (fun W=>W.cell? ⟨w.heap.size,0,none⟩=some (.pointer (some ⟨g,0,none⟩))∧W.cell? ⟨w.heap.size+1,0,none⟩=some (.pointer (some ⟨gc,0,none⟩))) K0.out (fun y W h=>h.2.2.1)).2
    exact Rgs.val rfl (Reg.wanted_free rfl) (.pointer (some ⟨gc,0,none⟩)) (by have c:=Reg.consts a;generalize a.eval=ρ at *;simp [execOp,go_sem,c.1,c.2,e3,hb]) rfl (hW.upd 6 36 _ (by decide) (by decide))
   ·intro a w1 live S E D C' h0 hk hW
    have d6:a.eval (.tmp 36)=.pointer (some ⟨gc,0,none⟩):=D 6 rfl _ _ rfl rfl
    exact Rgs.val rfl (Reg.wanted_free rfl) (.pointer (some ⟨gc,0,none⟩)) (by have c:=Reg.consts a;generalize a.eval=ρ at *;simp [execOp,go_sem,c.1,c.2,d6]) rfl (hW.upd 7 37 _ (by decide) (by decide))
   ·intro a w1 live S E D C' h0 hk hW
    have d7:a.eval (.tmp 37)=.pointer (some ⟨gc,0,none⟩):=D 7 rfl _ _ rfl rfl
    exact Rgs.val rfl (Reg.wanted_free rfl) (.pointer (some ⟨gc,0,none⟩)) (by have c:=Reg.consts a;generalize a.eval=ρ at *;simp [execOp,go_sem,c.1,c.2,d7]) rfl (hW.upd 8 38 _ (by decide) (by decide))
   ·intro a w1 live S E D C' h0 hk hW
    have d8:a.eval (.tmp 38)=.pointer (some ⟨gc,0,none⟩):=D 8 rfl _ _ rfl rfl
    have l10:=Reg.not_live C' h0 (j:=10) rfl rfl
    have l11:=Reg.not_live C' l10 (j:=11) rfl rfl
    have l12:=Reg.not_live C' l11 (j:=12) rfl rfl
    have l15:=Reg.not_live C' l12 (j:=15) rfl rfl
    have hc:=(hW.cellC l15 H2D.out.cv.s.cf 0 _ rfl).1
    exact Rgs.val rfl (Reg.wanted_free rfl) (.slice A1 n1 c1) (by have c:=Reg.consts a;generalize a.eval=ρ at *;simp [execOp,go_sem,c.1,c.2,d8,hc]) rfl (hW.upd 9 39 _ (by decide) (by decide))
   ·intro a w1 live S E D C' h0 hk hW
    have d5:a.eval (.tmp 35)=.pointer (some ⟨g,0,none⟩):=D 5 rfl _ _ rfl rfl
    have d9:a.eval (.tmp 39)=.slice A1 n1 c1:=D 9 rfl _ _ rfl rfl
    have l11:=Reg.not_live C' h0 (j:=11) rfl rfl
    have l12:=Reg.not_live C' l11 (j:=12) rfl rfl
    have l15:=Reg.not_live C' l12 (j:=15) rfl rfl
    have hw0:w1=W0:=hW.pre h0
    refine Rgs.call rfl (Reg.wanted_free rfl) 74 #[.pointer (some ⟨g,0,none⟩),.slice A1 n1 c1] (by have c:=Reg.consts a;generalize a.eval=ρ at *;simp [execOp,go_sem,c.1,c.2,d5,d9]) ?_
    rw [hw0]
    refine ((tchan_any H2D.out.rd HLB.out A1 n1 c1 P (fun W hW=>((H2D.out.cv).rdr H2D.out.rd hW).s.pp.rdb) (by have:=HSZ.out;omega))).mono ?_
    rintro e w5 ⟨z,st9,rfl,i1,hg,h5⟩
    have hk5:KpG g gc A2 W0 w5:=KpG.gb h5.gb
    have hs5:=H2D.out.step h5
    exact ⟨_,rfl,trivial,hW.made h0 l11 l12 l15 (by decide) (by rw [S];exact (by decide:40 < 61)) ((⟨z.from_,z.to_,z.queue,z.cap,z.max % 4294967296,z.late⟩:ChV),st9) ⟨h5.rd,hk5,⟨hs5.k2,hs5.k3⟩,⟨z,hg,rfl⟩⟩ h5.gb.size hs5.cv.s.ch.own hs5.cv.s.cf,fun jq vq _ hq=>hq⟩
   ·intro a w1 live S E D C' h0 hk hW
    have l12:=Reg.not_live C' h0 (j:=12) rfl rfl
    have l15:=Reg.not_live C' l12 (j:=15) rfl rfl
    have lc:live 10=true:=hk 10 rfl
    obtain ⟨x,hv,hW'⟩:=hW.lit HPH.out lc l12 l15 (by decide) (by rw [S];exact (by decide:41 < 61)) (by decide)
    refine Rgs.grow rfl (Reg.wanted_free rfl) (.slice (some ⟨w1.heap.size,0,none⟩) 1 1) (w1.alloc (.cells #[.int .i64 x.1.from_,.int .i64 x.1.to_,.bool x.1.queue,.int .i64 x.1.cap,.int .u32 x.1.max,.int .i64 x.1.late] 66)) ?_ trivial hW' (fun j v _ h=>h)
    have hv2:a.eval (.tmp 40)=.agg #[.int .i64 x.1.from_,.int .i64 x.1.to_,.bool x.1.queue,.int .i64 x.1.cap,.int .u32 x.1.max,.int .i64 x.1.late]:=hv
    have c:=Reg.consts a
    generalize a.eval=ρ at *
    simp [execOp,go_sem,c.1,c.2,hv2]
   ·intro a w1 live S E D C' h0 hk hW
    have d4:a.eval (.tmp 34)=.slice A2 n2 c2:=D 4 rfl _ _ rfl rfl
    have l15:=Reg.not_live C' h0 (j:=15) rfl rfl
    have lb:live 11=true:=hk 11 rfl
    have lc:live 10=true:=C' _ _ rfl lb 10 rfl
    obtain ⟨gb,qb,A',c',w',hrun,hW'⟩:=hW.app elCh HPH.out lc lb h0 l15 (by decide) (by rw [S];exact (by decide:42 < 61)) (by decide) (fun y=>rfl) (fun y=>i_cc y.1) (by decide) (by have:=HSZ.out;omega) (by have:=HSZ.out;omega) HBW0.out
    refine Rgs.grow rfl (Reg.wanted_free rfl) (.slice A' (n2+1:Nat) c') w' ?_ trivial hW' (fun j v _ h=>h)
    have cc:=Reg.consts a
    generalize a.eval=ρ at *
    simp only [execOp,resolve,invoke,builtin,Sem.run_bind,Sem.run_pure,Result.andThen_ok,List.map_toArray,List.map_cons,List.map_nil,d4,qb,hrun]
   ·intro a w1 live S E D C' h0 hk hW
    have d0:a.eval (.tmp 30)=.pointer (some ⟨gc,0,none⟩):=D 0 rfl _ _ rfl rfl
    exact Rgs.val rfl (Reg.wanted_free rfl) (.pointer (some ⟨gc,0,none⟩)) (by have c:=Reg.consts a;generalize a.eval=ρ at *;simp [execOp,go_sem,c.1,c.2,d0]) rfl (hW.upd 13 43 _ (by decide) (by decide))
   ·intro a w1 live S E D C' h0 hk hW
    have d13:a.eval (.tmp 43)=.pointer (some ⟨gc,0,none⟩):=D 13 rfl _ _ rfl rfl
    exact Rgs.val rfl (Reg.wanted_free rfl) (.pointer (some ⟨gc,1,none⟩)) (by have c:=Reg.consts a;generalize a.eval=ρ at *;simp [execOp,go_sem,c.1,c.2,d13]) rfl (hW.upd 14 44 _ (by decide) (by decide))
   ·intro a w1 live S E D C' h0 hk hW
    have d14:a.eval (.tmp 44)=.pointer (some ⟨gc,1,none⟩):=D 14 rfl _ _ rfl rfl
    have la:live 12=true:=hk 12 rfl
    have lb:live 11=true:=C' _ _ rfl la 11 rfl
    have lc:live 10=true:=C' _ _ rfl lb 10 rfl
    obtain ⟨A',c',qa,hW'⟩:=hW.put HPH.out lc la h0 (by decide) (by decide) (by decide)
    have hc:=hW.cellC h0 H2D.out.cv.s.cf 1 _ rfl
    have hc1:=hc.1
    have hc2:=hc.2
    exact Rgs.store rfl (Reg.wanted_free rfl) (w1.setCell ⟨gc,1,none⟩ (.slice A' (n2+1:Nat) c')) (by have c:=Reg.consts a;generalize a.eval=ρ at *;simp [execOp,go_sem,c.1,c.2,d14,qa,hc1,hc2]) trivial hW' (fun j v _ h=>h)
  intro a w9 live hs hd E Dv Hl hW
  obtain ⟨x9,r1,hx9,r2,r3,r4,r5,r6,hfin⟩:=hW.res (Hl 10 (by decide))
  obtain ⟨A9,c9,hO9,hat9,hT9⟩:=hfin (Hl 15 (by decide))
  have HX9:=Lib.hid hx9
  have H9O:=Lib.hid hO9
  have H9T:=Lib.hid hT9
  rw [Rgs.act_ws a _ _ hs hd E [30,31,32,33,34,35,36,37,38,39,40,41,42,43,44] (by kernel_rfl)]
  simp only [List.foldl,List.setIfInBounds_toArray,List.set_cons_succ,List.set_cons_zero]
  clear r1 r2 r3 r4 r5 r6 E Dv Hl hW hx9 hO9 hat9 hT9 hfin
  generalize a.eval=ρ9
  clear a hs hd
  have HKL:Hid (KpL g gc ⟨A1,A2,A3,n1,n2,n3,c1,c2,c3,P,C,T⟩ w w9):=Lib.hid (KpL.of ((KpG.gb H2D.out.gb).trans HX9.out.2.1) (.inr (.inl rfl)))
  go_wp2_with fail
  first | go_end0 | refine bodyPost_ret (results_none rfl _ _ _) rfl ?_
  obtain ⟨hrd,hkp,_,zz,hgot,hzz⟩:=HX9.out
  obtain ⟨g1,g2⟩:=hgot
  rw [Option.bind_some] at g1 g2
  refine ⟨rfl,x9.2,?_,hrd,HKL.out,fun c' r e=>?_⟩
  ·rw [g1,← HNM.out,Option.map_map];rfl
  ·rw [← HNM.out] at e
   cases hz:chanS (namesP P) rs with
   | none=>rw [hz] at e;cases e
   | some z =>
    rw [hz] at e
    injection e with e
    injection e with e1 e2
    have hy:=g2 z hz
    have hm:=chanS_max hz
    rw [← hy] at hm
    have hx9:x9.1=z.1:=by
     rw [hzz,← hy]
     have:zz.max % 4294967296=zz.max:=by unfold lim32 at hm;omega
     rw [this]
    refine ⟨_,H2D.out.cv.chan1 H2D.out.rd hkp x9.1 H9O.out H9T.out (by have:=HSZ.out;omega),?_,by show n1+(n2+1+n3)≤n1+(n2+n3)+1;omega⟩
    rw [← e1]
    refine ⟨HX.out.ep,?_,HX.out.et⟩
    show C++[x9.1]=c.C++[z.1]
    rw [show C=c.C from HX.out.ec,hx9]
 rw [if_neg hc]
 have p2:(sv.toList == [99,104,97,110])=false:=by rw [q2,decide_eq_false hc]
 by_cases ht:wd=wTable
 ·rw [if_pos ht]
  have p3:(sv.toList == [116,97,98,108,101])=true:=by rw [q3,decide_eq_true ht]
  clear q1 q2 q3 hp hc ht
  go_enter Tryz.func43,Tryz.ntmps43
  obtain ⟨_,_,k2,k3,_⟩:=H0.out
  go_wp2_with fail
  refine HE.out.mono ?_
  rintro e w1 ⟨rfl,rfl⟩
  go_wp2_with fail
  refine HT.out.mono ?_
  rintro e w2 ⟨rfl,hm⟩
  have H1:=Lib.hid (H0.out.step hm)
  clear hm HT k2 k3
  obtain ⟨_,_,k2,k3,_⟩:=H1.out
  go_wp2_with fail
  refine (HU.out _ H1.out.rd).mono ?_
  rintro e W2 ⟨rfl,hm⟩
  have H2:=Lib.hid (H1.out.step hm)
  clear hm HU k2 k3
  have HM:=Lib.hid (tmust_any H2.out.rd 32 32 rfl)
  obtain ⟨_,_,k2,k3,_⟩:=H2.out
  go_wp2_with fail
  refine HM.out.mono ?_
  rintro e W3 ⟨rfl,hm⟩
  have H3:=Lib.hid (H2.out.step hm)
  clear hm HM k2 k3
  have HLB:Hid ((((some rs).bind (takeB 32)).getD []).length≤1048576):=Lib.hid (Nat.le_trans (take_le _ _) HLB0.out)
  obtain ⟨s3,hs3⟩:∃ s3,s3=(some rs).bind (takeB 32):=⟨_,rfl⟩
  rw [← hs3] at H3 HLB
  have HS3:=Lib.hid hs3
  clear H2 hs3
  have H2:=H3
  clear H3
  have HBW0:Hid (B≤W3.drew.heap.size):=Lib.hid (by have:=HBW.out;have:=H2.out.gb.size;show B≤W3.heap.size;omega)
  have H2D:=Lib.hid (H2.out.step (st':=s3) ⟨OwnV.below H2.out.rd rfl (Below.refl _ _).drew,ogb_bel (Below.refl _ _).drew⟩)
  have K0:Hid (W3.drew.cell? ⟨w.heap.size,0,none⟩=some (.pointer (some ⟨g,0,none⟩))∧W3.drew.cell? ⟨w.heap.size+1,0,none⟩=some (.pointer (some ⟨gc,0,none⟩))):=Lib.hid ⟨H2D.out.k2,H2D.out.k3⟩
  have HLA:=Lib.hid (H2D.out.a (A:=A3) (.inr (.inr rfl)))
  have HPH:=Lib.hid (PhQ.keep (Br:=Br) (F:=TaQ W3.drew (s3.bind (tableS (knownS (namesP P) 58)))) HLA.out fun y v v' hs hk hf=>⟨new_keep hf.1 hk HLA.out.lc HLA.out.lt,hf.2⟩)
  have HWHO:Hid (WhoW W3.drew.heap.size Br g W3.drew 76 #[.pointer (some ⟨w.heap.size,0,none⟩),.pointer (some ⟨w.heap.size+1,0,none⟩)] (knownS (namesP P) 58)):=Lib.hid ⟨fun s p h=>knownS_le h,fun args w=>by simp,fun st W hk hr hl=>by
   have hgb:W3.drew.grownBy W (some g):=⟨hk.os,hk.tape,hk.output,hk.size,fun i hi hne=>hk.block i hi fun e=>hne (by rw [e])⟩
   have h5:=H2D.out.step (st':=st) ⟨hr,hgb⟩
   exact tline1_any hr hl A1 n1 c1 P (fun W' hW'=>(h5.cv.rdr hr hW').s.pp.rdb) (by have:=HSZ.out;omega) h5.k2 h5.k3 (row_facts h5.cv.s.cf 0 _ rfl).1⟩
  obtain ⟨_,_,k2,k3,_⟩:=H2.out
  go_upto_region 12 with fail
  clear k2 k3
  generalize hW0:W3.drew=W0 at HBW0 H2D K0 HLA HPH HWHO
  refine Rgs.region (w0:=W3) (by kernel_rfl) (by kernel_rfl) (fun (opn:Nat) (vl:Value) (_:World)=>match opn with | 0=>vl=.pointer (some ⟨gc,0,none⟩) | 1=>vl=.pointer (some ⟨gc,0,none⟩) | 2=>vl=.pointer (some ⟨gc,0,none⟩) | 3=>vl=.pointer (some ⟨gc,2,none⟩) | 4=>vl=.slice A3 n3 c3 | 5=>vl=.pointer (some ⟨g,0,none⟩) | 6=>vl=.func (.func 76) #[] #[.pointer (some ⟨w.heap.size,0,none⟩),.pointer (some ⟨w.heap.size+1,0,none⟩)] | 10=>vl=.pointer (some ⟨gc,0,none⟩) | 11=>vl=.pointer (some ⟨gc,2,none⟩) | _=>True) (ApG (fun y:NdT×Option (List UInt8)=>.slice y.1.A y.1.n y.1.c) (fun y=>tcn y.1) (PhQ Br g gc w.heap.size (w.heap.size+1) A3 W0 (TaQ W0 (s3.bind (tableS (knownS (namesP P) 58))))) W0 34 1 31 3 B gc [.slice A1 n1 c1,.slice A2 n2 c2,.slice A3 n3 c3] 2 B A3 n3 c3 (T.flatMap tcn) 7 8 9 12 56 57 58) ⟨fun _=>hW0,fun e=>absurd e (by decide)⟩ (Rgs.steps_of ?_) ?_
  ·refine ⟨?_,?_,?_,?_,?_,?_,?_,?_,?_,?_,?_,?_,?_,trivial⟩
   ·intro a w1 live S E D C' h0 hk hW
    have e3:a.eval (.tmp 3)=.pointer (some ⟨w.heap.size+1,0,none⟩):=E 3 rfl
    have l10:=Reg.not_live C' h0 (j:=10) rfl rfl
    have l11:=Reg.not_live C' l10 (j:=11) rfl rfl
    have l12:=Reg.not_live C' l11 (j:=12) rfl rfl
    have hb:=(hW.phi (fun W=>W.cell? ⟨w.heap.size,0,none⟩=some (.pointer (some ⟨g,0,none⟩))∧W.cell? ⟨w.heap.size+1,0,none⟩=some (.pointer (some ⟨gc,0,none⟩))) K0.out (fun y W h=>h.2.2.1)).2
    exact Rgs.val rfl (Reg.wanted_free rfl) (.pointer (some ⟨gc,0,none⟩)) (by have c:=Reg.consts a;generalize a.eval=ρ at *;simp [execOp,go_sem,c.1,c.2,e3,hb]) rfl (hW.upd 0 49 _ (by decide) (by decide))
   ·intro a w1 live S E D C' h0 hk hW
    have e3:a.eval (.tmp 3)=.pointer (some ⟨w.heap.size+1,0,none⟩):=E 3 rfl
    have l2:=Reg.not_live C' h0 (j:=2) rfl rfl
    have l3:=Reg.not_live C' l2 (j:=3) rfl rfl
    have l4:=Reg.not_live C' l3 (j:=4) rfl rfl
    have l9:=Reg.not_live C' l4 (j:=9) rfl rfl
    have l12:=Reg.not_live C' l9 (j:=12) rfl rfl
    have hb:=(hW.phi (fun W=>W.cell? ⟨w.heap.size,0,none⟩=some (.pointer (some ⟨g,0,none⟩))∧W.cell? ⟨w.heap.size+1,0,none⟩=some (.pointer (some ⟨gc,0,none⟩))) K0.out (fun y W h=>h.2.2.1)).2
    exact Rgs.val rfl (Reg.wanted_free rfl) (.pointer (some ⟨gc,0,none⟩)) (by have c:=Reg.consts a;generalize a.eval=ρ at *;simp [execOp,go_sem,c.1,c.2,e3,hb]) rfl (hW.upd 1 50 _ (by decide) (by decide))
   ·intro a w1 live S E D C' h0 hk hW
    have d1:a.eval (.tmp 50)=.pointer (some ⟨gc,0,none⟩):=D 1 rfl _ _ rfl rfl
    exact Rgs.val rfl (Reg.wanted_free rfl) (.pointer (some ⟨gc,0,none⟩)) (by have c:=Reg.consts a;generalize a.eval=ρ at *;simp [execOp,go_sem,c.1,c.2,d1]) rfl (hW.upd 2 51 _ (by decide) (by decide))
   ·intro a w1 live S E D C' h0 hk hW
    have d2:a.eval (.tmp 51)=.pointer (some ⟨gc,0,none⟩):=D 2 rfl _ _ rfl rfl
    exact Rgs.val rfl (Reg.wanted_free rfl) (.pointer (some ⟨gc,2,none⟩)) (by have c:=Reg.consts a;generalize a.eval=ρ at *;simp [execOp,go_sem,c.1,c.2,d2]) rfl (hW.upd 3 52 _ (by decide) (by decide))
   ·intro a w1 live S E D C' h0 hk hW
    have d3:a.eval (.tmp 52)=.pointer (some ⟨gc,2,none⟩):=D 3 rfl _ _ rfl rfl
    have l9:=Reg.not_live C' h0 (j:=9) rfl rfl
    have l12:=Reg.not_live C' l9 (j:=12) rfl rfl
    have hc:=(hW.cellC l12 H2D.out.cv.s.cf 2 _ rfl).1
    exact Rgs.val rfl (Reg.wanted_free rfl) (.slice A3 n3 c3) (by have c:=Reg.consts a;generalize a.eval=ρ at *;simp [execOp,go_sem,c.1,c.2,d3,hc]) rfl (hW.upd 4 53 _ (by decide) (by decide))
   ·intro a w1 live S E D C' h0 hk hW
    have e2:a.eval (.tmp 2)=.pointer (some ⟨w.heap.size,0,none⟩):=E 2 rfl
    have l7:=Reg.not_live C' h0 (j:=7) rfl rfl
    have l8:=Reg.not_live C' l7 (j:=8) rfl rfl
    have l9:=Reg.not_live C' l8 (j:=9) rfl rfl
    have l12:=Reg.not_live C' l9 (j:=12) rfl rfl
    have hb:=(hW.phi (fun W=>W.cell? ⟨w.heap.size,0,none⟩=some (.pointer (some ⟨g,0,none⟩))∧W.cell? ⟨w.heap.size+1,0,none⟩=some (.pointer (some ⟨gc,0,none⟩))) K0.out (fun y W h=>h.2.2.1)).1
    exact Rgs.val rfl (Reg.wanted_free rfl) (.pointer (some ⟨g,0,none⟩)) (by have c:=Reg.consts a;generalize a.eval=ρ at *;simp [execOp,go_sem,c.1,c.2,e2,hb]) rfl (hW.upd 5 54 _ (by decide) (by decide))
   ·intro a w1 live S E D C' h0 hk hW
    have e2:a.eval (.tmp 2)=.pointer (some ⟨w.heap.size,0,none⟩):=E 2 rfl
    have e3:a.eval (.tmp 3)=.pointer (some ⟨w.heap.size+1,0,none⟩):=E 3 rfl
    exact Rgs.val rfl (Reg.wanted_free rfl) (.func (.func 76) #[] #[.pointer (some ⟨w.heap.size,0,none⟩),.pointer (some ⟨w.heap.size+1,0,none⟩)]) (by have c:=Reg.consts a;generalize a.eval=ρ at *;simp [execOp,go_sem,c.1,c.2,e2,e3]) rfl (hW.upd 6 55 _ (by decide) (by decide))
   ·intro a w1 live S E D C' h0 hk hW
    have d5:a.eval (.tmp 54)=.pointer (some ⟨g,0,none⟩):=D 5 rfl _ _ rfl rfl
    have d6:a.eval (.tmp 55)=.func (.func 76) #[] #[.pointer (some ⟨w.heap.size,0,none⟩),.pointer (some ⟨w.heap.size+1,0,none⟩)]:=D 6 rfl _ _ rfl rfl
    have l8:=Reg.not_live C' h0 (j:=8) rfl rfl
    have l9:=Reg.not_live C' l8 (j:=9) rfl rfl
    have l12:=Reg.not_live C' l9 (j:=12) rfl rfl
    have hw0:w1=W0:=hW.pre h0
    refine Rgs.call rfl (Reg.wanted_free rfl) 47 #[.pointer (some ⟨g,0,none⟩),.func (.func 76) #[] #[.pointer (some ⟨w.heap.size,0,none⟩),.pointer (some ⟨w.heap.size+1,0,none⟩)]] (by have c:=Reg.consts a;generalize a.eval=ρ at *;simp [execOp,go_sem,c.1,c.2,d5,d6]) ?_
    rw [hw0]
    refine ((ttable_any HWHO.out H2D.out.rd HLB.out)).mono ?_
    rintro e w5 ⟨l,st9,Ap,np,cp,rfl,hpl,hpn,hpo,hg,h5⟩
    have hk5:KpG g gc A3 W0 w5:=KpG.gb h5.gb
    have hs5:=H2D.out.step h5
    exact ⟨_,rfl,trivial,hW.made h0 l8 l9 l12 (by decide) (by rw [S];exact (by decide:56 < 61)) ((⟨Ap,np,cp,l⟩:NdT),st9) ⟨h5.rd,hk5,⟨hs5.k2,hs5.k3⟩,⟨hpo,hpl,hpn,hg⟩⟩ h5.gb.size hs5.cv.s.tb.own hs5.cv.s.cf,fun jq vq _ hq=>hq⟩
   ·intro a w1 live S E D C' h0 hk hW
    have l9:=Reg.not_live C' h0 (j:=9) rfl rfl
    have l12:=Reg.not_live C' l9 (j:=12) rfl rfl
    have lc:live 7=true:=hk 7 rfl
    obtain ⟨x,hv,hW'⟩:=hW.lit HPH.out lc l9 l12 (by decide) (by rw [S];exact (by decide:57 < 61)) (by decide)
    refine Rgs.grow rfl (Reg.wanted_free rfl) (.slice (some ⟨w1.heap.size,0,none⟩) 1 1) (w1.alloc (.cells #[.slice x.1.A x.1.n x.1.c] 34)) ?_ trivial hW' (fun j v _ h=>h)
    have hv2:a.eval (.tmp 56)=.slice x.1.A x.1.n x.1.c:=hv
    have c:=Reg.consts a
    generalize a.eval=ρ at *
    simp [execOp,go_sem,c.1,c.2,hv2]
   ·intro a w1 live S E D C' h0 hk hW
    have d4:a.eval (.tmp 53)=.slice A3 n3 c3:=D 4 rfl _ _ rfl rfl
    have l12:=Reg.not_live C' h0 (j:=12) rfl rfl
    have lb:live 8=true:=hk 8 rfl
    have lc:live 7=true:=C' _ _ rfl lb 7 rfl
    obtain ⟨gb,qb,A',c',w',hrun,hW'⟩:=hW.app elNN HPH.out lc lb h0 l12 (by decide) (by rw [S];exact (by decide:58 < 61)) (by decide) (fun y=>rfl) (fun y=>i_tcn y.1) (by decide) (by have:=HSZ.out;omega) (by have:=HSZ.out;omega) HBW0.out
    refine Rgs.grow rfl (Reg.wanted_free rfl) (.slice A' (n3+1:Nat) c') w' ?_ trivial hW' (fun j v _ h=>h)
    have cc:=Reg.consts a
    generalize a.eval=ρ at *
    simp only [execOp,resolve,invoke,builtin,Sem.run_bind,Sem.run_pure,Result.andThen_ok,List.map_toArray,List.map_cons,List.map_nil,d4,qb,hrun]
   ·intro a w1 live S E D C' h0 hk hW
    have d0:a.eval (.tmp 49)=.pointer (some ⟨gc,0,none⟩):=D 0 rfl _ _ rfl rfl
    exact Rgs.val rfl (Reg.wanted_free rfl) (.pointer (some ⟨gc,0,none⟩)) (by have c:=Reg.consts a;generalize a.eval=ρ at *;simp [execOp,go_sem,c.1,c.2,d0]) rfl (hW.upd 10 59 _ (by decide) (by decide))
   ·intro a w1 live S E D C' h0 hk hW
    have d10:a.eval (.tmp 59)=.pointer (some ⟨gc,0,none⟩):=D 10 rfl _ _ rfl rfl
    exact Rgs.val rfl (Reg.wanted_free rfl) (.pointer (some ⟨gc,2,none⟩)) (by have c:=Reg.consts a;generalize a.eval=ρ at *;simp [execOp,go_sem,c.1,c.2,d10]) rfl (hW.upd 11 60 _ (by decide) (by decide))
   ·intro a w1 live S E D C' h0 hk hW
    have d11:a.eval (.tmp 60)=.pointer (some ⟨gc,2,none⟩):=D 11 rfl _ _ rfl rfl
    have la:live 9=true:=hk 9 rfl
    have lb:live 8=true:=C' _ _ rfl la 8 rfl
    have lc:live 7=true:=C' _ _ rfl lb 7 rfl
    obtain ⟨A',c',qa,hW'⟩:=hW.put HPH.out lc la h0 (by decide) (by decide) (by decide)
    have hc:=hW.cellC h0 H2D.out.cv.s.cf 2 _ rfl
    have hc1:=hc.1
    have hc2:=hc.2
    exact Rgs.store rfl (Reg.wanted_free rfl) (w1.setCell ⟨gc,2,none⟩ (.slice A' (n3+1:Nat) c')) (by have c:=Reg.consts a;generalize a.eval=ρ at *;simp [execOp,go_sem,c.1,c.2,d11,qa,hc1,hc2]) trivial hW' (fun j v _ h=>h)
  intro a w9 live hs hd E Dv Hl hW
  obtain ⟨x9,r1,hx9,r2,r3,r4,r5,r6,hfin⟩:=hW.res (Hl 7 (by decide))
  obtain ⟨A9,c9,hO9,hat9,hT9⟩:=hfin (Hl 12 (by decide))
  have HX9:=Lib.hid hx9
  have H9O:=Lib.hid hO9
  have H9T:=Lib.hid hT9
  rw [Rgs.act_ws a _ _ hs hd E [49,50,51,52,53,54,55,56,57,58,59,60] (by kernel_rfl)]
  simp only [List.foldl,List.setIfInBounds_toArray,List.set_cons_succ,List.set_cons_zero]
  clear r1 r2 r3 r4 r5 r6 E Dv Hl hW hx9 hO9 hat9 hT9 hfin
  generalize a.eval=ρ9
  clear a hs hd
  have HKL:Hid (KpL g gc ⟨A1,A2,A3,n1,n2,n3,c1,c2,c3,P,C,T⟩ w w9):=Lib.hid (KpL.of ((KpG.gb H2D.out.gb).trans HX9.out.2.1) (.inr (.inr rfl)))
  go_wp2_with fail
  first | go_end0 | refine bodyPost_ret (results_none rfl _ _ _) rfl ?_
  obtain ⟨hrd,hkp,_,hpo,hpl,hpn,hgot⟩:=HX9.out
  have hgt:Got ((some rs).bind (tabS (namesP P))) (ndT0 x9.1.l) x9.2:=bind_end (by
   have a1:=hgot.bind fun t s=>some (ndT0 t,s)
   have a2:=must_bind (some rs) 32 fun s=>(tableS (knownS (namesP P) 58) s).bind fun t=>some (ndT0 t.1,t.2)
   rw [HS3.out] at a1
   exact a2.trans a1)
  obtain ⟨g1,g2⟩:=hgt
  rw [Option.bind_some] at g1 g2
  refine ⟨rfl,x9.2,?_,hrd,HKL.out,fun c' r e=>?_⟩
  ·rw [g1,← HNM.out,Option.map_map];rfl
  ·rw [← HNM.out] at e
   cases hz:tabS (namesP P) rs with
   | none=>rw [hz] at e;cases e
   | some z =>
    rw [hz] at e
    injection e with e
    injection e with e1 e2
    have hy:=g2 z hz
    have hin:∀ q∈x9.1.l,NdIn q:=by
     unfold tabS at hz
     obtain ⟨s1,h1,hz⟩:=Option.bind_eq_some_iff.1 hz
     obtain ⟨t,h2,hz⟩:=Option.bind_eq_some_iff.1 hz
     have e3:s3=some s1:=HS3.out.trans h1
     have e4:=hgot.2 t (by rw [e3,Option.bind_some];exact h2)
     rw [e4]
     exact nodeS_in (fun s p h=>knownS_le h) (fun s p h=>knownS_in (by unfold namesP;rw [List.length_map,H2D.out.cv.s.pp.len];have:=HSZ.out;show n1≤1048576;omega) h) 16 128 s1 t (by omega) h2
    refine ⟨_,H2D.out.cv.tab1 H2D.out.rd hkp x9.1 H9O.out H9T.out (OwnV.weak hpo HBW0.out) hpl hin (by omega) (by have:=HSZ.out;omega),?_,by show n1+(n2+(n3+1))≤n1+(n2+n3)+1;omega⟩
    rw [← e1]
    refine ⟨HX.out.ep,HX.out.ec,?_⟩
    show (T++[x9.1]).map (fun t=>ndT0 t.l)=c.T++[z.1]
    rw [List.map_append,show T.map (fun t=>ndT0 t.l)=c.T from HX.out.et,← hy]
    rfl
 rw [if_neg ht]
 have p3:(sv.toList == [116,97,98,108,101])=false:=by rw [q3,decide_eq_false ht]
 clear q1 q2 q3 hp hc ht
 go_enter Tryz.func43,Tryz.ntmps43
 obtain ⟨_,_,k2,k3,_⟩:=H0.out
 go_wp2_with fail
 refine HE.out.mono ?_
 rintro e w1 ⟨rfl,rfl⟩
 go_wp2_with fail
 refine HT.out.mono ?_
 rintro e w2 ⟨rfl,hm⟩
 have H1:=Lib.hid (H0.out.step hm)
 clear hm HT k2 k3
 obtain ⟨_,_,k2,k3,_⟩:=H1.out
 go_wp2_with fail
 refine (HU.out _ H1.out.rd).mono ?_
 rintro e W2 ⟨rfl,hm⟩
 have H2:=Lib.hid (H1.out.step hm)
 clear hm HU k2 k3
 have HF:=Lib.hid (tfail_any H2.out.rd)
 obtain ⟨_,_,k2,k3,_⟩:=H2.out
 go_wp2_with fail
 refine HF.out.mono ?_
 rintro e w4 ⟨rfl,hm⟩
 have H4:=Lib.hid (H2.out.step hm)
 clear hm k2 k3
 go_wp2_with fail
 first | go_end0 | refine bodyPost_ret (results_none rfl _ _ _) rfl ?_
 exact H4.out.same HX.out (.inr ⟨rfl,rfl⟩)
end Go.Proofs.YtfmndmhjjbeokaaGreatDoor
namespace Go.Proofs.YtfmndmhjjbeokaaGreatDoor
set_option maxRecDepth 100000
open Go.RowKit Tab Txt
set_option linter.unusedSimpArgs false
set_option linter.unusedVariables false
def cfOf (c:Cft):Cf:=⟨none,none,none,0,0,0,0,0,0,c.P,c.C,c.T⟩
theorem Ctn.same {x:Cf} {c:Cft} (h:Ctn x c):SamX x (cfOf c):=by
 refine ⟨⟨?_,fun i a b ha hb=>?_,h.ec⟩,?_,fun i a b ha hb=>?_⟩
 ·show x.P.length=c.P.length
  rw [← h.ep,List.length_map]
 ·have hb:c.P[i]? = some b:=hb
  rw [← h.ep,List.getElem?_map,ha] at hb
  injection hb with hb
  rw [← hb]
  exact ⟨rfl,rfl,rfl,rfl,rfl,⟨rfl,rfl,rfl,rfl,rfl⟩,rfl⟩
 ·show x.T.length=c.T.length
  rw [← h.et,List.length_map]
 ·have hb:c.T[i]? = some b:=hb
  rw [← h.et,List.getElem?_map,ha] at hb
  injection hb with hb
  rw [← hb]
  exact sameN_refl _
theorem Ctn.whF {x:Cf} {c:Cft} (h:Ctn x c) (hx:∀ z∈x.P,z.2.length=z.1.pn):whereF x.P x.C x.T=whereF c.P c.C c.T :=
 whF_same h.same hx fun z hz=>by
  have hz:z∈c.P:=hz
  rw [← h.ep] at hz
  obtain ⟨y,_,rfl⟩:=List.mem_map.1 hz
  rfl
namespace Txt
theorem split_ahead (b:UInt8) (s:List UInt8):splitF b s=match behindT (isB b) s with
  | []=>[aheadT (isB b) s]
  | _::r=>aheadT (isB b) s::splitF b r:=by
 have e:=ahead_behind (isB b) s
 have hw:b ∉ aheadT (isB b) s:=fun hm=>by
  have:=ahead_all (isB b) s _ hm
  unfold isB at this
  simp at this
 have hh:=behind_head (isB b) s
 cases hb:behindT (isB b) s with
 | nil =>
  rw [hb,List.append_nil] at e
  dsimp only
  have:=split_one hw
  rw [e] at this ⊢
  exact this
 | cons c r =>
  have hc:c=b:=by
   have:=hh c (by rw [hb];rfl)
   unfold isB at this
   simpa using this
  rw [hb,hc] at e
  dsimp only
  have:=split_at r hw
  rw [e] at this
  exact this
def nextL (s:List UInt8):List UInt8:=(behindT (isB 10) s).tail
theorem lineD_nil (c:Cft):lineD c []=some c:=lineD_skip (by rfl)
theorem linesQ_more (i:Nat) (c:Cft) (s:List UInt8):linesQ i c (splitF 10 s)=match lineD c (aheadT (isB 10) s) with
  | none=>.inl (i+1)
  | some c'=>linesQ (i+1) c' (splitF 10 (nextL s)):=by
 rw [split_ahead 10 s]
 unfold nextL
 cases behindT (isB 10) s with
 | nil =>
  dsimp only
  rw [linesQ_cons]
  cases lineD c (aheadT (isB 10) s) with
  | none=>rfl
  | some c' =>
   dsimp only
   show linesQ (i+1) c' []=linesQ (i+1) c' [[]]
   rw [linesQ_cons,lineD_nil]
   rfl
 | cons c2 r =>
  dsimp only
  rw [linesQ_cons]
  rfl
theorem linesQ_nil (i:Nat) (c:Cft):linesQ i c (splitF 10 [])=.inr c:=by
 show linesQ i c [[]]=_
 rw [linesQ_cons,lineD_nil]
 rfl
theorem nextL_lt {s:List UInt8} (h:s≠[]):(nextL s).length < s.length:=by
 unfold nextL
 have:=behind_le (isB 10) s
 rw [List.length_tail]
 have:0 < s.length:=List.length_pos_iff.2 h
 omega
theorem lineD_S {c:Cft} {s:List UInt8}:lineD c s=match lineS c s with
  | none=>none
  | some x=>if x.2=[] then some x.1 else none:=rfl
end Txt
theorem sz_conf (w:World):(sizeOf 31).run Tryz.prog w=.ok 3 w:=by go_simp
theorem ag_conf (w:World):(isAgg 31).run Tryz.prog w=.ok true w:=by go_simp
theorem results_ctt0 {fn:Func} {p q r:Tmp} {T:TypeId} (h:fn.results=#[.cell p T,.tmp q,.tmp r]) (tmps:Array Value) (P:Program) (w:World) :
  (results fn tmps).run P w=((asAddr (tmps.getD p undef)).run P w).andThen fun a w₁=>((loadVar T a).run P w₁).andThen fun v w₂=>.ok (.tuple #[v,tmps.getD q undef,tmps.getD r undef]) w₂:=by
 simp only [results,h]
 simp [Sem.run_bind,Result.andThen]
theorem results_ctt {fn:Func} {p q r:Tmp} {T n:Nat} (h:fn.results=#[.cell p T,.tmp q,.tmp r]) {tmps:Array Value} {w:World} {B g:Nat} {l:List Value} (e:(isAgg T).run Tryz.prog w=.ok true w) (e2:(sizeOf T).run Tryz.prog w=.ok n w) (hp:tmps.getD p undef=.pointer (some ⟨g,0,none⟩)) (ho:OwnV T n w B (some ⟨g,0,none⟩) 1 1 l):(results fn tmps).run Tryz.prog w=.ok (.tuple #[.agg l.toArray,tmps.getD q undef,tmps.getD r undef]) w:=by
 have e3:(asAddr (.pointer (some ⟨g,0,none⟩))).run Tryz.prog w=.ok ⟨g,0,none⟩ w:=rfl
 rw [results_ctt0 h,hp,e3,Result.andThen_ok,loadVar_own e e2 ho,Result.andThen_ok]
def ParX (s:List UInt8) (w:World) (e:Ending) (w':World):Prop:=Below w.heap.size w w'∧∃ x:Cf,e=.returned (.tuple #[cfv x,.int .i64 (parseQ s).1,.int .i64 (parseQ s).2.1])∧CfR w' x∧Ctn x (parseQ s).2.2∧OwnV 60 11 w' w.heap.size x.A1 x.n1 x.c1 (x.P.flatMap pcq)∧OwnV 34 1 w' w.heap.size x.A3 x.n3 x.c3 (x.T.flatMap tcn)
def cf0:Cf:=⟨none,none,none,0,0,0,0,0,0,[],[],[]⟩
theorem CfR.zero (w:World):CfR w cf0:=⟨⟨rfl,RdV.nil⟩,⟨rfl,RdV.nil⟩,⟨rfl,RdV.nil⟩,fun y hy=>(by cases hy),fun y hy=>(by cases hy),Nat.le_refl _,Nat.le_refl _,Nat.le_refl _,Nat.zero_le _,Nat.zero_le _,Nat.zero_le _,⟨by decide,by decide,by decide,fun y hy=>(by cases hy),fun y hy=>(by cases hy)⟩⟩
theorem Ctn.zero:Ctn cf0 cft0:=⟨rfl,rfl,rfl⟩
structure ParS (B ga gc gr:Nat) (st:Option (List UInt8)) (x:Cf) (w0 w:World):Prop where
 rd:RdrS B ga st w
 cv:CvS B gc x w
 re:OwnV 31 3 w B (some ⟨gr,0,none⟩) 1 1 [.slice none 0 0,.slice none 0 0,.slice none 0 0]
 nr:gr≠gc
 be:Below B w0 w
 sz:B≤w.heap.size
section
variable {B ga gc gr g:Nat} {st st' s1:Option (List UInt8)} {x x':Cf} {w0 w w':World}
theorem ParS.step (h:ParS B ga gc gr st x w0 w) (k:Rpo B ga st' w w'):ParS B ga gc gr st' x w0 w' :=
 ⟨k.rd,h.cv.rdr h.rd k.gb,OwnV.gbo h.re k.gb (apart_rd h.re h.rd (by decide)),h.nr,h.be.trans (ogb_below k.gb h.rd.cells.2.2.2.2.1 h.sz),Nat.le_trans h.sz k.gb.size⟩
theorem ParS.on (h:ParS B ga gc gr st x w0 w) (hb:Below w.heap.size w w'):ParS B ga gc gr st x w0 w' :=
 ⟨OwnV.below h.rd rfl hb,h.cv.on hb,OwnV.below h.re rfl hb,h.nr,h.be.trans (hb.mono h.sz),Nat.le_trans h.sz hb.size⟩
theorem KpL.own {E s n c:Nat} {A:Option Addr} {l:List Value} {st2:Option (List UInt8)} {B1 B2:Nat} (h:KpL g gc x w w') (hc:CvS B gc x w) (ho:OwnV E s w B1 A n c l) (h1:obk A≠some g) (h2:obk A≠some gc) (e1:E≠60) (e2:E≠66) (e3:E≠34):OwnV E s w' B1 A n c l :=
 OwnV.keep' ho fun k hk=>h.block k (OwnV.older ho hk) (fun e=>h1 (by rw [hk,e])) (fun e=>h2 (by rw [hk,e])) (fun e=>OwnV.apart ho hc.s.pp.own e1 k hk e) (fun e=>OwnV.apart ho hc.s.ch.own e2 k hk e) (fun e=>OwnV.apart ho hc.s.tb.own e3 k hk e)
theorem ParS.line (h:ParS B ga gc gr st x w0 w) (hr:RdrS B g s1 w) (hg:ga≠g) (hk:KpL g gc x w w'):RdrS B ga st w'∧OwnV 31 3 w' B (some ⟨gr,0,none⟩) 1 1 [.slice none 0 0,.slice none 0 0,.slice none 0 0]∧Below B w0 w'∧B≤w'.heap.size:=by
 refine ⟨KpL.own (st2:=s1) (B2:=0) hk h.cv h.rd (by intro e;injection e with e;exact hg e) (apart_cf h.rd h.cv (by decide)) (by decide) (by decide) (by decide),KpL.own (st2:=s1) (B2:=0) hk h.cv h.re (apart_rd h.re hr (by decide)) (by intro e;injection e with e;exact h.nr e) (by decide) (by decide) (by decide),h.be.trans ⟨hk.os,hk.tape,hk.output,hk.size,fun i hi=>?_⟩,Nat.le_trans h.sz hk.size⟩
 have q1:=(OwnV.obk_ge hr (b:=g) rfl).1
 have q2:=(OwnV.obk_ge h.cv.s.cf (b:=gc) rfl).1
 exact hk.block i (Nat.lt_of_lt_of_le hi h.sz) (by omega) (by omega) (fun e=>by have:=(OwnV.obk_ge h.cv.s.pp.own e).1;omega) (fun e=>by have:=(OwnV.obk_ge h.cv.s.ch.own e).1;omega) (fun e=>by have:=(OwnV.obk_ge h.cv.s.tb.own e).1;omega)
end
end Go.Proofs.YtfmndmhjjbeokaaGreatDoor
