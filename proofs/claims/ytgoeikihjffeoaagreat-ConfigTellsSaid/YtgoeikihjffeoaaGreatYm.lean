import Derived.Test.YtgoeikihjffeoaaGreatYl
import Derived.Test.YtgoeikihjffeoaaGreatLow2
import Derived.LoopTactic
set_option linter.unusedSimpArgs false
set_option linter.unusedVariables false
namespace Go.Proofs.YtgoeikihjffeoaaGreat
open Go.RowKit Tab
open Lib (hid)
def TapeL12 (w:World) (e:Ending) (w':World):Prop:=∃(A:Option Addr) (n c:Nat) (f:Nat→Int),e=.returned (.slice A n c)∧RdC w' w'.heap.size A n (fun j=>.int .i64 (f j))∧n≤400∧Below w.heap.size w w'
theorem TapeL12.mk {w w':World} {A:Option Addr} {n c B:Nat} {L:List Int} (h:OwnV 3 1 w' B A n c (is L)) (hn:n≤400) (hb:Below w.heap.size w w'):TapeL12 w (.returned (.slice A n c)) w':=by
 refine⟨A,n,c,fun j=>L.getD j 0,rfl,fun h0=>?_,hn,hb⟩
 have hl:=h.len
 rw[is_length] at hl
 obtain⟨ad,e,hlt,hc⟩:=h.rd (by rw[is_length];omega)
 refine⟨ad,e,hlt,fun j hj=>hc j _ ?_⟩
 have hj':j < L.length:=by omega
 simp[is,hj']
set_option maxRecDepth 100000 in
set_option maxHeartbeats 4000000 in
theorem tape12_any (k:Nat) (w:World) (hk:k≤100):Calls Tryz.prog 6 #[.int .i64 (k:Int)] w (TapeL12 w):=by
 go_enter Tryz.func6,Tryz.ntmps6
 go_wp2_with fail
 obtain⟨m,hm⟩:∃ m:Nat,(400:Int)=(m:Int):=⟨400,rfl⟩
 have hm1:m≤400:=by omega
 rw[hm]
 clear hm
 go_loopw [3,4] (fun q s wr=>∃(i c:Nat) (A:Option Addr) (L:List Int),i≤m∧s=.int .i64 i∧q=.slice A i c∧OwnV 3 1 wr w.heap.size A i c (is L)∧Below w.heap.size w wr) (fun _ s _=>m - (intOf s).toNat)
 case atStart=>exact⟨0,0,none,[],by omega,rfl,rfl,OwnV.nil _ _ _ _,Below.refl _ _⟩
 case round =>
  obtain⟨i,c,A,L,hi,rfl,rfl,hw,hb⟩:=hrel
  by_cases hlt:i < m
  ·have hi4:i≤400:=by omega
   have h1:i*i≤400*400:=Nat.mul_le_mul hi4 hi4
   have h2:i*k≤400*100:=Nat.mul_le_mul hi4 hk
   have p1:0≤(i:Int)*(i:Int):=by rw[← Int.natCast_mul];omega
   have p2:(i:Int)*(i:Int)≤160000:=by rw[← Int.natCast_mul];omega
   have p3:0≤(i:Int)*(k:Int):=by rw[← Int.natCast_mul];omega
   have p4:(i:Int)*(k:Int)≤40000:=by rw[← Int.natCast_mul];omega
   clear h1 h2
   generalize hP:(i:Int)*(i:Int)=P at p1 p2
   generalize hQ:(i:Int)*(k:Int)=Q at p3 p4
   have hbs:=hb.alloc hb.size (.cells #[.int .i64 ((P*7+(k:Int)*61+Q) % 211)] 3)
   have hw':=OwnV.below hw rfl (bl1 wr (.cells #[.int .i64 ((P*7+(k:Int)*61+Q) % 211)] 3))
   have hrd:=rdV_new wr #[.int .i64 ((P*7+(k:Int)*61+Q) % 211)] 3 (is [(P*7+(k:Int)*61+Q) % 211]) rfl
   go_wp2_with (at_builtin;go_loud (refine wpList_appV elI rfl (.tmp 9) (.tmp 22) rfl rfl w.heap.size A i c _ rfl hw' _ 1 1 _ _ rfl hrd rfl (is_one _) (by omega) (by unfold maxLen;omega) hbs.size (i+1) rfl (is (L++[(P*7+(k:Int)*61+Q) % 211])) (by rw[is_append]) ?_;intro A2 c2 w2 hw2 hb2 _))
   go_roundw
   case rel=>exact⟨i+1,c2,A2,_,by omega,by go_num,rfl,hw2,hbs.trans hb2⟩
   case measure=>simp[intOf];omega
  ·have hge:m≤i:=by omega
   go_wp2_with fail
   go_ret
   exact TapeL12.mk hw (by omega) hb
structure TapeR:Prop where
 cfg:∀(A:Option Addr) (n cap:Nat) (f:Nat→Int) (w:World),RdC w w.heap.size A n (fun j=>.int .i64 (f j))→n≤140737488351232 →
  Calls Tryz.prog 7 #[.pointer (some ⟨w.heap.size,0,none⟩)] (w.alloc (.cells #[.slice A n cap,.int .i64 0] 31)) (fun e w'=>∃ y,e=.returned (cfv y)∧CfR w' y∧SmX 16 y∧(whF y).1=0∧Below w.heap.size w w')
def LN12:List Int:=[-1,0,1,2,3,8,9,255,256,511,512,4096,4097,1099511627776]
def LS12:List ByteArray:=[⟨#[]⟩,⟨#[97]⟩,⟨#[95]⟩,⟨#[122,57,95]⟩,⟨#[57]⟩,⟨#[97,65]⟩,⟨#[97,45,98]⟩,⟨#[97,255]⟩,⟨#[97,98,99,100,101,102,103,104,105,106,107,108]⟩,⟨#[97,98,99,100,101,102,103,104,105,106,107,108,109]⟩]
theorem LS12_few:∀ s∈LS12,s.size≤140737488351232:=by
 intro s hs
 simp only[LS12,List.mem_cons,List.not_mem_nil,or_false] at hs
 rcases hs with rfl | rfl | rfl | rfl | rfl | rfl | rfl | rfl | rfl | rfl <;> exact Nat.le_of_ble_eq_true rfl
theorem ln12_in:∀ z∈LN12,In64 z:=by
 intro z hz
 simp only[LN12,List.mem_cons,List.not_mem_nil,or_false] at hz
 rcases hz with rfl | rfl | rfl | rfl | rfl | rfl | rfl | rfl | rfl | rfl | rfl | rfl | rfl | rfl <;> (unfold In64;omega)
set_option maxRecDepth 100000 in
set_option maxHeartbeats 2000000 in
theorem numbers12_walk (hW:ConfigW) (hO:OddW) (hT:TapeR) (w:World):Calls Tryz.prog 3 #[] w (Ans (.bool true) w):=by
 have HKN:=hid fun V=>known12_any hW V
 have HSA:=hid fun V (z:Cf) (hz:CfR V z)=>lsame12_any hW z V hz
 have HNA:=hid fun(s:ByteArray) V (hs:s.size≤140737488351232)=>hW.name s V hs
 have HRI:=hid fun(z:Cf) V (hz:CfR V z) (h0:(whF z).1=0)=>(by have h:=hW.right z V hz;rw[h0] at h;exact h:Calls Tryz.prog 9 #[cfv z] V (Ans (.int .i64 0) V))
 have HOD:=hid fun V (z:Cf) (p q:Int) (h1:CfR V z) (h2:SmX 16 z) (hq:In64 q)=>hO.odd 16 z p q V (by omega) h1 h2 hq
 have HTC:=hid hT
 clear hW hO hT
 go_enter Tryz.func3,Tryz.ntmps3
 go_wp2_with fail
 go_loopw [1,2,3,5] (fun s _ _ _ wr=>∃ k:Nat,k≤40∧s=.int .i64 k∧Below w.heap.size w wr) (fun s _ _ _ _=>40 - (intOf s).toNat)
 case atStart=>exact⟨0,by omega,rfl,Below.refl _ _⟩
 case round =>
  obtain⟨k,hk,rfl,hb⟩:=hrel
  by_cases hlt:k < 40
  ·have hlti:(k:Int) < 40:=by omega
   have HB:=hid hb
   have HTP:=hid (tape12_any k wr (by omega))
   clear hb
   go_wp2_with fail
   refine HTP.out.mono ?_
   rintro e w1 ⟨A,n,c,f,rfl,hf,hn,hb1⟩
   have HB1:=hid (HB.out.trans (hb1.mono HB.out.size))
   have HCF:=hid (HTC.out.cfg A n c f w1 hf (by omega))
   clear hf hb1 HTP
   go_wp2_with fail
   refine HCF.out.mono ?_
   rintro e w2 ⟨y,rfl,hyR,hyS,hy0,hb2⟩
   have hyb:=box_vec w2 (.slice y.A1 y.n1 y.c1) (.slice y.A2 y.n2 y.c2) (.slice y.A3 y.n3 y.c3) 26
   have u3:=bl1 w2 (.cells #[.slice y.A1 y.n1 y.c1,.slice y.A2 y.n2 y.c2,.slice y.A3 y.n3 y.c3] 26)
   obtain⟨W3,hW3⟩:∃ W,W=w2.alloc (.cells #[.slice y.A1 y.n1 y.c1,.slice y.A2 y.n2 y.c2,.slice y.A3 y.n3 y.c3] 26):=⟨_,rfl⟩
   rw[← hW3] at hyb u3
   have HW3:=hid hW3
   have HB3:=hid (HB1.out.trans ((hb2.trans (u3.mono hb2.size)).mono HB1.out.size))
   have HYR:=hid (hyR.on u3)
   have HYS:=hid hyS
   have HY0:=hid hy0
   have HBX:=hid fun V (hv:Below W3.heap.size W3 V)=>(hyb.on hv).three
   clear hyR hyS hy0 hb2 u3 hW3 hyb HCF
   go_upto_region 5 with fail
   rw[← HW3.out]
   clear HW3
   generalize w2.heap.size=gc at HBX ⊢
   obtain⟨m0,m1,m2⟩:=HBX.out W3 (Below.refl _ _)
   go_wp2_with fail
   refine(HSA.out W3 y HYR.out).mono ?_
   rintro e w4 ⟨rfl,hb4⟩
   have HB4:=hid hb4
   clear m0 m1 m2 hb4
   obtain⟨m0,m1,m2⟩:=HBX.out w4 HB4.out
   go_wp2_with fail
   refine(HRI.out y w4 (HYR.out.on HB4.out) HY0.out).mono ?_
   rintro e w5 ⟨rfl,hb5⟩
   have HB5:=hid (HB4.out.trans (hb5.mono HB4.out.size))
   clear m0 m1 m2 hb5
   go_wp2_with fail
   go_loopw [3,5] (fun s _ wx=>∃ q:Nat,q≤16∧s=.int .i64 q∧Below W3.heap.size W3 wx) (fun s _ _=>16 - (intOf s).toNat)
   case atStart=>exact⟨0,by omega,rfl,HB5.out⟩
   case round =>
    obtain⟨q,hq,rfl,hb⟩:=hrel
    by_cases hlq:q < 16
    ·have hlqi:(q:Int) < 16:=by omega
     have HB6:=hid hb
     have hrow:=rdV_new wr #[.int .i64 (-1),.int .i64 0,.int .i64 1,.int .i64 2,.int .i64 3,.int .i64 8,.int .i64 9,.int .i64 255,.int .i64 256,.int .i64 511,.int .i64 512,.int .i64 4096,.int .i64 4097,.int .i64 1099511627776] 2 (is LN12) rfl
     have u7:=bl1 wr (.cells #[.int .i64 (-1),.int .i64 0,.int .i64 1,.int .i64 2,.int .i64 3,.int .i64 8,.int .i64 9,.int .i64 255,.int .i64 256,.int .i64 511,.int .i64 512,.int .i64 4096,.int .i64 4097,.int .i64 1099511627776] 2)
     obtain⟨W7,hW7⟩:∃ W,W=wr.alloc (.cells #[.int .i64 (-1),.int .i64 0,.int .i64 1,.int .i64 2,.int .i64 3,.int .i64 8,.int .i64 9,.int .i64 255,.int .i64 256,.int .i64 511,.int .i64 512,.int .i64 4096,.int .i64 4097,.int .i64 1099511627776] 2):=⟨_,rfl⟩
     rw[← hW7] at hrow u7
     have HW7:=hid hW7
     have HRW:=hid hrow
     have HB7:=hid (HB6.out.trans (u7.mono HB6.out.size))
     clear hb hrow u7 hW7
     go_wp2_with fail
     rw[← HW7.out]
     clear HW7
     generalize wr.heap.size=gl at HRW ⊢
     go_loopw [5,31] (fun _ s wx=>∃ i:Nat,i≤14∧s=.int .i64 i∧Below W7.heap.size W7 wx) (fun _ s _=>14 - (intOf s).toNat)
     case atStart=>exact⟨0,by omega,rfl,Below.refl _ _⟩
     case round =>
      obtain⟨i,hi,rfl,hb⟩:=hrel
      by_cases hli:i < 14
      ·have hlii:(i:Int) < 14:=by omega
       have hr:=(HRW.out.below hb).more hb.size
       obtain⟨ad,e,had,hc⟩:=hr (by show 0 < 14;omega)
       injection e with e
       subst e
       obtain⟨z,hz⟩:∃ z,LN12[i]? = some z:=⟨_,List.getElem?_eq_getElem (show i < LN12.length from hli)⟩
       have c0:=hc i (.int .i64 z) (by unfold is;rw[List.getElem?_map,hz];rfl)
       have ead:(⟨gl,0,none⟩:Addr).add i=⟨gl,i,none⟩:=by unfold Addr.add;split <;> simp_all
       rw[ead] at c0
       clear ead
       have HIZ:=hid (ln12_in z (List.mem_of_getElem? hz))
       have HB8:=hid (HB7.out.trans (hb.mono HB7.out.size))
       have HBI:=hid hb
       obtain⟨m0,m1,m2⟩:=HBX.out wr HB8.out
       clear hc hr hz had hb
       go_wp2_with fail
       refine(HOD.out wr y _ _ (HYR.out.on HB8.out) HYS.out HIZ.out).mono ?_
       rintro e w9 ⟨y2,rfl,hyR2,_,hb9⟩
       have HB9:=hid (HBI.out.trans (hb9.mono HBI.out.size))
       have HSS:=hid (HSA.out w9 y2 hyR2)
       clear m0 m1 m2 hyR2 hb9 c0
       go_wp2_with fail
       refine HSS.out.mono ?_
       rintro e w10 ⟨rfl,hb10⟩
       have HB10:=hid (HB9.out.trans (hb10.mono HB9.out.size))
       clear hb10 HSS
       go_wp2_with fail
       go_roundw
       case rel=>exact⟨i+1,by omega,by go_num,HB10.out⟩
       case measure=>simp[intOf];omega
      ·have hge:¬ (i:Int) < 14:=by omega
       have HB8:=hid (HB7.out.trans (hb.mono HB7.out.size))
       clear hb
       go_wp2_with fail
       go_roundw
       case rel=>exact⟨q+1,by omega,by go_num,HB8.out⟩
       case measure=>simp[intOf];omega
    ·have hge:¬ (q:Int) < 16:=by omega
     have HB8:=hid (HB3.out.trans (hb.mono HB3.out.size))
     clear hb
     go_wp2_with fail
     go_roundw
     case rel=>exact⟨k+1,by omega,by go_num,HB8.out⟩
     case measure=>simp[intOf];omega
  ·have hge:¬ (k:Int) < 40:=by omega
   have HB:=hid hb
   clear hb
   have hrow:=rdV_new wr #[.string ⟨#[]⟩,.string ⟨#[97]⟩,.string ⟨#[95]⟩,.string ⟨#[122,57,95]⟩,.string ⟨#[57]⟩,.string ⟨#[97,65]⟩,.string ⟨#[97,45,98]⟩,.string ⟨#[97,255]⟩,.string ⟨#[97,98,99,100,101,102,103,104,105,106,107,108]⟩,.string ⟨#[97,98,99,100,101,102,103,104,105,106,107,108,109]⟩] 9 (LS12.map .string) rfl
   have u7:=bl1 wr (.cells #[.string ⟨#[]⟩,.string ⟨#[97]⟩,.string ⟨#[95]⟩,.string ⟨#[122,57,95]⟩,.string ⟨#[57]⟩,.string ⟨#[97,65]⟩,.string ⟨#[97,45,98]⟩,.string ⟨#[97,255]⟩,.string ⟨#[97,98,99,100,101,102,103,104,105,106,107,108]⟩,.string ⟨#[97,98,99,100,101,102,103,104,105,106,107,108,109]⟩] 9)
   obtain⟨W7,hW7⟩:∃ W,W=wr.alloc (.cells #[.string ⟨#[]⟩,.string ⟨#[97]⟩,.string ⟨#[95]⟩,.string ⟨#[122,57,95]⟩,.string ⟨#[57]⟩,.string ⟨#[97,65]⟩,.string ⟨#[97,45,98]⟩,.string ⟨#[97,255]⟩,.string ⟨#[97,98,99,100,101,102,103,104,105,106,107,108]⟩,.string ⟨#[97,98,99,100,101,102,103,104,105,106,107,108,109]⟩] 9):=⟨_,rfl⟩
   rw[← hW7] at hrow u7
   have HW7:=hid hW7
   have HRW:=hid hrow
   have HB7:=hid (HB.out.trans (u7.mono HB.out.size))
   clear hrow u7 hW7
   go_wp2_with fail
   rw[← HW7.out]
   clear HW7
   generalize wr.heap.size=gl at HRW ⊢
   go_loopw [7,44] (fun _ s wx=>∃ i:Nat,i≤10∧s=.int .i64 i∧Below W7.heap.size W7 wx) (fun _ s _=>10 - (intOf s).toNat)
   case atStart=>exact⟨0,by omega,rfl,Below.refl _ _⟩
   case round =>
    obtain⟨i,hi,rfl,hb⟩:=hrel
    by_cases hli:i < 10
    ·have hlii:(i:Int) < 10:=by omega
     have hr:=(HRW.out.below hb).more hb.size
     obtain⟨ad,e,had,hc⟩:=hr (by show 0 < 10;omega)
     injection e with e
     subst e
     obtain⟨z,hz⟩:∃ z,LS12[i]? = some z:=⟨_,List.getElem?_eq_getElem (show i < LS12.length from hli)⟩
     have c0:=hc i (.string z) (by rw[List.getElem?_map,hz];rfl)
     have ead:(⟨gl,0,none⟩:Addr).add i=⟨gl,i,none⟩:=by unfold Addr.add;split <;> simp_all
     rw[ead] at c0
     clear ead
     have hzs:=LS12_few z (List.mem_of_getElem? hz)
     have HBI:=hid hb
     have HN1:=hid (HNA.out z wr hzs)
     have HN2:Hid (∀ V,Calls Tryz.prog 12 #[.string z] V (Ans (.bool (nameF z)) V)):=hid fun V=>(xname_any z V hzs).mono fun e w' h=>by
      obtain⟨rfl,rfl⟩:=h
      exact Ans.mk rfl (Below.refl _ _)
     generalize nameF z=nb at HN1 HN2
     clear hc hr hz had hb hzs
     go_wp2_with fail
     refine HN1.out.mono ?_
     rintro e w9 ⟨rfl,hb9⟩
     have HB9:=hid (HBI.out.trans (hb9.mono HBI.out.size))
     clear hb9 c0 HN1
     go_wp2_with fail
     refine(HN2.out w9).mono ?_
     rintro e w10 ⟨rfl,hb10⟩
     have HB10:=hid (HB9.out.trans (hb10.mono HB9.out.size))
     clear hb10 HN2
     go_wp2_with fail
     go_roundw
     case rel=>exact⟨i+1,by omega,by go_num,HB10.out⟩
     case measure=>simp[intOf];omega
    ·have hge:¬ (i:Int) < 10:=by omega
     have HB8:=hid (HB7.out.trans (hb.mono HB7.out.size))
     clear hb
     go_wp2_with fail
     refine(HKN.out wr).mono ?_
     rintro e w9 ⟨rfl,hb9⟩
     have HB9:=hid (HB8.out.trans (hb9.mono HB8.out.size))
     clear hb9
     go_wp2_with fail
     go_ret
     exact Ans.mk rfl HB9.out
end Go.Proofs.YtgoeikihjffeoaaGreat
