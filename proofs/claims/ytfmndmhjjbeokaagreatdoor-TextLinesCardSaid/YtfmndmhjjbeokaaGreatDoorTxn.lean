import Derived.Test.YtfmndmhjjbeokaaGreatDoorLow31
import Derived.Test.YtfmndmhjjbeokaaGreatDoorLow47
import Derived.Test.YtfmndmhjjbeokaaGreatDoorLow48
import Derived.Test.YtfmndmhjjbeokaaGreatDoorLow50
import Derived.Test.YtfmndmhjjbeokaaGreatDoorLow52
import Derived.Test.YtfmndmhjjbeokaaGreatDoorLow30
import Derived.Test.YtfmndmhjjbeokaaGreatDoorTie
import Derived.Test.YtfmndmhjjbeokaaGreatDoorCards
namespace Go.Proofs.YtfmndmhjjbeokaaGreatDoor.textLines
open Go.ChangeShapes Go.WideShapes Go.ChangeAt Go.RowKit Tab Txt
set_option linter.unusedSimpArgs false
set_option linter.unusedVariables false
theorem rightOf (y:Cf) (w:World) (h:CfR w y) (hr:RiX y):Calls Tryz.prog 30 #[cfv y] w (Ans (.int .i64 0) w):=by
 have h1:=cfright_any y.A1 y.A2 y.A3 y.n1 y.n2 y.n3 y.c1 y.c2 y.c3 y.P y.C y.T w h.pp h.ch h.tb (fun x hx=>(h.pt x hx).1) h.tt h.k1
 have e:(whereF y.P y.C y.T).1=0:=congrArg Prod.fst hr.ok
 rw [e] at h1
 exact h1
def nl (l:List (List UInt8)):List (List UInt8):=l.map (·++[10])
theorem nl_len (l:List (List UInt8)):(nl l).length=l.length:=by simp [nl]
theorem nl_app (l m:List (List UInt8)):nl (l++m)=nl l++nl m:=by simp [nl]
theorem piece {s:List UInt8} {a i:Nat} (hai:a≤i) (h:s[i]? = some 10):(s.take (i+1)).drop a=(s.take i).drop a++[10]:=by
 have hlt:=(List.getElem?_eq_some_iff.1 h).1
 rw [List.take_add_one,h,Option.toList_some,List.drop_append_of_le_length (by rw [List.length_take];omega)]
theorem five_cell (j:Nat) (hj:j < 5):(#[Value.string ⟨#[110,111,110,115,101,110,115,101,10]⟩,.string ⟨#[112,97,114,116,10]⟩,.string ⟨#[99,104,97,110,32,97,32,98,10]⟩,.string ⟨#[116,97,98,108,101,32,120,10]⟩,.string ⟨#[32,10]⟩]:Array Value)[j]? = some (.string (bsOf (badL j++[10]))):=by
 match j,hj with
 | 0,_=>rfl
 | 1,_=>rfl
 | 2,_=>rfl
 | 3,_=>rfl
 | 4,_=>rfl
set_option maxRecDepth 100000 in
set_option maxHeartbeats 8000000 in
theorem walk (A0:Option Addr) (n0 k0:Nat) (f0:Nat→Int) (a1:Int) (a2:Int) (w:World) (r0:RdC w w.heap.size A0 n0 fun j=>.int .i64 (f0 j)) (c0:n0≤k0) (b0:k0≤140737488351232) (w0:∀ j,j < n0→(Lit.int .i64 (f0 j)).wf=true) (w1:(Lit.int .i64 a1).wf=true) (w2:(Lit.int .i64 a2).wf=true) (ht:TabW w) :
  Calls Tryz.prog 5 #[.slice A0 n0 k0,.int .i64 a1,.int .i64 a2] w (Ans (.bool true) w):=by
 have HT:=Lib.hid ht
 have HCF:=Lib.hid (tape_text w.heap.size w.heap.size A0 n0 k0 f0 (by omega) 0 _ (tape_boxed A0 n0 k0 f0 w r0))
 obtain ⟨j,hj5,hjm,hj1,hj2⟩:=five_of_rem a2
 clear r0 w0 ht w1 w2
 go_enter Tryz.func5,Tryz.ntmps5
 go_wp2_with fail
 refine HCF.out.mono ?_
 rintro e w1 ⟨y,Fs,at1,rfl,hx,T1,G1⟩
 have hbx:=bl1 w1 (.cells #[.slice y.A1 y.n1 y.c1,.slice y.A2 y.n2 y.c2,.slice y.A3 y.n3 y.c3] 31)
 have hbo:=box_vec w1 (.slice y.A1 y.n1 y.c1) (.slice y.A2 y.n2 y.c2) (.slice y.A3 y.n3 y.c3) 31
 have hb1:=(gb_boxed G1).trans (hbx.mono (gb_boxed G1).size)
 clear HCF G1 T1
 unfold cfv
 go_upto_region 2 with fail
 generalize w1.alloc (.cells #[.slice y.A1 y.n1 y.c1,.slice y.A2 y.n2 y.c2,.slice y.A3 y.n3 y.c3] 31)=W1 at hbx hbo hb1 ⊢
 obtain ⟨m0,m1,m2⟩:=hbo.three
 have HB1:=Lib.hid hb1
 have HYR:=Lib.hid (hx.rd.on hbx)
 have HV4:=Lib.hid hbo
 have HPR:=Lib.hid (tPrint_any y Fs W1 HYR.out hx.ri hx.sm hx.fl hx.ff hx.mx hx.pp (fun V hv=>rightOf y V (HYR.out.on hv) hx.ri) (HT.out.on hb1))
 have HLN:=Lib.hid hx.len
 have HFR:=Lib.hid hx.free
 have HLI:=Lib.hid hx.lin
 have hnn:=lines_len y.P y.C Fs
 rw [hx.rd.pp.len,hx.rd.ch.len,hx.fl] at hnn
 have p1:=hx.sm.p2
 have p2:=hx.sm.c
 have p3:=hx.sm.t
 generalize linesT y.P y.C Fs=ll at HPR HLN HFR HLI hnn
 generalize w1.heap.size=g4 at HV4 m0 m1 m2 ⊢
 have HSP:Hid (splitF 10 (textT ll)=ll++[[]]):=Lib.hid (split_text HFR.out)
 have HBAD:=Lib.hid fun k (hk:k≤ll.length)=>parse_bad HFR.out HLI.out (by have:=HLN.out;omega) j k hk
 obtain ⟨s,hs⟩:∃ s,s=textT ll:=⟨_,rfl⟩
 rw [← hs] at HPR HSP
 obtain ⟨n,hn⟩:∃ n,n=s.length:=⟨_,rfl⟩
 have hsz:(bsOf s).size=n:=by rw [hn];rfl
 have hn7:n≤7000:=by rw [hn,hs];exact HLN.out
 have HIX:=Lib.hid fun i c (h:s[i]? = some c)=>sidx h
 have HEX:=Lib.hid (bs_ext s)
 have HN:=Lib.hid hn
 have HSE:=Lib.hid hs
 clear hs hn hbx hbo hb1 hx
 generalize bsOf s=sv at hsz HIX HEX HPR
 unfold cfv at HPR
 go_wp2_with fail
 refine HPR.out.mono ?_
 rintro e w2 ⟨rfl,hb2⟩
 have HB2:=Lib.hid hb2
 clear m0 m1 m2 HPR hb2
 go_wp2_with fail
 go_loopw [9,10,11] (fun o p q wr=>∃ (i a m c:Nat) (A:Option Addr) (M:List (List UInt8)),a≤i∧i≤n∧m≤i∧q=.int .i64 i∧p=.int .i64 a∧o=.slice A m c∧M.length=m∧OwnV 9 1 wr W1.heap.size A m c ((nl M).flatMap sc)∧Below W1.heap.size W1 wr∧ll++[[]]=M++splitF 10 (s.drop a)∧∀ j,a≤j→j < i→∀ c,s[j]? = some c→c≠10) (fun _ _ q _=>n - (intOf q).toNat)
 case atStart=>exact ⟨0,0,0,0,none,[],by omega,by omega,by omega,rfl,rfl,rfl,rfl,OwnV.nil _ _ _ _,HB2.out,by rw [← HSP.out];rfl,fun j h1 h2=>by omega⟩
 case round =>
  obtain ⟨i,a,m,c,A,M,hai,hi,hmi,rfl,rfl,rfl,hM,ho,hb,hq,hno⟩:=hrel
  have HQ:=Lib.hid hq
  have HNO:=Lib.hid hno
  have HO:=Lib.hid ho
  have HB:=Lib.hid hb
  have HM:=Lib.hid hM
  clear hq hno ho hb hM HB2 HSP
  by_cases hlt:i < n
  ·have hlti:(i:Int) < (n:Int):=by omega
   obtain ⟨d,hd⟩:∃ d,s[i]? = some d:=⟨_,List.getElem?_eq_getElem (by rw [← HN.out];exact hlt)⟩
   obtain ⟨yy,hy⟩:∃ yy,yy=d.toNat:=⟨_,rfl⟩
   have hix:∀ W,(Instr.index 9 (.string sv) (.int .i64 (i:Int))).run Tryz.prog W=.ok (.int .u8 (yy:Int)) W:=by rw [hy];exact HIX.out i d hd
   by_cases hdb:d=10
   ·have i1:((yy:Int) == 10)=true:=by rw [hy,hdb];rfl
    have hsp:=(splitF_from (b:=10) (s:=s) hai HNO.out).1 (by rw [hd,hdb])
    have HQ2:Hid (ll++[[]]=(M++[(s.take i).drop a])++splitF 10 (s.drop (i+1))):=Lib.hid (by rw [HQ.out,hsp,List.append_assoc];rfl)
    have hex:sv.extract a (i+1)=bsOf ((s.take i).drop a++[10]):=by rw [HEX.out a (i+1),piece hai (by rw [hd,hdb])]
    have hle:a≤i+1:=by omega
    have hle2:i+1≤n:=by omega
    have hle3:(a:Int)≤(i:Int)+1:=by omega
    have hle4:(i:Int)+1≤(n:Int):=by omega
    have hbl:=bl1 wr (.cells #[.string (bsOf ((s.take i).drop a++[10]))] 9)
    have hown:=HO.out.below rfl hbl
    have hr2:=rdV_new wr #[.string (bsOf ((s.take i).drop a++[10]))] 9 ((nl [(s.take i).drop a]).flatMap sc) rfl
    have hszb:W1.heap.size≤(wr.alloc (.cells #[.string (bsOf ((s.take i).drop a++[10]))] 9)).heap.size:=Nat.le_trans HB.out.size hbl.size
    have HBL:=Lib.hid (HB.out.trans (hbl.mono HB.out.size))
    have HNX:Hid (∀ j,i+1≤j→j < i+1→∀ c,s[j]? = some c→c≠10):=Lib.hid fun j h1 h2=>by omega
    clear hsp hd hdb hy HQ HNO HO hbl HIX
    go_wp2_with (at_builtin;go_loud (refine wpList_appX elS rfl (.tmp 35) (.tmp 41) rfl rfl W1.heap.size A m c _ rfl hown _ 1 1 _ _ rfl hr2 rfl Nat.one_pos (sc_one _) (by omega) (by unfold maxLen;omega) hszb (m+1) rfl ((nl (M++[(s.take i).drop a])).flatMap sc) (by rw [nl_app,List.flatMap_append]) ?_;intro A5 c5 w5 hw5 hb5 hg5))
    have HW5:=Lib.hid hw5
    have HB5:=Lib.hid (HBL.out.trans hb5)
    go_roundw
    case rel=>exact ⟨i+1,i+1,m+1,c5,A5,M++[(s.take i).drop a],by omega,by omega,by omega,by go_num,by go_num,rfl,by rw [List.length_append,HM.out];rfl,HW5.out,HB5.out,HQ2.out,HNX.out⟩
    case measure=>simp [intOf];omega
   ·have i1:((yy:Int) == 10)=false:=by
     rw [beq_eq_false_iff_ne,hy]
     exact fun e=>hdb (UInt8.toNat_inj.1 (Int.ofNat.inj e))
    have HNX:Hid (∀ j,a≤j→j < i+1→∀ c,s[j]? = some c→c≠10):=Lib.hid fun j h1 h2 c hc=>by
     rcases Nat.lt_or_ge j i with h3 | h3
     ·exact HNO.out j h1 h3 c hc
     ·obtain rfl:j=i:=by omega
      rw [hd] at hc
      injection hc with hc
      rw [← hc]
      exact hdb
    clear hd hdb hy HNO HIX
    go_wp2_with fail
    go_roundw
    case rel=>exact ⟨i+1,a,m,c,A,M,by omega,by omega,by omega,by go_num,rfl,rfl,HM.out,HO.out,HB.out,HQ.out,HNX.out⟩
    case measure=>simp [intOf];omega
  ·have hlti:¬ (i:Int) < (n:Int):=by omega
   have hsp:=(splitF_from (b:=10) (s:=s) hai HNO.out).2 (by rw [← HN.out];omega)
   have hq2:=HQ.out
   rw [hsp] at hq2
   have hMl:ll=M:=(List.append_inj' hq2 rfl).1
   subst hMl
   have hmn:m=y.n1+y.n2+y.n3:=by rw [← HM.out];exact hnn
   have ROW:Hid (RdB sc wr wr.heap.size A m (nl ll)):=Lib.hid ⟨by rw [nl_len];exact HM.out,HO.out.rd⟩
   obtain ⟨m0,m1,m2⟩:=(HV4.out.on HB.out).three
   have q1:((m:Int) != (y.n1:Int)+(y.n2:Int)+(y.n3:Int))=false:=by
    rw [bne_eq_false_iff_eq,hmn];omega
   have hm48:m≤48:=by omega
   have HML:Hid (m=ll.length):=Lib.hid HM.out.symm
   clear hsp hq2 HQ HNO HO hai hmi HIX HEX hnn hmn HM HN HFR HLI HYR
   go_wp2_with fail
   clear m0 m1 m2 q1
   refine (within_any a1 m wr (by omega)).mono ?_
   rintro e w3 ⟨k,hk,rfl,rfl⟩
   have hbl:=bl1 wr (.cells #[.string ⟨#[110,111,110,115,101,110,115,101,10]⟩,.string ⟨#[112,97,114,116,10]⟩,.string ⟨#[99,104,97,110,32,97,32,98,10]⟩,.string ⟨#[116,97,98,108,101,32,120,10]⟩,.string ⟨#[32,10]⟩] 9)
   have hc5:(wr.alloc (.cells #[.string ⟨#[110,111,110,115,101,110,115,101,10]⟩,.string ⟨#[112,97,114,116,10]⟩,.string ⟨#[99,104,97,110,32,97,32,98,10]⟩,.string ⟨#[116,97,98,108,101,32,120,10]⟩,.string ⟨#[32,10]⟩] 9)).cell? ⟨wr.heap.size,j,none⟩=some (.string (bsOf (badL j++[10]))):=(World.cell?_alloc_mark _ _ _ _ _).trans (five_cell j hj5)
   have HBL:=Lib.hid (HB.out.trans (hbl.mono HB.out.size))
   have ROW2:=Lib.hid (ROW.out.on hbl)
   obtain ⟨sb,hsb⟩:∃ sb,sb=bsOf (badL j++[10]):=⟨_,rfl⟩
   rw [← hsb] at hc5
   have HSB:=Lib.hid hsb
   have HBF:=Lib.hid (badQ_free j).2
   clear hsb hbl
   have ead:=mk_add wr.heap.size j
   have hji:¬ 5≤j:=by omega
   have hji2:(j:Int) < 5:=by omega
   go_upto_region 15 with fail
   generalize wr.alloc (.cells #[.string ⟨#[110,111,110,115,101,110,115,101,10]⟩,.string ⟨#[112,97,114,116,10]⟩,.string ⟨#[99,104,97,110,32,97,32,98,10]⟩,.string ⟨#[116,97,98,108,101,32,120,10]⟩,.string ⟨#[32,10]⟩] 9)=w4 at HBL ROW2 hc5 ⊢
   clear hc5 ead hji hji2 hjm hj1 hj2 HB ROW
   have HB4:=Lib.hid (HB1.out.trans (HBL.out.mono HB1.out.size))
   have HPA:=Lib.hid fun W=>tParse_any (allT ll (badL j++[10]) k (ll.length+1)) W (by have h1:=allT_len (l:=ll) (b:=badL j++[10]) k (ll.length+1);have h2:=HLN.out;have h3:=HBF.out;rw [List.length_append,List.length_cons,List.length_nil] at h1;omega)
   unfold ParX at HPA
   rw [allT_all (by have:=HML.out;omega),HBAD.out k (by have:=HML.out;omega),← allT_all (b:=badL j++[10]) (by have:=HML.out;omega),show ((k+1:Nat):Int)=(k:Int)+1 by omega] at HPA
   have HAL:Hid (∀ i,(allT ll (badL j++[10]) k i).length≤14100):=Lib.hid fun i=>by have h1:=allT_len (l:=ll) (b:=badL j++[10]) k i;have h2:=HLN.out;have h3:=HBF.out;rw [List.length_append,List.length_cons,List.length_nil] at h1;omega
   have HA1:=Lib.hid fun x (h:ll[k]? = some x)=>allT_at (b:=badL j++[10]) h
   have HA2:Hid (k=ll.length→allT ll (badL j++[10]) k k++(badL j++[10])=allT ll (badL j++[10]) k (k+1)):=Lib.hid fun h=>allT_last h
   have HA3:=Lib.hid fun (i:Nat) (x:List UInt8) (h:ll[i]? = some x) (hi:i≠k)=>allT_next (b:=badL j++[10]) h hi
   have HA4:Hid (k < ll.length→allT ll (badL j++[10]) k ll.length=allT ll (badL j++[10]) k (ll.length+1)):=Lib.hid fun h=>allT_end h
   have HA0:Hid (allT ll (badL j++[10]) k 0=[]):=Lib.hid (by unfold allT;rw [if_pos (Nat.zero_le _)];rfl)
   have HBL8:Hid ((badL j++[10]).length≤9):=Lib.hid (by have h3:=HBF.out;rw [List.length_append,List.length_cons,List.length_nil];omega)
   generalize badL j++[10]=bb at HPA HAL HA1 HA2 HA3 HA4 HA0 HBL8 HSB
   generalize hAL:allT ll bb k=AL at HPA HAL HA1 HA2 HA3 HA4 HA0
   clear hAL HBAD HBF
   go_wp2_with fail
   go_loopw [14,15] (fun o q wx=>∃ i:Nat,i≤m+1∧q=.int .i64 i∧o=.string (bsOf (AL i))∧Below w4.heap.size w4 wx) (fun _ q _=>m+1 - (intOf q).toNat)
   case atStart=>exact ⟨0,by omega,rfl,by rw [HA0.out];rfl,Below.refl _ _⟩
   case round =>
    obtain ⟨i,hi2,rfl,rfl,hbx⟩:=hrel
    have HBX:=Lib.hid hbx
    clear hbx HA0
    by_cases him:i < m
    ·have hlm:(i:Int) < (m:Int):=by omega
     have hlm2:(i:Int)≤(m:Int):=by omega
     obtain ⟨ad,z,rfl,had,hz,e0,ek⟩:=(ROW2.out.on HBX.out).at_ sc_len (by omega) him
     have e0:=e0 _ rfl
     rw [Nat.mul_one] at e0
     obtain ⟨x,hxl,hxz⟩:∃ x,ll[i]? = some x∧x++[10]=z:=by
      unfold nl at hz
      rw [List.getElem?_map] at hz
      cases hq:ll[i]? with
      | none=>rw [hq] at hz;cases hz
      | some x=>rw [hq] at hz;injection hz with hz;exact ⟨x,rfl,hz⟩
     subst hxz
     obtain ⟨sz,hszz⟩:∃ sz,sz=bsOf (x++[10]):=⟨_,rfl⟩
     rw [← hszz] at e0
     obtain ⟨sn,hsn⟩:∃ sn,sn=bsOf (AL (i+1)):=⟨_,rfl⟩
     have HSN:=Lib.hid hsn
     by_cases hik:i=k
     ·subst hik
      have q1:((i:Int) == (i:Int))=true:=beq_self_eq_true _
      have h1:=HA1.out x hxl
      have hl1:=congrArg List.length h1
      have hl2:=HAL.out (i+1)
      rw [List.length_append] at hl1
      obtain ⟨s1,hs1⟩:∃ s1,s1=bsOf (AL i++bb):=⟨_,rfl⟩
      have ad1:∀ W,(Op.stringOp .add (bsOf (AL i)) sb).run Tryz.prog W=.ok (.string s1) W:=by rw [HSB.out,hs1];exact sadd _ _ (by rw [List.length_append] at hl1;omega)
      have ad2:∀ W,(Op.stringOp .add s1 sz).run Tryz.prog W=.ok (.string sn) W:=by rw [hs1,hszz,hsn,← h1];exact sadd _ _ (by omega)
      clear ek hz hxl had hszz hsn h1 hl1 hl2 hs1 HA1 HA2 HA3 HA4
      generalize bsOf (AL i)=sa at ad1 ⊢
      go_wp2_with fail
      go_roundw
      case rel=>exact ⟨i+1,by omega,by go_num,congrArg Value.string HSN.out,HBX.out⟩
      case measure=>(simp [intOf] <;> omega)
     ·have q1:((i:Int) == (k:Int))=false:=beq_eq_false_iff_ne.2 (by omega)
      have h1:=HA3.out i x hxl hik
      have hl1:=congrArg List.length h1
      have hl2:=HAL.out (i+1)
      rw [List.length_append] at hl1
      have ad2:∀ W,(Op.stringOp .add (bsOf (AL i)) sz).run Tryz.prog W=.ok (.string sn) W:=by rw [hszz,hsn,← h1];exact sadd _ _ (by omega)
      clear ek hz hxl had hszz hsn h1 hl1 hl2 HA1 HA2 HA3 HA4
      generalize bsOf (AL i)=sa at ad2 ⊢
      go_wp2_with fail
      go_roundw
      case rel=>exact ⟨i+1,by omega,by go_num,congrArg Value.string HSN.out,HBX.out⟩
      case measure=>(simp [intOf] <;> omega)
    ·have hlm:¬ (i:Int) < (m:Int):=by omega
     by_cases hie:i=m
     ·subst hie
      have hlm2:(i:Int)≤(i:Int):=by omega
      obtain ⟨sn,hsn⟩:∃ sn,sn=bsOf (AL (i+1)):=⟨_,rfl⟩
      have HSN:=Lib.hid hsn
      by_cases hik:i=k
      ·subst hik
       have q1:((i:Int) == (i:Int))=true:=beq_self_eq_true _
       have h1:=HA2.out HML.out
       have hl1:=congrArg List.length h1
       have hl2:=HAL.out (i+1)
       rw [List.length_append] at hl1
       have ad1:∀ W,(Op.stringOp .add (bsOf (AL i)) sb).run Tryz.prog W=.ok (.string sn) W:=by rw [HSB.out,hsn,← h1];exact sadd _ _ (by omega)
       clear hsn h1 hl1 hl2 HA1 HA2 HA3 HA4
       generalize bsOf (AL i)=sa at ad1 ⊢
       go_wp2_with fail
       go_roundw
       case rel=>exact ⟨i+1,by omega,by go_num,congrArg Value.string HSN.out,HBX.out⟩
       case measure=>(simp [intOf] <;> omega)
      ·have q1:((i:Int) == (k:Int))=false:=beq_eq_false_iff_ne.2 (by omega)
       have h1:=HA4.out (by have:=HML.out;omega)
       rw [← HML.out] at h1
       have HH1:=Lib.hid h1
       clear hsn h1 HA1 HA2 HA3 HA4 HSN
       go_wp2_with fail
       go_roundw
       case rel=>exact ⟨i+1,by omega,by go_num,by rw [HH1.out],HBX.out⟩
       case measure=>(simp [intOf] <;> omega)
     ·have hlm2:¬ (i:Int)≤(m:Int):=by omega
      obtain rfl:i=m+1:=by omega
      rw [← HML.out] at HPA
      have hpa:=HPA.out
      clear HA1 HA2 HA3 HA4 HAL
      generalize AL (m+1)=tx at HPA ⊢
      go_wp2_with fail
      refine (HPA.out wr).mono ?_
      rintro e w5 ⟨hb5,x5,rfl,_⟩
      have hbx5:=bl1 w5 (.cells #[.slice x5.A1 x5.n1 x5.c1,.slice x5.A2 x5.n2 x5.c2,.slice x5.A3 x5.n3 x5.c3] 31)
      have HB5:=Lib.hid ((HB4.out.trans (HBX.out.mono HB4.out.size)).trans ((hb5.trans (hbx5.mono hb5.size)).mono (Nat.le_trans HB4.out.size HBX.out.size)))
      clear hb5 hbx5
      unfold cfv
      go_wp2_with fail
      refine (known13_any _ (HT.out.on HB5.out)).mono ?_
      rintro e w6 ⟨rfl,hb6⟩
      go_wp2_with fail
      go_ret
      exact Ans.mk rfl (HB5.out.trans (hb6.mono HB5.out.size))
set_option maxRecDepth 100000 in
theorem lifted (os:Os) (started:os.Started) (H:Type) (enc:TypeId×Value→H) :
  ReturnsInHanded {} Tryz.checked os 5 .any (fun w args=>(Rows.textLinesSpec.pre enc Tryz.prog Tryz.f5 [] false w args∧laidMetH Tryz.prog laid13 w)∧sizedMet enc Tryz.prog Tryz.f5 (OpenSpec.ofChange Rows.textLinesSpec) false w args)
   (Rows.textLinesSpec.post enc Tryz.prog Tryz.f5 false true false false):=by
 refine returnsInHanded_of_change_and (C:=Tryz.checked) (X:=fun w _=>laidMetH Tryz.prog laid13 w) (fun _ _ _ hh h=>h.of_heap hh) own started (by kernel_rfl) Tryz.func5
  (ChangeSpec.witness_shaped (enc:=enc) (C:=Tryz.checked) (os:=os) (X:=fun w _=>laidMetH Tryz.prog laid13 w) false (World.doorLaid Tryz.prog 24 os) #[.slice none 0 0,.int .i64 0,.int .i64 0] 8 rfl (World.shaped_of_RefB (by kernel_rfl) (by kernel_rfl)) (by kernel_rfl) (by kernel_rfl) (by kernel_rfl) (door_met os _)) ?_
 intro W base args ds gs before hval0 hW hcnd hsz0 hL _
 have hval:∀ (j:Nat) t v,Tryz.f5.params[j]? = some t→args[j]? = some v→Value.okWide Tryz.prog W .any base t v:=hval0
 have hW':=hW
 obtain ⟨p,q,hA0,hV,rfl,hfz,hnd⟩:=hW
 have hA:DataW.TrodAll enc Tryz.prog W 0 (fun _=>true) true Tryz.f5.params.toList args.toList ds p:=hA0
 have hsz:(DataW.weightsEach Tryz.prog (Tryz.f5.params.toList++Rows.textLinesSpec.plain.varTypes Tryz.prog) (ds++gs)).all (·≤reachBytes)=true:=hsz0
 rw [Tryz.params5] at hA hval hsz
 obtain ⟨v0,vs0,d0,ds0,p0,q0,hargs,rfl,rfl,h0,r0⟩:=trodAll_cons hA
 obtain ⟨v1,vs1,d1,ds1,p1,q1,rfl,rfl,rfl,h1,r1⟩:=trodAll_cons r0
 obtain ⟨v2,vs2,d2,ds2,p2,q2,rfl,rfl,rfl,h2,r2⟩:=trodAll_cons r1
 obtain ⟨rfl,rfl,rfl⟩:=trodAll_nil r2
 obtain rfl:args=#[v0,v1,v2]:=by cases args;simp_all
 obtain ⟨rfl,rfl⟩:=trodVars_none hV
 obtain ⟨A0,n0,k0,rfl⟩:=okWide_slice Tryz.underlying23 (hval 0 23 v0 rfl rfl)
 have t0:=h0
 have lt0:∀ x∈p0,x.block < W.heap.size:=by obtain ⟨m,hm⟩:=t0;exact DataW.trod_lt m _ _ _ hm
 obtain ⟨f0,u0,c0,b0,w0⟩:=ints_sized h0 (fun elems spare e=>sized_slice hsz (j:=0) (t:=23) (e:=3) rfl (by rw [← e];rfl) Tryz.underlying23)
 obtain ⟨a1,rfl,rfl,rfl,w1⟩:=open_int Tryz.underlying3 (hval 1 3 v1 rfl rfl) h1
 obtain ⟨a2,rfl,rfl,rfl,w2⟩:=open_int Tryz.underlying3 (hval 2 3 v2 rfl rfl) h2
 clear hA0 hval0
 refine (walk A0 n0 k0 f0 a1 a2 W u0 c0 b0 w0 w1 w2 (tabW_of_laid hL)).mono fun e W' ⟨he,bel⟩=>?_
 subst he
 exact ⟨_,rfl,_,_,_,[],_,[],hW',trodAll_mk1 (shut_bool Tryz.underlying4 _),(trodAll_cons_mk (Below.trod laidOut (by kernel_rfl) (of_decide_eq_true (by kernel_rfl)) t0 bel lt0) (trodAll_cons_mk (shut_int Tryz.underlying3 w1) (trodAll_cons_mk (shut_int Tryz.underlying3 w2) trodAll_mk0))),rfl,bel.frame _,fun h=>by cases h⟩
theorem proved:Rows.TextLinesSaid :=
 OpenClaim.holds_of_wide 5 Tryz.f5 rfl rfl rfl rfl rfl rfl rfl ⟨rfl,rfl,rfl,rfl,rfl⟩ rfl rfl rfl rfl rfl (by kernel_rfl) Tryz.func5 (by kernel_rfl)
  (of_decide_eq_true (by kernel_rfl)) (by unfold Func.isWrapper;first | (rw [if_pos (by decide +kernel)];kernel_rfl) | (rw [if_neg (by decide +kernel)];exact ⟨rfl,rfl⟩))
  (fun os started H enc _=>lifted os started H enc)
theorem card:Rows.TextLinesCardSaid :=
 Claim7.holds_tied_plain_at .later [] [.data,.data,.data] true Rows.textLinesCard.stood.harness false
  proved (fun _ h=>by cases h) (by kernel_rfl) (fun _ h=>by cases h) textLines_row_tie rfl ⟨rfl,rfl⟩ (by kernel_rfl) (by kernel_rfl)
  (fun f fn hf hfn=>by
   obtain rfl:f=5:=Option.some.inj ((show Tryz.prog.funcNamed Rows.textLinesRow.func=some 5 by kernel_rfl).symm.trans hf) |>.symm
   obtain rfl:fn=Tryz.f5:=(Option.some.inj (Tryz.func5.symm.trans hfn)).symm
   refine ⟨by kernel_rfl,fun j t ht=>?_⟩
   have hall:(Tryz.f5.params.toList.all fun u=>!Tryz.prog.wantsStandIn u)=true:=by kernel_rfl
   have hm:t∈Tryz.f5.params.toList:=by simpa using Array.mem_of_getElem? ht
   have h1:=List.all_eq_true.1 hall t hm
   show Tryz.prog.wantsStandIn t=false
   simpa using h1)
  (by kernel_rfl)
end Go.Proofs.YtfmndmhjjbeokaaGreatDoor.textLines
