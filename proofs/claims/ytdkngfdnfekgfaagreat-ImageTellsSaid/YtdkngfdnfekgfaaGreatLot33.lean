import Derived.Test.YtdkngfdnfekgfaaGreatLot24
import Derived.Lib.ConvBytes
import Derived.Lib.UnsafeStr
set_option maxHeartbeats 4000000
set_option maxRecDepth 100000
set_option linter.unusedSimpArgs false
set_option linter.unusedVariables false
namespace Go.Proofs.YtdkngfdnfekgfaaGreat
open Go.RowKit Tab
def Pur(v:Value)(w:World)(e:Ending)(w':World):Prop:=e=.returned v∧w=w'
def wiF(n a b:Int):Bool:=decide (a≤n) && decide (n≤b)
theorem wi_any(n a b:Int)(w:World):Calls Tryz.prog 93 #[.int .i64 n,.int .i64 a,.int .i64 b] w (Pur (.bool (wiF n a b)) w):=by
 have HV:Hid (wiF n a b=(decide (a≤n) && decide (n≤b))):=hid rfl;generalize wiF n a b=v at HV;go_enter Tryz.func93,Tryz.ntmps93;by_cases h1:a≤n
 ·have e1:v=decide (n≤b):=by rw[HV.out,decide_eq_true h1];rfl
  have E1:=hid e1;clear e1 HV;by_cases h2:n≤b
  ·have E2:Hid (v=true):=hid (by rw[E1.out,decide_eq_true h2]);clear E1;go_wp2_with fail;go_ret;exact⟨by rw[E2.out];rfl,rfl⟩
  have E2:Hid (v=false):=hid (by rw[E1.out,decide_eq_false h2]);clear E1;go_wp2_with fail;go_ret;exact⟨by rw[E2.out];rfl,rfl⟩
 have E2:Hid (v=false):=hid (by rw[HV.out,decide_eq_false h1];rfl);clear HV;go_wp2_with fail;go_ret;exact⟨by rw[E2.out];rfl,rfl⟩
theorem wi64_any(n a b:Int)(w:World):Calls Tryz.prog 99 #[.int .i64 n,.int .i64 a,.int .i64 b] w (Pur (.bool (wiF n a b)) w):=by
 have HV:Hid (wiF n a b=(decide (a≤n) && decide (n≤b))):=hid rfl;generalize wiF n a b=v at HV;go_enter Tryz.func99,Tryz.ntmps99;by_cases h1:a≤n
 ·have e1:v=decide (n≤b):=by rw[HV.out,decide_eq_true h1];rfl
  have E1:=hid e1;clear e1 HV;by_cases h2:n≤b
  ·have E2:Hid (v=true):=hid (by rw[E1.out,decide_eq_true h2]);clear E1;go_wp2_with fail;go_ret;exact⟨by rw[E2.out];rfl,rfl⟩
  have E2:Hid (v=false):=hid (by rw[E1.out,decide_eq_false h2]);clear E1;go_wp2_with fail;go_ret;exact⟨by rw[E2.out];rfl,rfl⟩
 have E2:Hid (v=false):=hid (by rw[HV.out,decide_eq_false h1];rfl);clear HV;go_wp2_with fail;go_ret;exact⟨by rw[E2.out];rfl,rfl⟩
def leF(b:Nat):Bool:=decide (97≤b) && decide (b≤122)
def diF(b:Nat):Bool:=decide (48≤b) && decide (b≤57)
theorem letter_any(b:Nat)(w:World):Calls Tryz.prog 112 #[.int .u8 (b:Int)] w (Pur (.bool (leF b)) w):=by
 have HV:Hid (leF b=(decide (97≤b) && decide (b≤122))):=hid rfl;generalize leF b=v at HV;go_enter Tryz.func112,Tryz.ntmps112;by_cases h1:97≤b
 ·have e1:v=decide (b≤122):=by rw[HV.out,decide_eq_true h1];rfl
  have E1:=hid e1;have h1':(97:Int)≤(b:Int):=by omega
  clear e1 HV;by_cases h2:b≤122
  ·have E2:Hid (v=true):=hid (by rw[E1.out,decide_eq_true h2]);have h2':(b:Int)≤122:=by omega
   clear E1 h1 h2;go_wp2_with fail;go_ret;exact⟨by rw[E2.out];rfl,rfl⟩
  have E2:Hid (v=false):=hid (by rw[E1.out,decide_eq_false h2]);have h2':¬ (b:Int)≤122:=by omega
  clear E1 h1 h2;go_wp2_with fail;go_ret;exact⟨by rw[E2.out];rfl,rfl⟩
 have E2:Hid (v=false):=hid (by rw[HV.out,decide_eq_false h1];rfl);have h1':¬ (97:Int)≤(b:Int):=by omega
 clear HV h1;go_wp2_with fail;go_ret;exact⟨by rw[E2.out];rfl,rfl⟩
theorem digit_any(b:Nat)(w:World):Calls Tryz.prog 113 #[.int .u8 (b:Int)] w (Pur (.bool (diF b)) w):=by
 have HV:Hid (diF b=(decide (48≤b) && decide (b≤57))):=hid rfl;generalize diF b=v at HV;go_enter Tryz.func113,Tryz.ntmps113;by_cases h1:48≤b
 ·have e1:v=decide (b≤57):=by rw[HV.out,decide_eq_true h1];rfl
  have E1:=hid e1;have h1':(48:Int)≤(b:Int):=by omega
  clear e1 HV;by_cases h2:b≤57
  ·have E2:Hid (v=true):=hid (by rw[E1.out,decide_eq_true h2]);have h2':(b:Int)≤57:=by omega
   clear E1 h1 h2;go_wp2_with fail;go_ret;exact⟨by rw[E2.out];rfl,rfl⟩
  have E2:Hid (v=false):=hid (by rw[E1.out,decide_eq_false h2]);have h2':¬ (b:Int)≤57:=by omega
  clear E1 h1 h2;go_wp2_with fail;go_ret;exact⟨by rw[E2.out];rfl,rfl⟩
 have E2:Hid (v=false):=hid (by rw[HV.out,decide_eq_false h1];rfl);have h1':¬ (48:Int)≤(b:Int):=by omega
 clear HV h1;go_wp2_with fail;go_ret;exact⟨by rw[E2.out];rfl,rfl⟩
theorem owed_any(b p:Int)(w:World):Calls Tryz.prog 98 #[.int .i64 b,.int .i64 p] w (Pur (.bool (pbF b p)) w):=by
 have HV:Hid (pbF b p=((decide (b=0) && decide (p=0)) || (wiF b 1 4096 && wiF p b 4096))):=hid rfl;generalize pbF b p=v at HV;have HZ:Hid (b=0→wiF b 1 4096=false):=hid fun h=>by rw[h];rfl
 have H1:=hid fun V=>wi64_any b 1 4096 V;have H2:=hid fun V=>wi64_any p b 4096 V;generalize wiF b 1 4096=q1 at H1 HV HZ;generalize wiF p b 4096=q2 at H2 HV;go_enter Tryz.func98,Tryz.ntmps98;by_cases h0:b=0
 ·have hq:(b == 0)=true:=beq_iff_eq.2 h0;have E0:Hid (v=decide (p=0)):=hid (by rw[HV.out,decide_eq_true h0,HZ.out h0];simp);clear HV HZ h0 H1 H2;by_cases h1:p=0
  ·have hp:(p == 0)=true:=beq_iff_eq.2 h1;have E2:Hid (v=true):=hid (by rw[E0.out,decide_eq_true h1]);clear E0 h1;go_wp2_with fail;go_ret;exact⟨by rw[E2.out];rfl,rfl⟩
  have hp:(p == 0)=false:=beq_eq_false_iff_ne.2 h1;have E2:Hid (v=false):=hid (by rw[E0.out,decide_eq_false h1]);clear E0 h1;go_wp2_with fail;go_ret;exact⟨by rw[E2.out];rfl,rfl⟩
 have hq:(b == 0)=false:=beq_eq_false_iff_ne.2 h0;have E0:Hid (v=(q1 && q2)):=hid (by rw[HV.out,decide_eq_false h0];rfl);clear HV HZ h0;cases q1
 ·have E2:Hid (v=false):=hid (by rw[E0.out];rfl);clear E0;go_wp2_with fail;refine(H1.out _).mono ?_;rintro e w5⟨rfl,rfl⟩;go_wp2_with fail;go_ret;exact⟨by rw[E2.out];rfl,rfl⟩
 have E2:Hid (v=q2):=hid (by rw[E0.out];rfl);clear E0;go_wp2_with fail;refine(H1.out _).mono ?_;rintro e w5⟨rfl,rfl⟩;go_wp2_with fail;refine(H2.out _).mono ?_;rintro e w5⟨rfl,rfl⟩;go_wp2_with fail;go_ret;exact⟨by rw[E2.out];rfl,rfl⟩
theorem health_any(hf : Nat → Int)(w : World): Calls Tryz.prog 97 #[.agg #[.int .i64 (hf 0), .int .i64 (hf 1), .int .i64 (hf 2), .int .i64 (hf 3), .int .i64 (hf 4)]] w (Ans (.bool ((List.range 5).all fun j => hlF (hf j))) w) := by
  have HNO : Hid (∀ j, j < 5 → hlF (hf j) = false → (List.range 5).all (fun j => hlF (hf j)) = false) := hid fun j hj h => by
    rw [List.all_eq_false]
    exact ⟨j, List.mem_range.2 hj, by rw [h]; simp⟩
  have HYES : Hid ((∀ j, j < 5 → hlF (hf j) = true) → (List.range 5).all (fun j => hlF (hf j)) = true) := hid fun h => by
    rw [List.all_eq_true]
    exact fun j hj => h j (List.mem_range.1 hj)
  generalize (List.range 5).all (fun j => hlF (hf j)) = v at HNO HYES ⊢
  have HB0 := hid (bl1 w (.cells #[.int .i64 (hf 0), .int .i64 (hf 1), .int .i64 (hf 2), .int .i64 (hf 3), .int .i64 (hf 4)] 55))
  have HZ : Hid (∀ j : Nat, j < 5 → ∀ W, (Instr.index 55 (.agg #[Value.int .i64 (hf 0), .int .i64 (hf 1), .int .i64 (hf 2), .int .i64 (hf 3), .int .i64 (hf 4)]) (.int .i64 (j : Int))).run Tryz.prog W = .ok (.int .i64 (hf j)) W) := hid fun j hj => by
    rcases (by omega : j = 0 ∨ j = 1 ∨ j = 2 ∨ j = 3 ∨ j = 4) with rfl | rfl | rfl | rfl | rfl <;> exact fun W => by simp [Instr.index, go_sem]
  generalize hf 0 = h0 at HZ HB0 ⊢
  generalize hf 1 = h1 at HZ HB0 ⊢
  generalize hf 2 = h2 at HZ HB0 ⊢
  generalize hf 3 = h3 at HZ HB0 ⊢
  generalize hf 4 = h4 at HZ HB0 ⊢
  go_enter Tryz.func97, Tryz.ntmps97
  go_wp2_with fail
  go_loopw [4, 6] (fun _ s wx => ∃ j : Nat, j ≤ 5 ∧ s = .int .i64 j ∧ (∀ k, k < j → hlF (hf k) = true) ∧ Below w.heap.size w wx) (fun _ s _ => 5 - (intOf s).toNat)
  case atStart => exact ⟨0, by omega, rfl, fun k hk => by omega, HB0.out⟩
  case round =>
    obtain ⟨j, hj, rfl, hok, hb⟩ := hrel
    have HOK := hid hok
    clear hok
    by_cases hj5 : j < 5
    · have hz := HZ.out j hj5
      have hj5' : (j : Int) < 5 := by omega
      have HNX : Hid (hlF (hf j) = true → ∀ k, k < j + 1 → hlF (hf k) = true) := hid fun h k hk => by
        rcases Nat.lt_or_ge k j with h5 | h5
        · exact HOK.out k h5
        · obtain rfl : k = j := by omega
          exact h
      have HBD := hid (HNO.out j hj5)
      clear HZ HNO HYES HOK
      generalize hf j = z at hz HNX HBD
      have HPF : Hid (hlF z = (decide (0 ≤ z) && decide (z ≤ 2))) := hid rfl
      rcases (by omega : z < 0 ∨ 2 < z ∨ z = 0 ∨ z = 1 ∨ z = 2) with h5 | h5 | h5 | h5 | h5
      all_goals
        first
        | (have k5 : hlF z = true := by
            rw [HPF.out, decide_eq_true (show 0 ≤ z by omega), decide_eq_true (show z ≤ 2 by omega)]
            rfl)
        | (have k5 : hlF z = false := by
            rw [HPF.out]
            first
            | rw [decide_eq_false (show ¬ 0 ≤ z by omega)]; rfl
            | rw [decide_eq_false (show ¬ z ≤ 2 by omega)]; simp)
        have K5 := hid k5
        clear k5
        first
          | have i1 : (z != 0) = true := bne_iff_ne.2 (by omega)
          | have i1 : (z != 0) = false := by simp; omega
        first
          | have i2 : (z != 1) = true := bne_iff_ne.2 (by omega)
          | have i2 : (z != 1) = false := by simp; omega
        first
          | have i3 : (z != 2) = true := bne_iff_ne.2 (by omega)
          | have i3 : (z != 2) = false := by simp; omega
        clear h5
        go_wp2_with fail
        first
        | (go_ret; exact Ans.mk (by rw [HBD.out K5.out]; rfl) hb)
        | (go_roundw
           case rel => exact ⟨j + 1, by omega, by go_num, HNX.out K5.out, hb⟩
           case measure => simp [intOf]; omega)
    · have hj5' : ¬ (j : Int) < 5 := by omega
      have HV := hid (HYES.out fun k hk => HOK.out k (by omega))
      clear HNO HYES HOK HZ
      go_wp2_with fail
      go_ret
      exact Ans.mk (by rw [HV.out]; rfl) hb
theorem nameF_few{s:ByteArray}(h:¬ (1≤s.size∧s.size≤12)):nameF s=false:=by
 unfold nameF;rcases(by omega:s.size < 1∨12 < s.size) with h1 | h1
 ·rw[decide_eq_false (show ¬ 1≤s.size by omega)];simp
 rw[decide_eq_false (show ¬ s.size≤12 by omega)];simp
theorem chB_at(i b:Nat):chB i b=(leF b || ((diF b || decide (b=95)) && decide (i≠0))):=rfl
theorem bytesW_below(w:World)(e:TypeId)(s:ByteArray):Below w.heap.size w (Lib.bytesWorld w e s):=by
 unfold Lib.bytesWorld;exact Lib.below_freeze (((Below.refl w.heap.size w).drew).alloc (Nat.le_refl _) _) (Nat.le_refl _) 1
theorem bytesW_cell(w:World)(e:TypeId)(s:ByteArray)(j:Nat)(hj:j < s.size):(Lib.bytesWorld w e s).cell? ⟨w.heap.size,j,none⟩=some (.int .u8 (byteN s j)):=by
 rw[Lib.bytesWorld_cell w e s j hj];have h1:s.data.toList.getD j 0=s[j]:=by
  rw[List.getD_eq_getElem?_getD,List.getElem?_eq_getElem (by simpa using hj)];rfl
 rw[h1];unfold byteN;rw[dif_pos hj]
theorem nm_any(s:ByteArray)(w:World)(hs:s.size≤140737488351232):Calls Tryz.prog 94 #[.string s] w (Ans (.bool (nameF s)) w):=by
 have HBAD:=hid fun i (hi:i < s.size) (h:chB i (byteN s i)=false)=>nameF_bad hi h;have HEND:=hid fun(h:∀ j,j < s.size→chB j (byteN s j)=true)=>nameF_end h;have HFEW:=hid fun h=>nameF_few (s:=s) h;have HL:=hid fun b V=>letter_any b V;have HD:=hid fun b V=>digit_any b V;generalize nameF s=v at HBAD HEND HFEW ⊢;go_enter Tryz.func94,Tryz.ntmps94;by_cases h1:s.size < 1
 ·have h1':(s.size:Int) < 1:=by omega
  have HV:=hid (HFEW.out (by omega));clear HBAD HEND HFEW HL HD h1;go_wp2_with fail;go_ret;exact Ans.mk (by rw[HV.out];rfl) (Below.refl _ _)
 have h1':¬ (s.size:Int) < 1:=by omega
 by_cases h2:12 < s.size
 ·have h2':(12:Int) < (s.size:Int):=by omega
  have HV:=hid (HFEW.out (by omega));clear HBAD HEND HFEW HL HD h1 h2;go_wp2_with fail;go_ret;exact Ans.mk (by rw[HV.out];rfl) (Below.refl _ _)
 have h2':¬ (12:Int) < (s.size:Int):=by omega
 have h0:0 < s.size:=by omega
 have hix:∀ W,(Instr.index 9 (.string s) (.int .i64 0)).run Tryz.prog W=.ok (.int .u8 (byteN s 0:Nat)) W:=fun W=>by
  rw[run_index_string (h:=Tryz.underlying9)];simp[h0,byteN]
 have HB0:=hid (HBAD.out 0 h0);have H12:Hid (s.size≤12):=hid (by omega);clear HFEW h1 h2 h0;obtain⟨b0,hb0⟩:∃ b0,b0=byteN s 0:=⟨_,rfl⟩;rw[← hb0] at hix HB0;have HBE:=hid hb0;have HC0:=hid (chB_at 0 b0);clear hb0;have HLB:=hid (HL.out b0);cases hq:leF b0 with
 | false =>
  rw[hq] at HLB HC0;have HV:Hid (v=false):=hid (HB0.out (by rw[HC0.out];simp));clear HBAD HEND HL HD HB0 HC0 hq;go_wp2_with fail;refine(HLB.out _).mono ?_;rintro e w5⟨rfl,rfl⟩;go_wp2_with fail;go_ret;exact Ans.mk (by rw[HV.out];rfl) (Below.refl _ _)
 | true =>
  rw[hq] at HLB HC0;have HK0:Hid (chB 0 (byteN s 0)=true):=hid (by rw[← HBE.out,HC0.out];simp);have hcv:=Lib.run_convert_string_bytes (P:=Tryz.prog) w 9 35 5 s Tryz.underlying9 Tryz.underlying35 Tryz.underlying5;have hbw:=bytesW_below w 5 s;have hcl:=bytesW_cell w 5 s;have hsz:w.heap.size < (Lib.bytesWorld w 5 s).heap.size:=by rw[Lib.bytesWorld_size];omega
  generalize Lib.bytesWorld w 5 s=W at hcv hbw hcl hsz;generalize grownCap w s.size 0 5=cp at hcv;have HBW:=hid hbw;have HCL:=hid hcl;clear HB0 HC0 hq hbw hcl;obtain⟨g,hg⟩:∃ g,g=w.heap.size:=⟨_,rfl⟩;rw[← hg] at hcv HCL hsz;have HG:=hid hg;have HM:=hid fun(W':World) (hb:Below W.heap.size W W') (o:Nat) (v:Value) (hv:W.cell? ⟨g,o,none⟩=some v)=>(hb.cell (p:=⟨g,o,none⟩) hsz).trans hv;clear hg hsz;go_wp2_with fail;refine(HLB.out _).mono ?_;rintro e w5⟨rfl,rfl⟩;clear HLB hix;go_wp2_with fail;clear hcv;go_loopw [4,22] (fun _ q wr=>∃ i:Nat,i≤s.size∧q=.int .i64 i∧(∀ j,j < i→chB j (byteN s j)=true)∧Below W.heap.size W wr) (fun _ q _=>s.size - (intOf q).toNat)
  case atStart=>exact⟨0,by omega,rfl,fun j h=>by omega,Below.refl _ _⟩
  obtain⟨i,hi,rfl,hok,hb⟩:=hrel;have HOK:=hid hok;have HB:=hid hb;clear hok;by_cases hlt:i < s.size
  ·have hlti:(i:Int) < (s.size:Int):=by omega
   have hcell:=HM.out wr hb i _ (HCL.out i hlt);have ead:=mk_add g i;have HNX:Hid (chB i (byteN s i)=true→∀ j,j < i+1→chB j (byteN s j)=true):=hid fun h=>lt_more (p:=fun j=>chB j (byteN s j)=true) HOK.out h;have HBD:=hid (HBAD.out i hlt);have HCH:=hid (chB_at i (byteN s i));have HI0:Hid (i=0→chB i (byteN s i)=true):=hid fun h=>by rw[h];exact HK0.out
   clear hb HOK HBAD HEND;generalize byteN s i=b at hcell HNX HBD HCH HI0;generalize chB i b=q at HNX HBD HCH HI0;have hL:=hid (HL.out b);have hD:=hid (HD.out b);generalize leF b=ql at hL HCH;generalize diF b=qd at hD HCH;clear HL HD;go_wp2_with fail;refine(hL.out _).mono ?_;rintro e w6⟨rfl,rfl⟩;clear hcell;cases ql with
   | true =>
    have K:Hid (q=true):=hid (by rw[HCH.out];rfl);clear HCH;go_wp2_with fail;go_roundw
    case rel=>exact⟨i+1,by omega,by go_num,HNX.out K.out,HB.out⟩
    simp[intOf];omega
   | false =>
    go_wp2_with fail;refine(hD.out _).mono ?_;rintro e w6⟨rfl,rfl⟩;cases qd with
    | true =>
     have K:Hid (q=true):=hid (by
      by_cases h0:i=0
      ·exact HI0.out h0
      rw[HCH.out];simp[h0])
     clear HCH;go_wp2_with fail;go_roundw
     case rel=>exact⟨i+1,by omega,by go_num,HNX.out K.out,HB.out⟩
     simp[intOf];omega
    | false =>
     by_cases h9:b=95
     ·have K:Hid (q=true):=hid (by
       by_cases h0:i=0
       ·exact HI0.out h0
       rw[HCH.out];simp[h0,h9])
      have h9':((b:Int) != 95)=false:=by simp;omega
      clear HCH h9;go_wp2_with fail;go_roundw
      case rel=>exact⟨i+1,by omega,by go_num,HNX.out K.out,HB.out⟩
      simp[intOf];omega
     have K:Hid (q=false):=hid (by rw[HCH.out];simp[h9]);have h9':((b:Int) != 95)=true:=bne_iff_ne.2 (by omega);have HV:=hid (HBD.out K.out);clear HCH h9;go_wp2_with fail;go_ret;exact Ans.mk (by rw[HV.out];rfl) (HBW.out.trans (HB.out.mono HBW.out.size))
  have hlti:¬ (i:Int) < (s.size:Int):=by omega
  have HV:Hid (v=true):=hid (by
   rw[HEND.out fun j hj=>HOK.out j (by omega),decide_eq_true H12.out];have:=HBE;rw[decide_eq_true (show 1≤s.size by omega)];rfl)
  clear HBAD HEND HOK HL HD;go_wp2_with fail;go_ret;exact Ans.mk (by rw[HV.out];rfl) (HBW.out.trans (HB.out.mono HBW.out.size))
theorem prcF_wi(e p:Int):prcF (e,p)=(wiF e 0 511 && wiF p 0 255):=by
 unfold prcF wiF;rw[show decide (e < 512)=decide (e≤511) from decide_eq_decide.2 (by omega)]
def psF(n:Nat)(L:List (Int×Int)):Bool:=wiF (n:Int) 1 3 && L.all prcF
theorem wiF_nat(n a b:Nat):wiF (n:Int) (a:Int) (b:Int)=(decide (a≤n) && decide (n≤b)):=by
 unfold wiF;rw[show decide ((a:Int)≤(n:Int))=decide (a≤n) from decide_eq_decide.2 (by omega),show decide ((n:Int)≤(b:Int))=decide (n≤b) from decide_eq_decide.2 (by omega)]
theorem partF_parts(x:PtV)(L:List (Int×Int)):partF x L=(psF x.pn L && ((List.range 5).all (fun j=>hlF (hv5 x j)) && pbF x.bud x.per)):=by
 unfold partF psF;rw[show wiF (x.pn:Int) 1 3=(decide (1≤x.pn) && decide (x.pn≤3)) from wiF_nat x.pn 1 3,Bool.and_assoc,Bool.and_assoc,Bool.and_assoc]
theorem procs_any(A:Option Addr)(n c:Nat)(L:List (Int×Int))(w:World)(h:RdB prc w w.heap.size A n L):
  Calls Tryz.prog 96 #[.slice A n c] w (Ans (.bool (psF n L)) w):=by
 have HBAD:Hid (∀(i:Nat) q,L[i]? = some q→prcF q=false→psF n L=false):=hid fun i q hq h=>by
  unfold psF;have:L.all prcF=false:=by
   rw[List.all_eq_false];exact⟨q,List.mem_of_getElem? hq,by rw[h];simp⟩
  rw[this,Bool.and_false]
 have HEND:Hid (wiF (n:Int) 1 3=true→(∀(i:Nat) q,L[i]? = some q→prcF q=true)→psF n L=true):=hid fun h1 h=>by
  unfold psF;have:L.all prcF=true:=by
   rw[List.all_eq_true];intro q hq;obtain⟨i,hi⟩:=List.getElem?_of_mem hq;exact h i q hi
  rw[h1,this];rfl
 have HFEW:Hid (wiF (n:Int) 1 3=false→psF n L=false):=hid fun h=>by unfold psF;rw[h];rfl
 have HN3:Hid (wiF (n:Int) 1 3=true→n≤3):=hid fun h=>by
  rw[show wiF (n:Int) 1 3=(decide (1≤n) && decide (n≤3)) from wiF_nat n 1 3] at h;simp at h;exact h.2
 generalize psF n L=v at HBAD HEND HFEW ⊢;have HW:=hid (wi_any (n:Int) 1 3);have HWI:=hid fun x b V=>wi_any x 0 b V;have HR:=hid h;clear h;go_enter Tryz.func96,Tryz.ntmps96;cases hq:wiF (n:Int) 1 3 with
 | false =>
  rw[hq] at HW;have HV:=hid (HFEW.out hq);clear HBAD HEND HFEW HN3 HWI HR hq;go_wp2_with fail;refine(HW.out _).mono ?_;rintro e w5⟨rfl,rfl⟩;go_wp2_with fail;go_ret;exact Ans.mk (by rw[HV.out];rfl) (Below.refl _ _)
 | true =>
  rw[hq] at HW;have hn3:=HN3.out hq;have HE:=hid (HEND.out hq);clear HEND HFEW HN3 hq;go_wp2_with fail;refine(HW.out _).mono ?_;rintro e w5⟨rfl,rfl⟩;go_wp2_with fail;go_loopw [4,11] (fun _ s wr=>∃ i:Nat,i≤n∧s=.int .i64 i∧(∀(j:Nat) (q:Int×Int),j < i→L[j]? = some q→prcF q=true)∧Below w.heap.size w wr) (fun _ s _=>n - (intOf s).toNat)
  case atStart=>exact⟨0,by omega,rfl,fun j q hj=>by omega,Below.refl _ _⟩
  obtain⟨i,hi,rfl,hok,hb⟩:=hrel;have HOK:=hid hok;clear hok;by_cases hlt:i < n
  ·obtain⟨ad,q,rfl,had,hx,c0,ck⟩:=(HR.out.on hb).at_ prc_len (by omega) hlt;have d0:=c0 _ rfl;have d1:=ck 1 _ (by omega) rfl;obtain⟨e,p⟩:=q;dsimp only at d0 d1;have HNX:Hid (prcF (e,p)=true→∀(j:Nat) (q:Int×Int),j < i+1→L[j]? = some q→prcF q=true):=hid fun h j q hj hq=>by
    rcases Nat.lt_or_ge j i with h5 | h5
    ·exact HOK.out j q h5 hq
    obtain rfl:j=i:=by omega
    rw[hx] at hq;injection hq with hq;rw[← hq];exact h
   have HBD:=hid (HBAD.out i _ hx);have HB:=hid (hb.trans ((bl1 wr (.cells #[.int .i64 e,.int .i64 p] 59)).mono hb.size));have HPF:=hid (prcF_wi e p);have H1:=hid (HWI.out e 511);have H2:=hid (HWI.out p 255);generalize wiF e 0 511=q1 at HPF H1;generalize wiF p 0 255=q2 at HPF H2;clear c0 ck hx HOK HBAD HE HWI hb;cases q1 with
   | false =>
    have HV:=hid (HBD.out (by rw[HPF.out];rfl));clear HBD HPF HNX;go_wp2_with fail;refine(H1.out _).mono ?_;rintro e w5⟨rfl,rfl⟩;go_wp2_with fail;go_ret;exact Ans.mk (by rw[HV.out];rfl) HB.out
   | true =>
    go_wp2_with fail;refine(H1.out _).mono ?_;rintro e w5⟨rfl,rfl⟩;go_wp2_with fail;refine(H2.out _).mono ?_;rintro e w5⟨rfl,rfl⟩;cases q2 with
    | false =>
     have HV:=hid (HBD.out (by rw[HPF.out];rfl));clear HBD HPF HNX;go_wp2_with fail;go_ret;exact Ans.mk (by rw[HV.out];rfl) HB.out
    | true =>
     have HN:=hid (HNX.out (by rw[HPF.out];rfl));clear HBD HPF HNX;go_wp2_with fail;go_roundw
     case rel=>exact⟨i+1,by omega,by go_num,HN.out,HB.out⟩
     simp[intOf];omega
  have hge:n≤i:=by omega
  have HV:=hid (HE.out fun j q hq=>HOK.out j q (by have:=(List.getElem?_eq_some_iff.1 hq).1;have:=HR.out.len;omega) hq);clear HOK HE HBAD HWI;go_wp2_with fail;go_ret;exact Ans.mk (by rw[HV.out];rfl) hb
theorem chanF_wi(f t c m l n:Int)(q:Bool):chanF ⟨f,t,q,c,m,l⟩ n=(wiF f 0 (n - 1) && (wiF t 0 (n - 1) && (!decide (f=t) && (wiF l 0 4096 && if q=true then wiF c 1 8 else decide (c=0))))):=by
 unfold chanF wiF;dsimp only;rw[show decide (f < n)=decide (f≤n - 1) from decide_eq_decide.2 (by omega),show decide (t < n)=decide (t≤n - 1) from decide_eq_decide.2 (by omega)];generalize decide (0≤f)=b1;generalize decide (f≤n - 1)=b2;generalize decide (0≤t)=b3;generalize decide (t≤n - 1)=b4;rw[show decide (f≠t)=!decide (f=t) from by simp];generalize decide (f=t)=b5;generalize decide (0≤l)=b6;generalize decide (l≤4096)=b7;generalize decide (1≤c)=b8;generalize decide (c≤8)=b9;generalize decide (c=0)=b10;cases q <;> cases b1 <;> cases b2 <;> cases b3 <;> cases b4 <;> cases b5 <;> cases b6 <;> cases b7 <;> simp
theorem chn_any(x:ChV)(n:Nat)(hn:n≤1048576)(w:World):Calls Tryz.prog 78 #[cv x,.int .i64 (n:Int)] w (Ans (.bool (chanF x n)) w):=by
 obtain⟨f,t,q,c,m,l⟩:=x;have HV:=hid (chanF_wi f t c m l n q);generalize chanF ⟨f,t,q,c,m,l⟩ (n:Int)=v at HV ⊢;have H1:=hid (wi_any f 0 ((n:Int) - 1));have H2:=hid (wi_any t 0 ((n:Int) - 1));have H3:=hid (wi64_any l 0 4096);have H4:=hid (wi_any c 1 8);generalize wiF f 0 ((n:Int) - 1)=q1 at H1 HV;generalize wiF t 0 ((n:Int) - 1)=q2 at H2 HV;generalize wiF l 0 4096=q3 at H3 HV;generalize wiF c 1 8=q4 at H4 HV;have hw:IntKind.i64.wrap ((n:Int) - 1)=(n:Int) - 1:=by
  exact IntWalk.i64_in _ (by omega)
 have HB:=hid (bl1 w (.cells #[.int .i64 f,.int .i64 t,.bool q,.int .i64 c,.int .u32 m,.int .i64 l] 63));have hcell:∀ o v,(#[Value.int .i64 f,.int .i64 t,.bool q,.int .i64 c,.int .u32 m,.int .i64 l]:Array Value)[o]? = some v→(w.alloc (.cells #[.int .i64 f,.int .i64 t,.bool q,.int .i64 c,.int .u32 m,.int .i64 l] 63)).cell? ⟨w.heap.size,o,none⟩=some v:=fun o v hv=>(World.cell?_alloc_mark _ _ _ _ _).trans hv;have m0:=hcell 0 _ rfl;have m1:=hcell 1 _ rfl;have m2:=hcell 2 _ rfl;have m3:=hcell 3 _ rfl;have m5:=hcell 5 _ rfl;clear hcell;go_enter Tryz.func78,Tryz.ntmps78;go_upto_region 1 with fail;generalize w.alloc (.cells #[.int .i64 f,.int .i64 t,.bool q,.int .i64 c,.int .u32 m,.int .i64 l] 63)=W at HB m0 m1 m2 m3 m5 ⊢;generalize w.heap.size=g at m0 m1 m2 m3 m5 ⊢;cases q1 with
 | false =>
  have E:Hid (v=false):=hid (by rw[HV.out];rfl);clear HV;go_wp2_with fail;refine(H1.out _).mono ?_;rintro e w5⟨rfl,rfl⟩;go_wp2_with fail;go_ret;exact Ans.mk (by rw[E.out];rfl) HB.out
 | true =>
 go_wp2_with fail;refine(H1.out _).mono ?_;rintro e w5⟨rfl,rfl⟩;go_wp2_with fail;refine(H2.out _).mono ?_;rintro e w5⟨rfl,rfl⟩;cases q2 with
 | false =>
  have E:Hid (v=false):=hid (by rw[HV.out];rfl);clear HV;go_wp2_with fail;go_ret;exact Ans.mk (by rw[E.out];rfl) HB.out
 | true =>
 by_cases hft:f=t
 ·have E:Hid (v=false):=hid (by rw[HV.out,decide_eq_true hft];rfl);have i1:(f == t)=true:=beq_iff_eq.2 hft;clear HV hft;go_wp2_with fail;go_ret;exact Ans.mk (by rw[E.out];rfl) HB.out
 have i1:(f == t)=false:=beq_eq_false_iff_ne.2 hft;have HV2:Hid (v=(q3 && if q=true then q4 else decide (c=0))):=hid (by rw[HV.out,decide_eq_false hft];rfl);clear HV hft;go_wp2_with fail;refine(H3.out _).mono ?_;rintro e w5⟨rfl,rfl⟩;cases q3 with
 | false =>
  have E:Hid (v=false):=hid (by rw[HV2.out];rfl);clear HV2;go_wp2_with fail;go_ret;exact Ans.mk (by rw[E.out];rfl) HB.out
 | true =>
 cases q with
 | true =>
  have E:Hid (v=q4):=hid (by rw[HV2.out];rfl);clear HV2;go_wp2_with fail;refine(H4.out _).mono ?_;rintro e w5⟨rfl,rfl⟩;go_wp2_with fail;go_ret;exact Ans.mk (by rw[E.out];rfl) HB.out
 | false =>
  by_cases hc:c=0
  ·have E:Hid (v=true):=hid (by rw[HV2.out,decide_eq_true hc];rfl);have i2:(c == 0)=true:=beq_iff_eq.2 hc;clear HV2 hc;go_wp2_with fail;go_ret;exact Ans.mk (by rw[E.out];rfl) HB.out
  have E:Hid (v=false):=hid (by rw[HV2.out,decide_eq_false hc];rfl);have i2:(c == 0)=false:=beq_eq_false_iff_ne.2 hc;clear HV2 hc;go_wp2_with fail;go_ret;exact Ans.mk (by rw[E.out];rfl) HB.out
theorem RdB.tak{α:Type}{f:α→List Value}{w:World}{B n:Nat}{A:Option Addr}{l:List α}(h:RdB f w B A n l){i:Nat}(hi:i≤n):RdB f w B A i (l.take i):=by
 refine⟨by rw[List.length_take,h.len];omega,fun h0=>?_⟩;have e:l.flatMap f=(l.take i).flatMap f++(l.drop i).flatMap f:=by rw[← List.flatMap_append,List.take_append_drop]
 obtain⟨ad,h1,h2,h3⟩:=h.rd (by rw[e,List.length_append];omega);refine⟨ad,h1,h2,fun j v hj=>h3 j v ?_⟩;rw[e,List.getElem?_append_left (List.getElem?_eq_some_iff.1 hj).1];exact hj
theorem named_any(A:Option Addr)(n c:Nat)(P:List Pq)(nm:ByteArray)(w:World)(h:RdB pcq w w.heap.size A n P)(hn:n≤1048576):
  Calls Tryz.prog 95 #[.slice A n c,.string nm] w (Ans (.bool (P.any fun y=>decide (y.1.name=nm))) w):=by
 have HYES:Hid (∀(i:Nat) y,P[i]? = some y→decide (y.1.name=nm)=true→(P.any fun y=>decide (y.1.name=nm))=true):=hid fun i y hy h=>List.any_eq_true.2 ⟨y,List.mem_of_getElem? hy,h⟩;have HNO:Hid ((∀(i:Nat) y,P[i]? = some y→decide (y.1.name=nm)=false)→(P.any fun y=>decide (y.1.name=nm))=false):=hid fun h=>by
  rw[List.any_eq_false];intro y hy;obtain⟨k,hk⟩:=List.getElem?_of_mem hy;rw[h k y hk];decide
 generalize (P.any fun y=>decide (y.1.name=nm))=v at HYES HNO ⊢;have HR:=hid h;clear h;go_enter Tryz.func95,Tryz.ntmps95;go_wp2_with fail;go_loopw [6,9] (fun _ s wr=>∃ i:Nat,i≤n∧s=.int .i64 i∧(∀(j:Nat) (y:Pq),j < i→P[j]? = some y→decide (y.1.name=nm)=false)∧Below w.heap.size w wr) (fun _ s _=>n - (intOf s).toNat)
 case atStart=>exact⟨0,by omega,rfl,fun j q hj=>by omega,Below.refl _ _⟩
 obtain⟨i,hi,rfl,hok,hb⟩:=hrel;have HOK:=hid hok;clear hok;by_cases hlt:i < n
 ·obtain⟨ad,y,rfl,had,hx,c0,ck⟩:=(HR.out.on hb).at_ pcq_len (by omega) hlt;have d0:=c0 _ rfl;have d1:=ck 1 _ (by omega) rfl;have d2:=ck 2 _ (by omega) rfl;have d3:=ck 3 _ (by omega) rfl;have d4:=ck 4 _ (by omega) rfl;have d5:=ck 5 _ (by omega) rfl;have d6:=ck 6 _ (by omega) rfl;have d7:=ck 7 _ (by omega) rfl;have d8:=ck 8 _ (by omega) rfl;have d9:=ck 9 _ (by omega) rfl;have d10:=ck 10 _ (by omega) rfl;have HNX:Hid (decide (y.1.name=nm)=false→∀(j:Nat) (y:Pq),j < i+1→P[j]? = some y→decide (y.1.name=nm)=false):=hid fun h j q hj hq=>by
   rcases Nat.lt_or_ge j i with h5 | h5
   ·exact HOK.out j q h5 hq
   obtain rfl:j=i:=by omega
   rw[hx] at hq;injection hq with hq;rw[← hq];exact h
  have HBD:=hid (HYES.out i y hx);obtain⟨⟨nm2,bu,pe,sc,st,pa,pn,pc,h0,h1,h2,h3,h4⟩,L⟩:=y;dsimp only at d0 d1 d2 d3 d4 d5 d6 d7 d8 d9 d10 HNX HBD;have HB:=hid (hb.trans ((bl1 wr (.cells #[.string nm2,.int .i64 bu,.int .i64 pe,.bool sc,.bool st,.slice pa pn pc,.int .i64 h0,.int .i64 h1,.int .i64 h2,.int .i64 h3,.int .i64 h4] 57)).mono hb.size));clear c0 ck hx HOK HYES HNO hb;cases hq:decide (nm2=nm) with
  | true =>
   have hqd:(nm2.toList == nm.toList)=true:=bs_eq_of hq;have HV:=hid (HBD.out hq);clear HNX HBD hq;go_wp2_with fail;go_ret;exact Ans.mk (by rw[HV.out];rfl) HB.out
  | false =>
   have hqd:(nm2.toList == nm.toList)=false:=bs_eq_of hq;have HN:=hid (HNX.out hq);clear HNX HBD hq;go_wp2_with fail;go_roundw
   case rel=>exact⟨i+1,by omega,by go_num,HN.out,HB.out⟩
   simp[intOf];omega
 have hge:n≤i:=by omega
 have HV:=hid (HNO.out fun j q hq=>HOK.out j q (by have:=(List.getElem?_eq_some_iff.1 hq).1;have:=HR.out.len;omega) hq);clear HOK HYES HNO;go_wp2_with fail;go_ret;exact Ans.mk (by rw[HV.out];rfl) hb
theorem fw_any(A1 A2 A3:Option Addr)(n1 n2 n3 c1 c2 c3:Nat)(w:World):
  Calls Tryz.prog 76 #[.agg #[.slice A1 n1 c1,.slice A2 n2 c2,.slice A3 n3 c3]] w (Ans (.bool (wiF (n1:Int) 1 6 && (decide (n2≤8) && wiF (n3:Int) 1 3))) w):=by
 have HB:=hid (bl1 w (.cells #[.slice A1 n1 c1,.slice A2 n2 c2,.slice A3 n3 c3] 26));have m0:(w.alloc (.cells #[.slice A1 n1 c1,.slice A2 n2 c2,.slice A3 n3 c3] 26)).cell? ⟨w.heap.size,0,none⟩=some (.slice A1 n1 c1):=World.cell?_alloc_mark _ _ _ _ _;have m1:(w.alloc (.cells #[.slice A1 n1 c1,.slice A2 n2 c2,.slice A3 n3 c3] 26)).cell? ⟨w.heap.size,1,none⟩=some (.slice A2 n2 c2):=World.cell?_alloc_mark _ _ _ _ _;have m2:(w.alloc (.cells #[.slice A1 n1 c1,.slice A2 n2 c2,.slice A3 n3 c3] 26)).cell? ⟨w.heap.size,2,none⟩=some (.slice A3 n3 c3):=World.cell?_alloc_mark _ _ _ _ _;have H1:=hid (wi_any (n1:Int) 1 6);have H2:=hid (wi_any (n3:Int) 1 3);generalize wiF (n1:Int) 1 6=q1 at H1 ⊢;generalize wiF (n3:Int) 1 3=q2 at H2 ⊢;have HDT:=hid (fun h=>decide_eq_true h:n2≤8→decide (n2≤8)=true);have HDF:=hid (fun h=>decide_eq_false h:¬ n2≤8→decide (n2≤8)=false);generalize decide (n2≤8)=d at HDT HDF ⊢;go_enter Tryz.func76,Tryz.ntmps76;go_upto_region 1 with fail;generalize w.alloc (.cells #[.slice A1 n1 c1,.slice A2 n2 c2,.slice A3 n3 c3] 26)=W at HB m0 m1 m2 ⊢;generalize w.heap.size=g at m0 m1 m2 ⊢;cases q1 with
 | false =>
  go_wp2_with fail;refine(H1.out _).mono ?_;rintro e w5⟨rfl,rfl⟩;go_wp2_with fail;go_ret;exact Ans.mk rfl HB.out
 | true =>
 by_cases h2:n2≤8
 ·have h2':(n2:Int)≤8:=by omega
  obtain rfl:=HDT.out h2;clear h2 HDT HDF;go_wp2_with fail;refine(H1.out _).mono ?_;rintro e w5⟨rfl,rfl⟩;go_wp2_with fail;refine(H2.out _).mono ?_;rintro e w5⟨rfl,rfl⟩;go_wp2_with fail;go_ret;exact Ans.mk rfl HB.out
 have h2':¬ (n2:Int)≤8:=by omega
 obtain rfl:=HDF.out h2;clear h2 HDT HDF;go_wp2_with fail;refine(H1.out _).mono ?_;rintro e w5⟨rfl,rfl⟩;go_wp2_with fail;go_ret;exact Ans.mk rfl HB.out
end Go.Proofs.YtdkngfdnfekgfaaGreat
