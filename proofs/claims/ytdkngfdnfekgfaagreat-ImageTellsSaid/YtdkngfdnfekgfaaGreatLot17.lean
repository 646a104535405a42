import Derived.Test.YtdkngfdnfekgfaaGreatLot16
set_option maxHeartbeats 4000000
set_option maxRecDepth 100000
set_option linter.unusedSimpArgs false
set_option linter.unusedVariables false
namespace Go.Proofs.YtdkngfdnfekgfaaGreat
open Go.RowKit Tab
def distF(W:List Int)(q:Int)(t:Nat):Nat→Nat→Nat
 | 0,d=>d
 | f+1,d=>if W[(t+d) % W.length]? = some q then d else distF W q t f (d+1)
def dist(W:List Int)(q:Int)(t:Nat):Nat:=distF W q t W.length 1
def lateW(W:List Int)(p q:Int):Nat→Nat
 | 0=>0
 | k+1=>if W[k]? = some p then max (lateW W p q k) (dist W q k) else lateW W p q k
def hasL(q:Int):List Int→Bool
 | []=>false
 | x::l=>decide (x=q) || hasL q l
def lateL(W:List Int)(p q:Int):Int:=if hasL p W=false then 0 else if hasL q W=false then -1 else (lateW W p q W.length:Int)
theorem hasL_append(q:Int)(a b:List Int):hasL q (a++b)=(hasL q a || hasL q b):=by
 induction a with
 | nil=>rfl
 | cons x a ih=>simp only[List.cons_append,hasL,ih,Bool.or_assoc]
theorem hasL_more{W:List Int}{i:Nat}{x:Int}(q:Int)(h:W[i]? = some x):hasL q (W.take (i+1))=(hasL q (W.take i) || decide (x=q)):=by
 obtain⟨hi,e⟩:=List.getElem?_eq_some_iff.1 h;rw[List.take_succ_eq_append_getElem hi,hasL_append,e];simp[hasL]
theorem hasL_get{W:List Int}{q:Int}(h:hasL q W=true):∃ i,i < W.length∧W[i]? = some q:=by
 induction W with
 | nil=>cases h
 | cons x W ih =>
  simp only[hasL,Bool.or_eq_true,decide_eq_true_eq] at h;rcases h with rfl | h
  ·exact⟨0,by simp,rfl⟩
  obtain⟨i,hi,e⟩:=ih h;exact⟨i+1,by simp only[List.length_cons];omega,by simpa using e⟩
theorem dist_ex{W:List Int}{q:Int}(h:hasL q W=true)(t:Nat):∃ e,1≤e∧e≤W.length∧W[(t+e) % W.length]? = some q:=by
 obtain⟨i,hi,e⟩:=hasL_get h;have hn:0 < W.length:=by omega
 have h1:=Nat.mod_lt t hn;have h2:=Nat.div_add_mod t W.length;by_cases hlt:t % W.length < i
 ·refine⟨i - t % W.length,by omega,by omega,?_⟩;have h3:(t+(i - t % W.length)) % W.length=i:=by
   have h4:t+(i - t % W.length)=i+W.length*(t / W.length):=by omega
   rw[h4,Nat.add_mul_mod_self_left,Nat.mod_eq_of_lt hi]
  rw[h3];exact e
 refine⟨W.length+i - t % W.length,by omega,by omega,?_⟩;have h3:(t+(W.length+i - t % W.length)) % W.length=i:=by
  have h4:t+(W.length+i - t % W.length)=i+W.length*(t / W.length+1):=by
   rw[Nat.mul_add,Nat.mul_one];omega
  rw[h4,Nat.add_mul_mod_self_left,Nat.mod_eq_of_lt hi]
 rw[h3];exact e
theorem distF_yes{W:List Int}{q:Int}{t f d:Nat}(h:W[(t+d) % W.length]? = some q):distF W q t f d=d:=by
 cases f with
 | zero=>rfl
 | succ f=>simp only[distF];rw[if_pos h]
theorem distF_no{W:List Int}{q:Int}{t f d:Nat}(h:¬ W[(t+d) % W.length]? = some q):distF W q t (f+1) d=distF W q t f (d+1):=by simp only[distF];rw[if_neg h]
theorem late_any(A : Option Addr)(n cap : Nat)(L : List Rn)(p q : Int)(w : World)(h : RdR w w.heap.size A n L)(hc : n ≤ cap)(hn : n ≤ 1048576)(ht : ticks L ≤ 8192):
    Calls Tryz.prog 42 #[.slice A n cap, .int .i64 p, .int .i64 q] w (Ans (.int .i64 (lateL (wordsL L) p q)) w) := by
  have hW := words_any A n cap L w h hc hn ht
  have hl := wordsL_len L
  unfold MadI at hW
  generalize wordsL L = W at hW hl ⊢
  have hm : W.length ≤ 8192 := by omega
  have hlate0 : hasL p W = false → lateL W p q = 0 := fun e => if_pos e
  have hlate1 : hasL p W = true → hasL q W = false → lateL W p q = -1 := fun e e2 => by unfold lateL; rw [if_neg (by rw [e]; simp), if_pos e2]
  have hlate2 : hasL p W = true → hasL q W = true → lateL W p q = (lateW W p q W.length : Int) := fun e e2 => by unfold lateL; rw [if_neg (by rw [e]; simp), if_neg (by rw [e2]; simp)]
  generalize lateL W p q = R at hlate0 hlate1 hlate2 ⊢
  generalize hM : W.length = m at hW hm hlate2
  have HM := hid hM
  have HW := hid hW
  have HL0 := hid hlate0
  have HL1 := hid hlate1
  have HL2 := hid hlate2
  clear hW hlate0 hlate1 hlate2 hM h hl
  go_enter Tryz.func42, Tryz.ntmps42
  go_wp2_with fail
  refine HW.out.mono ?_
  rintro e w1⟨A1, c1, rfl, hr1, hc1, hb1⟩
  go_wp2_with fail
  go_loopw [9, 10, 12, 20] (fun s9 s10 _ s wr => ∃ i : Nat, i ≤ m ∧ s = .int .i64 i ∧ s9 = .bool (hasL q (W.take i)) ∧ s10 = .bool (hasL p (W.take i)) ∧ wr = w1) (fun _ _ _ s _ => m - (intOf s).toNat)
  case atStart => exact ⟨0, by omega, rfl, rfl, rfl, rfl⟩
  case round =>
    obtain ⟨i, hi, rfl, rfl, rfl, hw⟩ := hrel
    have hw' := hw.symm
    clear hw
    subst hw'
    by_cases hlt : i < m
    · obtain ⟨ad, x, rfl, had, hx, c0⟩ := hr1.at_ hlt
      have e1 := hasL_more q hx
      have e2 := hasL_more p hx
      have E1 := hid e1
      have E2 := hid e2
      clear e1 e2 hx
      generalize hasL q (W.take i) = b1 at E1 ⊢
      generalize hasL p (W.take i) = b2 at E2 ⊢
      have f1 : (x == q) = decide (x = q) := rfl
      have f2 : (x == p) = decide (x = p) := rfl
      cases b1 <;> cases b2 <;>
        (go_wp2_with fail
         go_roundw
         case rel => exact ⟨i + 1, by omega, by go_num, by rw [E1.out]; simp, by rw [E2.out]; simp, trivial⟩
         case measure => simp [intOf]; omega)
    · have hge : m ≤ i := by omega
      have e : W.take i = W := List.take_of_length_le (by rw [HM.out]; exact hge)
      rw [e]
      clear e
      cases hp : hasL p W with
      | false =>
        have e := HL0.out hp
        subst e
        go_wp2_with fail
        go_ret
        exact ⟨rfl, hb1⟩
      | true =>
        cases hq : hasL q W with
        | false =>
          have e := HL1.out hp hq
          subst e
          go_wp2_with fail
          go_ret
          exact ⟨rfl, hb1⟩
        | true =>
          have e := HL2.out hp hq
          have HE := hid e
          have HEX := hid fun t => dist_ex hq t
          clear e hp hq HL0 HL1 HL2
          go_wp2_with fail
          go_loopw [8, 13, 14, 15, 43] (fun s8 _ _ _ s wr => ∃ t k : Nat, t ≤ m ∧ s = .int .i64 t ∧ s8 = .int .i64 k ∧ k = lateW W p q t ∧ k ≤ m ∧ wr = w1) (fun _ _ _ _ s _ => m - (intOf s).toNat)
          case atStart => exact ⟨0, 0, by omega, rfl, rfl, rfl, by omega, rfl⟩
          case round =>
            obtain ⟨t, k, ht, rfl, rfl, hk, hkm, hw⟩ := hrel
            have hw' := hw.symm
            clear hw
            subst hw'
            have HK := hid hk
            clear hk
            by_cases hlt : t < m
            · obtain ⟨ad, x, rfl, had, hx, c0⟩ := hr1.at_ hlt
              have HX := hid hx
              clear hx
              by_cases hxp : x = p
              · subst hxp
                have hne : (x != x) = false := by simp
                go_wp2_with fail
                go_loopw [15] (fun s wr => ∃ d f : Nat, 1 ≤ d ∧ d + f = m + 1 ∧ s = .int .i64 d ∧ distF W q t f d = dist W q t ∧ (∃ e, d ≤ e ∧ e ≤ m ∧ W[(t + e) % m]? = some q) ∧ wr = w1) (fun s _ => m + 1 - (intOf s).toNat)
                case atStart =>
                  obtain ⟨e, h1, h2, h3⟩ := HEX.out t
                  rw [HM.out] at h2 h3
                  exact ⟨1, m, by omega, by omega, rfl, by unfold dist; rw [HM.out], ⟨e, h1, h2, h3⟩, rfl⟩
                case round =>
                  obtain ⟨d, f, hd1, hdf, rfl, hdist, hex, hw⟩ := hrel
                  have hw' := hw.symm
                  clear hw
                  subst hw'
                  have hdm : d ≤ m := by obtain ⟨e, h1, h2, _⟩ := hex; omega
                  obtain ⟨r, hr⟩ : ∃ r, r = (t + d) % m := ⟨_, rfl⟩
                  have hrm : r < m := by rw [hr]; exact Nat.mod_lt _ (by omega)
                  obtain ⟨ad2, y, e2, _, hy, d0⟩ := hr1.at_ hrm
                  injection e2 with e2
                  subst e2
                  have hr2 : ((t : Int) + (d : Int)) % (m : Int) = (r : Int) := by rw [hr, Int.natCast_emod]; rfl
                  have hr3 : ((t : Int) + (d : Int)).tmod (m : Int) = (r : Int) := by rw [Int.tmod_eq_emod_of_nonneg (by omega)]; exact hr2
                  have HD := hid hdist
                  have HX2 := hid hex
                  have HY := hid hy
                  have HRR := hid hr
                  have hm0 : ¬ m = 0 := by omega
                  clear hdist hex hy hr
                  by_cases hyq : y = q
                  · subst hyq
                    have hne2 : (y != y) = false := by simp
                    have hdd : distF W y t f d = d := distF_yes (by rw [HM.out, ← HRR.out]; exact HY.out)
                    have hD := HD.out
                    rw [hdd] at hD
                    have HD2 := hid hD
                    have hx1 : max (k : Int) (d : Int) = ((max k d : Nat) : Int) := by omega
                    have HLW : Hid (max k d = lateW W x y (t + 1)) := hid (by simp only [lateW]; rw [if_pos HX.out, HK.out, hD])
                    have hmx : max k d ≤ m := by omega
                    clear hD hdd HD
                    go_wp2_with fail
                    go_roundw
                    case rel => exact ⟨t + 1, max k d, by omega, by go_num, by first | (congr 1; done) | (congr 1; first | omega | (split <;> omega)), HLW.out, hmx, trivial⟩
                    case measure => simp [intOf]; omega
                  · have hne2 : (y != q) = true := bne_iff_ne.2 hyq
                    have hno : ¬ W[(t + d) % W.length]? = some q := by
                      rw [HM.out, ← HRR.out, HY.out]
                      intro e
                      injection e with e
                      exact hyq e
                    have hx2 : ∃ e, d + 1 ≤ e ∧ e ≤ m ∧ W[(t + e) % m]? = some q := by
                      obtain ⟨e, h1, h2, h3⟩ := HX2.out
                      refine ⟨e, ?_, h2, h3⟩
                      rcases Nat.lt_or_ge d e with h4 | h4
                      · exact h4
                      · have : e = d := by omega
                        subst this
                        rw [HM.out] at hno
                        exact absurd h3 hno
                    obtain ⟨f', rfl⟩ : ∃ f', f = f' + 1 := ⟨f - 1, by obtain ⟨e, h1, h2, _⟩ := hx2; omega⟩
                    have hD := HD.out
                    rw [distF_no hno] at hD
                    have HD2 := hid hD
                    have HX3 := hid hx2
                    clear hD HD hno hx2 HX2
                    go_wp2_with fail
                    go_roundw
                    case rel => exact ⟨d + 1, f', by omega, by omega, by go_num, HD2.out, HX3.out, trivial⟩
                    case measure => simp [intOf]; omega
              · have hne : (x != p) = true := bne_iff_ne.2 hxp
                have HLW : Hid (k = lateW W p q (t + 1)) := hid (by
                  simp only [lateW]
                  rw [if_neg (by rw [HX.out]; intro e; injection e with e; exact hxp e)]
                  exact HK.out)
                go_wp2_with fail
                go_roundw
                case rel => exact ⟨t + 1, k, by omega, by go_num, rfl, HLW.out, hkm, trivial⟩
                case measure => simp [intOf]; omega
            · obtain rfl : t = m := by omega
              have hR : R = (k : Int) := by rw [HE.out, HK.out]
              have HR := hid hR
              clear hR
              go_wp2_with fail
              go_ret
              exact ⟨by rw [HR.out]; rfl, hb1⟩
theorem total_any(A:Option Addr)(n cap:Nat)(L:List Rn)(w:World)(h:RdR w w.heap.size A n L)(hc:n≤cap)(hn:n≤1048576)(ht:ticks L≤1099511627776):
  Calls Tryz.prog 41 #[.slice A n cap] w (Ans (.int .i64 (ticks L:Nat)) w):=by
 generalize hT:ticks L=T at ht;have HT:=hid hT;clear hT;go_enter Tryz.func41,Tryz.ntmps41;go_wp2_with fail;go_loopw [3,5,8] (fun q _ s wr=>∃ i k:Nat,i≤n∧s=.int .i64 i∧q=.int .i64 k∧k=ticks (L.take i)∧Below w.heap.size w wr) (fun _ _ s _=>n - (intOf s).toNat)
 case atStart=>exact⟨0,0,by omega,rfl,rfl,by simp[ticks],Below.refl _ _⟩
 obtain⟨i,k,hi,rfl,rfl,hk,hb⟩:=hrel;have HK:=hid hk;clear hk;by_cases hlt:i < n
 ·obtain⟨ad,r,rfl,had,hr,c0,c1⟩:=(h.on hb).at_ hlt;have htk:=take_more hr;have hle:=take_ticks L (i+1);rw[HT.out] at hle;have hk2:k+r.n=ticks (L.take (i+1)):=by rw[htk,HK.out]
  have hkb:k+r.n≤1099511627776:=by omega
  have HK2:=hid hk2;have hbl:=bl1 wr (.cells #[.int .i64 r.p,.int .i64 (r.n:Int)] 114);have HB:=hid (hb.trans (hbl.mono hb.size));obtain⟨rp,rn⟩:=r;dsimp only at c0 c1 hkb HK2 HB;have HS:=hid fun W=>sum_any (k:Int) (rn:Int) (k:Int) (rn:Int) W (by omega) (by omega) (by omega) rfl rfl;clear hr htk hle hk2 hbl;go_wp2_with fail;refine(HS.out _).mono ?_;rintro e w5⟨rfl,rfl⟩;go_wp2_with fail;go_roundw
  case rel=>exact⟨i+1,k+rn,by omega,by go_num,by go_num,HK2.out,HB.out⟩
  simp[intOf];omega
 have hge:n≤i:=by omega
 have e:L.take i=L:=List.take_of_length_le (by rw[h.len];exact hge);have hk:=HK.out;rw[e,HT.out] at hk;subst hk;clear e HK;go_wp2_with fail;go_ret;exact Ans.mk rfl hb
def cntF(p:Int):List Int→Nat
 | []=>0
 | x::l=>(if x=p then 1 else 0)+cntF p l
theorem cntF_append(p:Int)(a b:List Int):cntF p (a++b)=cntF p a+cntF p b:=by
 induction a with
 | nil=>simp[cntF]
 | cons x a ih=>simp only[List.cons_append,cntF,ih];omega
theorem cntF_le(p:Int)(a:List Int):cntF p a≤a.length:=by
 induction a with
 | nil=>simp[cntF]
 | cons x a ih=>simp only[cntF,List.length_cons];split <;> omega
theorem cntF_more{W:List Int}{i:Nat}{x:Int}(p:Int)(h:W[i]? = some x):cntF p (W.take (i+1))=cntF p (W.take i)+if x=p then 1 else 0:=by
 obtain⟨hi,e⟩:=List.getElem?_eq_some_iff.1 h;rw[List.take_succ_eq_append_getElem hi,cntF_append,e];simp[cntF]
def budW(W:List Int)(p:Int)(P:Nat):Nat→Nat
 | 0=>P+1
 | k+1=>min (budW W p P k) (cntF p ((W.drop (k*P)).take P))
def budL(W:List Int)(p z:Int):Int:=if z < 1 then -1 else if W.length=0 then -1 else if W.length % z.toNat≠0 then -1 else (budW W p z.toNat (W.length / z.toNat):Int)
theorem budget_any(A:Option Addr)(n cap:Nat)(L:List Rn)(p z:Int)(w:World)(h:RdR w w.heap.size A n L)(hc:n≤cap)(hn:n≤1048576)(ht:ticks L≤8192)(hz:In64 z):
  Calls Tryz.prog 43 #[.slice A n cap,.int .i64 p,.int .i64 z] w (Ans (.int .i64 (budL (wordsL L) p z)) w):=by
 have hW:=words_any A n cap L w h hc hn ht;have hl:=wordsL_len L;unfold MadI at hW;generalize wordsL L=W at hW hl ⊢;have hm:W.length≤8192:=by omega
 have hb0:z < 1→budL W p z=-1:=fun e=>if_pos e;have hb1':¬ z < 1→W.length=0→budL W p z=-1:=fun e e2=>by unfold budL;rw[if_neg e,if_pos e2]
 have hb2':¬ z < 1→¬ W.length=0→W.length % z.toNat≠0→budL W p z=-1:=fun e e2 e3=>by unfold budL;rw[if_neg e,if_neg e2,if_pos e3]
 have hb3':¬ z < 1→¬ W.length=0→W.length % z.toNat=0→budL W p z=(budW W p z.toNat (W.length / z.toNat):Int):=fun e e2 e3=>by unfold budL;rw[if_neg e,if_neg e2,if_neg (by simpa using e3)]
 generalize budL W p z=R at hb0 hb1' hb2' hb3' ⊢;generalize hM:W.length=m at hW hm hb1' hb2' hb3';have HM:=hid hM;have HW:=hid hW;have H0:=hid hb0;have H1:=hid hb1';have H2:=hid hb2';have H3:=hid hb3';unfold In64 at hz;clear hW hb0 hb1' hb2' hb3' hM h hl;go_enter Tryz.func43,Tryz.ntmps43;go_wp2_with fail;refine HW.out.mono ?_;rintro e w1⟨A1,c1,rfl,hr1,hc1,hb1⟩;by_cases hz1:z < 1
 ·have e:=H0.out hz1;subst e;go_wp2_with fail;go_ret;exact⟨rfl,hb1⟩
 obtain⟨P,rfl⟩:=Int.eq_ofNat_of_zero_le (show 0≤z by omega);have hP1:1≤P:=by omega
 by_cases hm0:m=0
 ·have e:=H1.out (by omega) hm0;have hmb:((m:Int) == 0)=true:=beq_iff_eq.2 (by omega);subst e;subst hm0;go_wp2_with fail;go_ret;exact⟨rfl,hb1⟩
 have hmb:((m:Int) == 0)=false:=beq_eq_false_iff_ne.2 (by omega);have hP0:¬ P=0:=by omega
 by_cases hmp:m % P=0
 ·have e:=H3.out (by omega) hm0 hmp;rw[Int.toNat_natCast] at e;have h1:(m:Int) % (P:Int)=0:=by rw[← Int.natCast_emod,hmp];rfl
  have h2:(m:Int).tmod (P:Int)=0:=by rw[Int.tmod_eq_emod_of_nonneg (Int.natCast_nonneg _)];exact h1
  have h3:((m:Int).tmod (P:Int) != 0)=false:=by rw[h2];rfl
  have h4:((m:Int) % (P:Int) != 0)=false:=by rw[h1];rfl
  obtain⟨K,hK⟩:∃ K,K=m / P:=⟨_,rfl⟩;have hKP:K*P=m:=by rw[hK];exact Nat.div_mul_cancel (Nat.dvd_of_mod_eq_zero hmp)
  rw[← hK] at e;have HE:=hid e;have HKP:=hid hKP;have hPm:P≤m:=by
   rcases Nat.eq_zero_or_pos K with h0 | h0
   ·rw[h0] at hKP;omega
   have:=Nat.le_mul_of_pos_left P h0;omega
  clear e hKP hK hmp H0 H1 H2 H3;go_wp2_with fail;go_loopw [8,9,10,12] (fun s8 s9 _ _ wr=>∃ k t l:Nat,k≤K∧t=k*P∧l=budW W p P k∧s9=.int .i64 t∧s8=.int .i64 l∧t≤m∧l≤8193∧wr=w1) (fun _ s9 _ _ _=>m - (intOf s9).toNat)
  case atStart=>exact⟨0,0,P+1,by omega,by omega,rfl,rfl,by go_num,by omega,by omega,rfl⟩
  obtain⟨k,t,l,hk,ht',hl',rfl,rfl,htm,hl8,hw⟩:=hrel;have hw':=hw.symm;clear hw;subst hw';have HTK:=hid ht';have HLK:=hid hl';clear ht' hl';by_cases hlt:t < m
  ·have hkK:k < K:=by
    rcases Nat.lt_or_ge k K with h5 | h5
    ·exact h5
    have:=Nat.mul_le_mul_right P h5;rw[HKP.out,← HTK.out] at this;omega
   have htP:t+P≤m:=by
    have:=Nat.mul_le_mul_right P (show k+1≤K from hkK);rw[HKP.out,Nat.succ_mul,← HTK.out] at this;exact this
   obtain⟨ad,x0,rfl,_⟩:=hr1.at_ hlt;have hct:¬ c1=t:=by omega
   go_wp2_with fail;go_loopw [10,12,45] (fun s10 _ s wr=>∃ j q:Nat,j≤P∧s=.int .i64 j∧s10=.int .i64 q∧q=cntF p (((W.drop t).take P).take j)∧q≤j∧wr=w1) (fun _ _ s _=>P - (intOf s).toNat)
   case atStart=>exact⟨0,0,by omega,rfl,rfl,by simp[cntF],by omega,rfl⟩
   obtain⟨j,q,hj,rfl,rfl,hq,hqj,hw⟩:=hrel;have hw':=hw.symm;clear hw;subst hw';have HQ:=hid hq;clear hq;by_cases hjP:j < P
   ·obtain⟨ad2,x,e2,_,hx,d0⟩:=hr1.at_ (i:=t+j) (by omega);injection e2 with e2;subst e2;rw[← add_add] at d0;have hvx:((W.drop t).take P)[j]? = some x:=by rw[List.getElem?_take,if_pos hjP,List.getElem?_drop];exact hx
    have hcm:=cntF_more p hvx;rw[← HQ.out] at hcm;have HCM:=hid hcm;clear hcm hvx hx;by_cases hxp:x=p
    ·subst hxp;have hne:(x == x)=true:=by simp
     have hc2:=HCM.out;rw[if_pos rfl] at hc2;have HC2:=hid hc2;clear hc2 HCM;go_wp2_with fail;go_roundw
     case rel=>exact⟨j+1,q+1,by omega,by go_num,by go_num,HC2.out.symm,by omega,trivial⟩
     simp[intOf];omega
    have hne:(x == p)=false:=beq_eq_false_iff_ne.2 hxp;have hc2:=HCM.out;rw[if_neg hxp] at hc2;have HC2:=hid hc2;clear hc2 HCM;go_wp2_with fail;go_roundw
    case rel=>exact⟨j+1,q,by omega,by go_num,by go_num,HC2.out.symm,by omega,trivial⟩
    simp[intOf];omega
   have e:((W.drop t).take P).take j=(W.drop t).take P:=List.take_of_length_le (by rw[List.length_take];omega);have hq:=HQ.out;rw[e] at hq;have HLN:Hid (min l q=budW W p P (k+1)):=hid (by simp only[budW];rw[← HLK.out,← HTK.out,← hq]);have HTN:Hid (t+P=(k+1)*P):=hid (by rw[Nat.succ_mul,← HTK.out]);have hml:min l q≤8193:=by omega
   clear hq e HQ;go_wp2_with fail;go_roundw
   case rel=>exact⟨k+1,t+P,min l q,by omega,HTN.out,HLN.out,by go_num,by first | (congr 1;done) | (congr 1;first | omega | (split <;> omega)),htP,hml,trivial⟩
   simp[intOf];omega
  have hkK:k=K:=by
   rcases Nat.lt_or_ge k K with h5 | h5
   ·have:=Nat.mul_le_mul_right P (show k+1≤K from h5);rw[HKP.out,Nat.succ_mul,← HTK.out] at this;omega
   omega
  have hR:R=(l:Int):=by rw[HE.out,HLK.out,hkK]
  have HR:=hid hR;have htm':¬ (t:Int) < (m:Int):=by omega
  clear hR hkK;go_wp2_with fail;go_ret;exact⟨by rw[HR.out];rfl,hb1⟩
 have e:=H2.out (by omega) hm0 (by rw[Int.toNat_natCast];exact hmp);have h1:¬ (m:Int) % (P:Int)=0:=by rw[← Int.natCast_emod];omega
 have h2:¬ (m:Int).tmod (P:Int)=0:=by rw[Int.tmod_eq_emod_of_nonneg (Int.natCast_nonneg _)];exact h1
 have h3:((m:Int).tmod (P:Int) != 0)=true:=bne_iff_ne.2 h2;have h4:((m:Int) % (P:Int) != 0)=true:=bne_iff_ne.2 h1;subst e;go_wp2_with fail;go_ret;exact⟨rfl,hb1⟩
section
variable {α:Type} {f:α→List Value} {s:Nat}
theorem flat_get(hf:∀ x,(f x).length=s)(l:List α)(i k:Nat)(x:α)(hx:l[i]? = some x)(hk:k < s):(l.flatMap f)[i*s+k]? = (f x)[k]?:=by
 induction l generalizing i with
 | nil=>simp at hx
 | cons y l ih =>
  rw[List.flatMap_cons];cases i with
  | zero =>
   simp at hx;subst hx;rw[Nat.zero_mul,Nat.zero_add,List.getElem?_append_left (by rw[hf];exact hk)]
  | succ i =>
   rw[List.getElem?_append_right (by rw[hf,Nat.succ_mul];omega),hf];have:=ih i (by simpa using hx);rw[← this];congr 1;rw[Nat.succ_mul];omega
end
structure RdB{α:Type}(f:α→List Value)(w:World)(B:Nat)(A:Option Addr)(n:Nat)(l:List α):Prop where
 len:l.length=n
 rd:RdV w B A (l.flatMap f)
section
variable {α:Type} {f:α→List Value} {s:Nat} {w w':World} {B n:Nat} {A:Option Addr} {l:List α}
theorem RdB.on(h:RdB f w w.heap.size A n l)(hb:Below w.heap.size w w'):RdB f w' w'.heap.size A n l:=⟨h.len,(h.rd.below hb).more hb.size⟩
theorem RdB.at_(h:RdB f w B A n l)(hf:∀ x,(f x).length=s)(hs:0 < s){i:Nat}(hi:i < n):∃(ad:Addr) (x:α),A=some ad∧ad.block < B∧l[i]? = some x∧(∀ v,(f x)[0]? = some v→w.cell? (ad.add (i*s))=some v) ∧
  ∀ k v,0 < k→(f x)[k]? = some v→w.cell? ⟨(ad.add (i*s)).block,(ad.add (i*s)).off+k,none⟩=some v:=by
 have hl:i < l.length:=by rw[h.len];exact hi
 have hx:l[i]? = some l[i]:=List.getElem?_eq_getElem hl;have hpos:0 < (l.flatMap f).length:=by
  cases l with
  | nil=>simp at hl
  | cons y l=>rw[List.flatMap_cons,List.length_append,hf];omega
 obtain⟨ad,e,hb,hc⟩:=h.rd hpos;refine⟨ad,l[i],e,hb,hx,fun v hv=>?_,fun k v hk hv=>?_⟩
 ·have:=flat_get hf l i 0 _ hx hs;rw[Nat.add_zero] at this;exact hc _ v (this.trans hv)
 have hks:k < s:=by rw[← hf l[i]];exact(List.getElem?_eq_some_iff.1 hv).1
 have:=flat_get hf l i k _ hx hks;have e1:(⟨(ad.add (i*s)).block,(ad.add (i*s)).off+k,none⟩:Addr)=ad.add (i*s+k):=by
  rw[← add_add];generalize ad.add (i*s)=p;unfold Addr.add;rw[if_neg (by omega)]
 rw[e1];exact hc _ v (this.trans hv)
end
def cc(x:ChV):List Value:=[.int .i64 x.from_,.int .i64 x.to_,.bool x.queue,.int .i64 x.cap,.int .u32 x.max,.int .i64 x.late]
def pcl(x:PtV):List Value:=[.string x.name,.int .i64 x.bud,.int .i64 x.per,.bool x.sched,.bool x.stop,.slice x.pa x.pn x.pc,.int .i64 x.h0,.int .i64 x.h1,.int .i64 x.h2,.int .i64 x.h3,.int .i64 x.h4]
theorem cc_len(x:ChV):(cc x).length=6:=rfl
theorem pcl_len(x:PtV):(pcl x).length=11:=rfl
end Go.Proofs.YtdkngfdnfekgfaaGreat
