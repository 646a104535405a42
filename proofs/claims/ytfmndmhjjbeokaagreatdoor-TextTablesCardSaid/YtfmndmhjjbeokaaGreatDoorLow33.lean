import Derived.Test.YtfmndmhjjbeokaaGreatDoorLow32
import Derived.Test.YtfmndmhjjbeokaaGreatDoorLow25
import Derived.Lib.ConvBytes
import Derived.Test.YtfmndmhjjbeokaaGreatDoorLow26
import Derived.Lib.UnsafeStr
namespace Go.Proofs.YtfmndmhjjbeokaaGreatDoor
set_option maxRecDepth 100000
open Go.RowKit Tab Txt
set_option linter.unusedSimpArgs false
set_option linter.unusedVariables false
theorem Rpo.map0 {B g : Nat} {st : Option (List UInt8)} {w : World} (h : RdrS B g st w) (f : List UInt8 → List UInt8) (hf : f [] = []) : Rpo B g (st.map f) w (w.setCell ⟨g, 0, none⟩ (.string (bsOf (f (st.getD []))))) := by
  refine ⟨?_, ogb_set _ h.cells.2.2.2.2.2⟩
  have e := OwnV.set h 0 (.string (bsOf (f (st.getD [])))) (by show 0 < 2; omega)
  cases st with
  | none =>
    show OwnV _ _ _ _ _ _ _ [.string (bsOf []), .bool true]
    rw [show ((none : Option (List UInt8)).getD []) = [] from rfl, hf] at e ⊢
    exact e
  | some s => exact e
set_option maxHeartbeats 1000000 in
theorem tupto_any {B g : Nat} {st : Option (List UInt8)} {w : World} (h : RdrS B g st w) (hl : (st.getD []).length ≤ 140737488351232) (b : UInt8) (z : Int) (hz : z = (b.toNat : Int)) :
    Calls Tryz.prog 41 #[.pointer (some ⟨g, 0, none⟩), .int .u8 z] w (fun e w' => e = .returned (.string (bsOf (aheadT (isB b) (st.getD [])))) ∧ Rpo B g (st.map (behindT (isB b))) w w') := by
  obtain ⟨m0, m1, f0, f1, hB, hg⟩ := h.cells
  have HM := Lib.hid (Rpo.map0 h (behindT (isB b)) rfl)
  subst hz
  generalize st.map (behindT (isB b)) = ST at HM ⊢
  generalize st.getD [] = s at m0 hl HM ⊢
  have HXS := Lib.hid fun i c (h : s[i]? = some c) => sidx h
  have HUP := Lib.hid (bs_upto s)
  obtain ⟨n, hn⟩ : ∃ n, n = s.length := ⟨_, rfl⟩
  have HFR := Lib.hid fun i => bs_from s i n hn.symm
  have hsz : (bsOf s).size = n := by rw [hn]; rfl
  have HN := Lib.hid hn
  have HSP := Lib.hid fun i (h1 : ∀ j, j < i → ∀ d, s[j]? = some d → isB b d = false) (h2 : ∀ c, s[i]? = some c → isB b c = true) => ahead_split (p := isB b) h1 h2
  rw [← hn] at hl
  generalize aheadT (isB b) s = R1 at HSP ⊢
  generalize behindT (isB b) s = R2 at HSP HM ⊢
  clear h hn m1 f1
  generalize hsv : bsOf s = sv at m0 HXS HUP HFR hsz
  clear hsv
  obtain ⟨b1, hb1⟩ : ∃ b1, b1 = b.toNat := ⟨_, rfl⟩
  rw [← hb1]
  have HB1 := Lib.hid hb1
  clear hb1
  go_enter Tryz.func41, Tryz.ntmps41
  go_wp2_with fail
  go_loopw [5] (fun v wr => ∃ i : Nat, i ≤ n ∧ v = .int .i64 i ∧ (∀ j, j < i → ∀ d, s[j]? = some d → isB b d = false) ∧ w = wr) (fun v _ => n - (intOf v).toNat)
  case atStart => exact ⟨0, by omega, rfl, fun j hj => by omega, rfl⟩
  case round =>
    obtain ⟨i, hi, rfl, hok, rfl⟩ := hrel
    have HOK := Lib.hid hok
    clear hok
    have hup := HUP.out i
    have hfr := HFR.out i
    by_cases hlt : i < n
    · have hlti : (i : Int) < (n : Int) := by omega
      obtain ⟨c, hc⟩ : ∃ c, s[i]? = some c := ⟨_, List.getElem?_eq_getElem (by rw [← HN.out]; exact hlt)⟩
      obtain ⟨c1, hc1⟩ : ∃ c1, c1 = c.toNat := ⟨_, rfl⟩
      have hix : ∀ W, (Instr.index 9 (.string sv) (.int .i64 (i : Int))).run Tryz.prog W = .ok (.int .u8 (c1 : Int)) W := by rw [hc1]; exact HXS.out i c hc
      by_cases hcb : c = b
      · have i1 : ((c1 : Int) != (b1 : Int)) = false := by rw [hc1, HB1.out, hcb]; simp
        have hsp := HSP.out i HOK.out (fun c' hc' => by rw [hc] at hc'; injection hc' with e; rw [← e, hcb]; exact decide_eq_true rfl)
        have S1 := Lib.hid hsp.1
        have S2 := Lib.hid hsp.2
        have Q1 : Hid (bsOf R1 = bsOf (s.take i)) := Lib.hid (by rw [S1.out])
        have Q2 : Hid (bsOf R2 = bsOf (s.drop i)) := Lib.hid (by rw [S2.out])
        clear hsp HSP HOK hcb hc hc1 HXS HUP HFR S1 S2
        generalize bsOf (s.take i) = o1 at hup Q1
        generalize bsOf (s.drop i) = o2 at hfr Q2
        go_wp2_with fail
        go_ret
        exact ⟨by rw [Q1.out]; rfl, by have := HM.out; rw [Q2.out] at this; exact this⟩
      · have i1 : ((c1 : Int) != (b1 : Int)) = true := bne_iff_ne.2 fun e => hcb (UInt8.toNat_inj.1 (by rw [← hc1, ← HB1.out]; exact Int.ofNat.inj e))
        have HNX : Hid (∀ j, j < i + 1 → ∀ d, s[j]? = some d → isB b d = false) := Lib.hid fun j hj d hd => by
          rcases Nat.lt_or_ge j i with h5 | h5
          · exact HOK.out j h5 d hd
          · obtain rfl : j = i := by omega
            rw [hc] at hd
            injection hd with e
            rw [← e]
            exact decide_eq_false hcb
        clear HSP HOK hcb hc hc1 HXS HUP HFR hup hfr
        go_wp2_with fail
        go_roundw
        case rel => exact ⟨i + 1, by omega, by go_num, HNX.out, by first | rfl | trivial⟩
        case measure => simp [intOf]; omega
    · have hlti : ¬ (i : Int) < (n : Int) := by omega
      have hsp := HSP.out i HOK.out (fun c' hc' => by rw [List.getElem?_eq_none (by rw [← HN.out]; omega)] at hc'; cases hc')
      have S1 := Lib.hid hsp.1
      have S2 := Lib.hid hsp.2
      have Q1 : Hid (bsOf R1 = bsOf (s.take i)) := Lib.hid (by rw [S1.out])
      have Q2 : Hid (bsOf R2 = bsOf (s.drop i)) := Lib.hid (by rw [S2.out])
      clear hsp HSP HOK HXS HUP HFR S1 S2
      generalize bsOf (s.take i) = o1 at hup Q1
      generalize bsOf (s.drop i) = o2 at hfr Q2
      go_wp2_with fail
      go_ret
      exact ⟨by rw [Q1.out]; rfl, by have := HM.out; rw [Q2.out] at this; exact this⟩
theorem takeB_noU {b : UInt8} {s : List UInt8} (h : ¬ ∃ r, s = b :: r) : takeB b s = none := by
  cases s with
  | nil => rfl
  | cons c r => exact takeB_ne (fun e => h ⟨r, by rw [e]⟩) r
def lenS (w : World) (g : Nat) : Nat := match w.cell? ⟨g, 0, none⟩ with
  | some (.string s) => s.size
  | _ => 0
theorem lenS_is {B g : Nat} {st : Option (List UInt8)} {w : World} (h : RdrS B g st w) : lenS w g = (st.getD []).length := by
  unfold lenS
  rw [h.cells.1]
  rfl
theorem numZ_some {m n : Nat} {st : Option (List UInt8)} {r : List UInt8} (h : st.bind (numS m) = some (n, r)) : Got (st.bind (numZ m)) (n : Int) (some r) := by
  have e : st.bind (numZ m) = some ((n : Int), r) := by
    cases st with
    | none => cases h
    | some s => show (numS m s).map _ = _; rw [show numS m s = some (n, r) from h]; rfl
  exact ⟨by rw [e]; rfl, fun x hx => by rw [e] at hx; injection hx with hx; rw [← hx]⟩
theorem numZ_no {m : Nat} {st : Option (List UInt8)} (h : st.bind (numS m) = none) (v : Int) : Got (st.bind (numZ m)) v none := by
  have e : st.bind (numZ m) = none := by
    cases st with
    | none => rfl
    | some s => show (numS m s).map _ = _; rw [show numS m s = none from h]; rfl
  exact ⟨by rw [e]; rfl, fun x hx => by rw [e] at hx; cases hx⟩
def NumX (B g : Nat) (R : Option (Int × List UInt8)) (w : World) (e : Ending) (w' : World) : Prop := ∃ (v : Int) (st' : Option (List UInt8)), e = .returned (.int .i64 v) ∧ 0 ≤ v ∧ v ≤ 10995116277759 ∧ Got R v st' ∧ Rpo B g st' w w'
def NumI (m : Nat) (R : Option (Nat × List UInt8)) (n : Nat) (st : Option (List UInt8)) : Prop := match st with
  | none => R = none
  | some s => R = numL m n s ∧ n ≤ m
set_option maxHeartbeats 2000000 in
theorem tnumber_any {B g : Nat} {st : Option (List UInt8)} {w : World} (h : RdrS B g st w) (m : Nat) (hm : m ≤ 1099511627775) :
    Calls Tryz.prog 49 #[.pointer (some ⟨g, 0, none⟩), .int .i64 (m : Int)] w (NumX B g (st.bind (numZ m)) w) := by
  by_cases hz : ∃ r, st = some (48 :: r)
  · obtain ⟨r, rfl⟩ := hz
    have HG := Lib.hid (numZ_some (m := m) (n := 0) (st := some (48 :: r)) (r := r) rfl)
    have e1 : (some ((48 : UInt8) :: r)).bind (takeB 48) = some r := takeB_self 48 r
    have HT := Lib.hid (ttake_yes h 48 48 rfl e1)
    clear h e1
    go_enter Tryz.func49, Tryz.ntmps49
    go_wp2_with fail
    refine HT.out.mono ?_
    rintro e w1 ⟨rfl, h1⟩
    have H1 := Lib.hid h1
    clear h1 HT
    go_wp2_with fail
    go_ret
    exact ⟨0, some r, rfl, by decide, by decide, HG.out, H1.out⟩
  · have e1 : st.bind (takeB 48) = none := by
      cases st with
      | none => rfl
      | some s => exact takeB_noU (b := 48) fun ⟨r, e⟩ => hz ⟨r, by rw [e]⟩
    have HT := Lib.hid (ttake_no h 48 48 rfl e1)
    obtain ⟨R, hR⟩ : ∃ R, R = st.bind (numS m) := ⟨_, rfl⟩
    have hI : NumI m R 0 st := by
      unfold NumI
      cases st with
      | none => exact hR
      | some s =>
        refine ⟨?_, Nat.zero_le _⟩
        rw [hR]
        cases s with
        | nil => rfl
        | cons c r =>
          show numS m (c :: r) = _
          rw [numS_cons, if_neg (fun e => hz ⟨r, by rw [e]⟩)]
    have HNO := Lib.hid fun (e : R = none) v => numZ_no (m := m) (st := st) (by rw [← hR]; exact e) v
    have HYE := Lib.hid fun n r (e : R = some (n, r)) => numZ_some (m := m) (n := n) (r := r) (st := st) (by rw [← hR]; exact e)
    have HI := Lib.hid hI
    have H0 := Lib.hid h
    clear h e1 hz hR hI
    generalize st.bind (numZ m) = RZ at HNO HYE ⊢
    go_enter Tryz.func49, Tryz.ntmps49
    go_wp2_with fail
    refine HT.out.mono ?_
    rintro e w1 ⟨rfl, h1⟩
    have H1 := Lib.hid h1
    clear h1 HT
    go_wp2_with fail
    go_loopw [5] (fun v wr => ∃ (n : Nat) (sn : Option (List UInt8)), v = .int .i64 n ∧ n ≤ m * 10 + 9 ∧ NumI m R n sn ∧ Rpo B g sn w wr) (fun _ wr => lenS wr g)
    case atStart => exact ⟨0, st, rfl, by omega, HI.out, H1.out⟩
    case round =>
      obtain ⟨n, sn, rfl, hn, hi, hr⟩ := hrel
      have HS := Lib.hid hr
      have HI2 := Lib.hid hi
      have HN := Lib.hid hn
      have hcells := hr.rd.cells
      clear H1 HI hr hi
      obtain ⟨m0, m1, f0, f1, hB, hg⟩ := hcells
      clear m1 f1
      by_cases hs : sn.getD [] = []
      · have HE := Lib.hid (tend_nil HS.out.rd hs)
        by_cases hn0 : n = 0
        · subst hn0
          have hRn : R = none := by
            have := HI2.out
            cases sn with
            | none => exact this
            | some s => rw [show s = [] from hs] at this; exact this.1
          have HG := Lib.hid (HNO.out hRn 0)
          have HF := Lib.hid (tfail_any HS.out.rd)
          clear HNO HYE hRn hs m0
          go_wp2_with (go_at_call 40; refine HE.out.mono ?_; rintro e w2 ⟨rfl, rfl⟩)
          refine HF.out.mono ?_
          rintro e w2 ⟨rfl, h2⟩
          have H2 := Lib.hid (HS.out.trans h2)
          clear h2
          go_wp2_with fail
          go_ret
          exact ⟨0, none, rfl, by decide, by decide, HG.out, H2.out⟩
        · have HG : Hid (Got RZ (n : Int) sn) := Lib.hid (by
            have := HI2.out
            cases sn with
            | none => exact HNO.out this _
            | some s =>
              rw [show s = [] from hs] at this ⊢
              exact HYE.out n [] (by rw [this.1]; unfold numL; rw [if_neg hn0]))
          have i1 : ((n : Int) == 0) = false := by rw [beq_eq_false_iff_ne]; omega
          clear HNO HYE hs m0
          go_wp2_with (go_at_call 40; refine HE.out.mono ?_; rintro e w2 ⟨rfl, rfl⟩)
          go_ret
          exact ⟨n, sn, rfl, by omega, by have := HN.out; omega, HG.out, HS.out⟩
      · obtain ⟨c, r, rfl⟩ : ∃ c r, sn = some (c :: r) := by
          cases sn with
          | none => exact absurd rfl hs
          | some s =>
            cases s with
            | nil => exact absurd rfl hs
            | cons c r => exact ⟨c, r, rfl⟩
        have HE := Lib.hid (tend_cons HS.out.rd)
        have hix : ∀ W, (Instr.index 9 (.string (bsOf (c :: r))) (.int .i64 0)).run Tryz.prog W = .ok (.int .u8 (c.toNat : Int)) W := sidx (l := c :: r) (i := 0) rfl
        rw [Option.getD_some] at m0
        have hI2 : R = numL m n (c :: r) ∧ n ≤ m := HI2.out
        obtain ⟨hR1, hnm⟩ := hI2
        rw [numL_cons] at hR1
        have HIS : Hid (isD c = (decide (48 ≤ c.toNat) && decide (c.toNat ≤ 57))) := Lib.hid rfl
        have HNXT := Lib.hid (tnext_any HS.out.rd)
        have HLEN : Hid (lenS wr g = r.length + 1) := Lib.hid (lenS_is HS.out.rd)
        obtain ⟨b, hb⟩ : ∃ b, b = c.toNat := ⟨_, rfl⟩
        have hnv : nxV (some (c :: r)) = (b : Int) := by rw [hb]; rfl
        have hns : nxS (some (c :: r)) = some r := rfl
        rw [hnv, hns] at HNXT
        rw [← hb] at hix hR1 HIS
        clear hb hnv hns HI2
        generalize bsOf (c :: r) = sv at m0 hix
        by_cases hd : 48 ≤ b ∧ b ≤ 57
        · have i1 : (48 : Int) ≤ (b : Int) := by omega
          have i2 : (b : Int) ≤ 57 := by omega
          have hd2 : isD c = true := by rw [HIS.out, decide_eq_true hd.1, decide_eq_true hd.2]; rfl
          rw [if_pos hd2] at hR1
          obtain ⟨k, hk⟩ : ∃ k, k = b - 48 := ⟨_, rfl⟩
          obtain ⟨p, hp⟩ : ∃ p, p = n * 10 := ⟨_, rfl⟩
          obtain ⟨a2, ha2⟩ : ∃ a2, a2 = p + k := ⟨_, rfl⟩
          rw [← hp, ← hk, ← ha2] at hR1
          have e1 : (b : Int) - 48 = (k : Int) := by omega
          have e2 : IntKind.u8.wrap (k : Int) = (k : Int) := by rw [IntKind.wrap_u8]; omega
          have e3 : (n : Int) * 10 = (p : Int) := by omega
          have e4 : IntKind.i64.wrap (p : Int) = (p : Int) := by rw [IntKind.wrap_i64]; omega
          have e5 : (p : Int) + (k : Int) = (a2 : Int) := by omega
          have e6 : IntKind.i64.wrap (a2 : Int) = (a2 : Int) := by rw [IntKind.wrap_i64]; omega
          have e7 : IntKind.i64.wrap (k : Int) = (k : Int) := by rw [IntKind.wrap_i64]; omega
          have HA : Hid (a2 ≤ m * 10 + 9) := Lib.hid (by omega)
          clear hd2 HIS hd hk hp ha2
          by_cases hg2 : m < a2
          · have i3 : (m : Int) < (a2 : Int) := by omega
            rw [if_pos hg2] at hR1
            have HRR := Lib.hid hR1
            clear hR1 hg2 hs HNO HYE
            go_wp2_with (first | (go_at_call 40; refine HE.out.mono ?_; rintro e w2 ⟨rfl, rfl⟩) | (go_at_call 83; refine HNXT.out.mono ?_; rintro e w2 ⟨rfl, h2⟩))
            have H2 := Lib.hid (HS.out.trans h2)
            have HF := Lib.hid (tfail_any h2.rd)
            clear h2
            go_wp2_with fail
            refine HF.out.mono ?_
            rintro e w3 ⟨rfl, h3⟩
            have H3 := Lib.hid (H2.out.trans h3)
            clear h3
            go_wp2_with fail
            go_roundw
            case rel => exact ⟨a2, none, by go_num, HA.out, HRR.out, H3.out⟩
            case measure => rw [HLEN.out, lenS_is H3.out.rd]; show 0 < _; omega
          · have i3 : ¬ (m : Int) < (a2 : Int) := by omega
            rw [if_neg hg2] at hR1
            have HRR : Hid (R = numL m a2 r ∧ a2 ≤ m) := Lib.hid ⟨hR1, by omega⟩
            clear hR1 hg2 hs HNO HYE
            go_wp2_with (first | (go_at_call 40; refine HE.out.mono ?_; rintro e w2 ⟨rfl, rfl⟩) | (go_at_call 83; refine HNXT.out.mono ?_; rintro e w2 ⟨rfl, h2⟩))
            have H2 := Lib.hid (HS.out.trans h2)
            clear h2
            go_wp2_with fail
            go_roundw
            case rel => exact ⟨a2, some r, by go_num, HA.out, HRR.out, H2.out⟩
            case measure => rw [HLEN.out, lenS_is H2.out.rd]; show r.length < _; omega
        · have hd2 : isD c = false := by
            rw [HIS.out, Bool.and_eq_false_iff, decide_eq_false_iff_not, decide_eq_false_iff_not]
            omega
          rw [if_neg (by rw [hd2]; decide)] at hR1
          by_cases hn0 : n = 0
          · subst hn0
            rw [if_pos rfl] at hR1
            have HG := Lib.hid (HNO.out hR1 0)
            have HF := Lib.hid (tfail_any HS.out.rd)
            clear HNO HYE hR1 hs HIS hd2
            rcases (by omega : b < 48 ∨ 48 ≤ b ∧ 57 < b) with h | ⟨h, h2⟩
            · have i1 : ¬ (48 : Int) ≤ (b : Int) := by omega
              clear h hd
              go_wp2_with (go_at_call 40; refine HE.out.mono ?_; rintro e w2 ⟨rfl, rfl⟩)
              refine HF.out.mono ?_
              rintro e w2 ⟨rfl, h2⟩
              have H2 := Lib.hid (HS.out.trans h2)
              clear h2
              go_wp2_with fail
              go_ret
              exact ⟨0, none, rfl, by decide, by decide, HG.out, H2.out⟩
            · have i1 : (48 : Int) ≤ (b : Int) := by omega
              have i2 : ¬ (b : Int) ≤ 57 := by omega
              clear h h2 hd
              go_wp2_with (go_at_call 40; refine HE.out.mono ?_; rintro e w2 ⟨rfl, rfl⟩)
              refine HF.out.mono ?_
              rintro e w2 ⟨rfl, h2⟩
              have H2 := Lib.hid (HS.out.trans h2)
              clear h2
              go_wp2_with fail
              go_ret
              exact ⟨0, none, rfl, by decide, by decide, HG.out, H2.out⟩
          · rw [if_neg hn0] at hR1
            have HG := Lib.hid (HYE.out _ _ hR1)
            have i0 : ((n : Int) == 0) = false := by rw [beq_eq_false_iff_ne]; omega
            clear HNO HYE hR1 hs HIS hd2
            rcases (by omega : b < 48 ∨ 48 ≤ b ∧ 57 < b) with h | ⟨h, h2⟩
            · have i1 : ¬ (48 : Int) ≤ (b : Int) := by omega
              clear h hd
              go_wp2_with (go_at_call 40; refine HE.out.mono ?_; rintro e w2 ⟨rfl, rfl⟩)
              go_ret
              exact ⟨n, some (c :: r), rfl, by omega, by have := HN.out; omega, HG.out, HS.out⟩
            · have i1 : (48 : Int) ≤ (b : Int) := by omega
              have i2 : ¬ (b : Int) ≤ 57 := by omega
              clear h h2 hd
              go_wp2_with (go_at_call 40; refine HE.out.mono ?_; rintro e w2 ⟨rfl, rfl⟩)
              go_ret
              exact ⟨n, some (c :: r), rfl, by omega, by have := HN.out; omega, HG.out, HS.out⟩
end Go.Proofs.YtfmndmhjjbeokaaGreatDoor
namespace Go.Proofs.YtfmndmhjjbeokaaGreatDoor
open Go.RowKit Tab
set_option linter.unusedSimpArgs false
set_option linter.unusedVariables false
def Pur (v : Value) (w : World) (e : Ending) (w' : World) : Prop := e = .returned v ∧ w = w'
theorem Pur.ans {v : Value} {w w' : World} {e : Ending} (h : Pur v w e w') : Ans v w e w' := by
  obtain ⟨rfl, rfl⟩ := h
  exact Ans.mk rfl (Below.refl _ _)
def wiF (n a b : Int) : Bool := decide (a ≤ n) && decide (n ≤ b)
set_option maxRecDepth 100000 in
theorem wi_any (n a b : Int) (w : World) : Calls Tryz.prog 118 #[.int .i64 n, .int .i64 a, .int .i64 b] w (Pur (.bool (wiF n a b)) w) := by
  have HV : Hid (wiF n a b = (decide (a ≤ n) && decide (n ≤ b))) := Lib.hid rfl
  generalize wiF n a b = v at HV
  go_enter Tryz.func118, Tryz.ntmps118
  by_cases h1 : a ≤ n
  · have e1 : v = decide (n ≤ b) := by rw [HV.out, decide_eq_true h1]; rfl
    have E1 := Lib.hid e1
    clear e1 HV
    by_cases h2 : n ≤ b
    · have E2 : Hid (v = true) := Lib.hid (by rw [E1.out, decide_eq_true h2])
      clear E1
      go_wp2_with fail
      go_ret
      exact ⟨by rw [E2.out]; rfl, rfl⟩
    · have E2 : Hid (v = false) := Lib.hid (by rw [E1.out, decide_eq_false h2])
      clear E1
      go_wp2_with fail
      go_ret
      exact ⟨by rw [E2.out]; rfl, rfl⟩
  · have E2 : Hid (v = false) := Lib.hid (by rw [HV.out, decide_eq_false h1]; rfl)
    clear HV
    go_wp2_with fail
    go_ret
    exact ⟨by rw [E2.out]; rfl, rfl⟩
set_option maxRecDepth 100000 in
theorem wi64_any (n a b : Int) (w : World) : Calls Tryz.prog 124 #[.int .i64 n, .int .i64 a, .int .i64 b] w (Pur (.bool (wiF n a b)) w) := by
  have HV : Hid (wiF n a b = (decide (a ≤ n) && decide (n ≤ b))) := Lib.hid rfl
  generalize wiF n a b = v at HV
  go_enter Tryz.func124, Tryz.ntmps124
  by_cases h1 : a ≤ n
  · have e1 : v = decide (n ≤ b) := by rw [HV.out, decide_eq_true h1]; rfl
    have E1 := Lib.hid e1
    clear e1 HV
    by_cases h2 : n ≤ b
    · have E2 : Hid (v = true) := Lib.hid (by rw [E1.out, decide_eq_true h2])
      clear E1
      go_wp2_with fail
      go_ret
      exact ⟨by rw [E2.out]; rfl, rfl⟩
    · have E2 : Hid (v = false) := Lib.hid (by rw [E1.out, decide_eq_false h2])
      clear E1
      go_wp2_with fail
      go_ret
      exact ⟨by rw [E2.out]; rfl, rfl⟩
  · have E2 : Hid (v = false) := Lib.hid (by rw [HV.out, decide_eq_false h1]; rfl)
    clear HV
    go_wp2_with fail
    go_ret
    exact ⟨by rw [E2.out]; rfl, rfl⟩
def leF (b : Nat) : Bool := decide (97 ≤ b) && decide (b ≤ 122)
def diF (b : Nat) : Bool := decide (48 ≤ b) && decide (b ≤ 57)
set_option maxRecDepth 100000 in
theorem letter_any (b : Nat) (w : World) : Calls Tryz.prog 138 #[.int .u8 (b : Int)] w (Pur (.bool (leF b)) w) := by
  have HV : Hid (leF b = (decide (97 ≤ b) && decide (b ≤ 122))) := Lib.hid rfl
  generalize leF b = v at HV
  go_enter Tryz.func138, Tryz.ntmps138
  by_cases h1 : 97 ≤ b
  · have e1 : v = decide (b ≤ 122) := by rw [HV.out, decide_eq_true h1]; rfl
    have E1 := Lib.hid e1
    have h1' : (97 : Int) ≤ (b : Int) := by omega
    clear e1 HV
    by_cases h2 : b ≤ 122
    · have E2 : Hid (v = true) := Lib.hid (by rw [E1.out, decide_eq_true h2])
      have h2' : (b : Int) ≤ 122 := by omega
      clear E1 h1 h2
      go_wp2_with fail
      go_ret
      exact ⟨by rw [E2.out]; rfl, rfl⟩
    · have E2 : Hid (v = false) := Lib.hid (by rw [E1.out, decide_eq_false h2])
      have h2' : ¬ (b : Int) ≤ 122 := by omega
      clear E1 h1 h2
      go_wp2_with fail
      go_ret
      exact ⟨by rw [E2.out]; rfl, rfl⟩
  · have E2 : Hid (v = false) := Lib.hid (by rw [HV.out, decide_eq_false h1]; rfl)
    have h1' : ¬ (97 : Int) ≤ (b : Int) := by omega
    clear HV h1
    go_wp2_with fail
    go_ret
    exact ⟨by rw [E2.out]; rfl, rfl⟩
set_option maxRecDepth 100000 in
theorem digit_any (b : Nat) (w : World) : Calls Tryz.prog 139 #[.int .u8 (b : Int)] w (Pur (.bool (diF b)) w) := by
  have HV : Hid (diF b = (decide (48 ≤ b) && decide (b ≤ 57))) := Lib.hid rfl
  generalize diF b = v at HV
  go_enter Tryz.func139, Tryz.ntmps139
  by_cases h1 : 48 ≤ b
  · have e1 : v = decide (b ≤ 57) := by rw [HV.out, decide_eq_true h1]; rfl
    have E1 := Lib.hid e1
    have h1' : (48 : Int) ≤ (b : Int) := by omega
    clear e1 HV
    by_cases h2 : b ≤ 57
    · have E2 : Hid (v = true) := Lib.hid (by rw [E1.out, decide_eq_true h2])
      have h2' : (b : Int) ≤ 57 := by omega
      clear E1 h1 h2
      go_wp2_with fail
      go_ret
      exact ⟨by rw [E2.out]; rfl, rfl⟩
    · have E2 : Hid (v = false) := Lib.hid (by rw [E1.out, decide_eq_false h2])
      have h2' : ¬ (b : Int) ≤ 57 := by omega
      clear E1 h1 h2
      go_wp2_with fail
      go_ret
      exact ⟨by rw [E2.out]; rfl, rfl⟩
  · have E2 : Hid (v = false) := Lib.hid (by rw [HV.out, decide_eq_false h1]; rfl)
    have h1' : ¬ (48 : Int) ≤ (b : Int) := by omega
    clear HV h1
    go_wp2_with fail
    go_ret
    exact ⟨by rw [E2.out]; rfl, rfl⟩
set_option maxRecDepth 100000 in
theorem owed_any (b p : Int) (w : World) : Calls Tryz.prog 123 #[.int .i64 b, .int .i64 p] w (Pur (.bool (pbF b p)) w) := by
  have HV : Hid (pbF b p = ((decide (b = 0) && decide (p = 0)) || (wiF b 1 4096 && wiF p b 4096))) := Lib.hid rfl
  generalize pbF b p = v at HV
  have HZ : Hid (b = 0 → wiF b 1 4096 = false) := Lib.hid fun h => by rw [h]; rfl
  have H1 := Lib.hid fun V => wi64_any b 1 4096 V
  have H2 := Lib.hid fun V => wi64_any p b 4096 V
  generalize wiF b 1 4096 = q1 at H1 HV HZ
  generalize wiF p b 4096 = q2 at H2 HV
  go_enter Tryz.func123, Tryz.ntmps123
  by_cases h0 : b = 0
  · have hq : (b == 0) = true := beq_iff_eq.2 h0
    have E0 : Hid (v = decide (p = 0)) := Lib.hid (by rw [HV.out, decide_eq_true h0, HZ.out h0]; simp)
    clear HV HZ h0 H1 H2
    by_cases h1 : p = 0
    · have hp : (p == 0) = true := beq_iff_eq.2 h1
      have E2 : Hid (v = true) := Lib.hid (by rw [E0.out, decide_eq_true h1])
      clear E0 h1
      go_wp2_with fail
      go_ret
      exact ⟨by rw [E2.out]; rfl, rfl⟩
    · have hp : (p == 0) = false := beq_eq_false_iff_ne.2 h1
      have E2 : Hid (v = false) := Lib.hid (by rw [E0.out, decide_eq_false h1])
      clear E0 h1
      go_wp2_with fail
      go_ret
      exact ⟨by rw [E2.out]; rfl, rfl⟩
  · have hq : (b == 0) = false := beq_eq_false_iff_ne.2 h0
    have E0 : Hid (v = (q1 && q2)) := Lib.hid (by rw [HV.out, decide_eq_false h0]; rfl)
    clear HV HZ h0
    cases q1
    · have E2 : Hid (v = false) := Lib.hid (by rw [E0.out]; rfl)
      clear E0
      go_wp2_with fail
      refine (H1.out _).mono ?_
      rintro e w5 ⟨rfl, rfl⟩
      go_wp2_with fail
      go_ret
      exact ⟨by rw [E2.out]; rfl, rfl⟩
    · have E2 : Hid (v = q2) := Lib.hid (by rw [E0.out]; rfl)
      clear E0
      go_wp2_with fail
      refine (H1.out _).mono ?_
      rintro e w5 ⟨rfl, rfl⟩
      go_wp2_with fail
      refine (H2.out _).mono ?_
      rintro e w5 ⟨rfl, rfl⟩
      go_wp2_with fail
      go_ret
      exact ⟨by rw [E2.out]; rfl, rfl⟩
set_option maxRecDepth 100000 in
set_option maxHeartbeats 4000000 in
theorem health_any (hf : Nat → Int) (w : World) : Calls Tryz.prog 122 #[.agg #[.int .i64 (hf 0), .int .i64 (hf 1), .int .i64 (hf 2), .int .i64 (hf 3), .int .i64 (hf 4)]] w (Ans (.bool ((List.range 5).all fun j => hlF (hf j))) w) := by
  have HNO : Hid (∀ j, j < 5 → hlF (hf j) = false → (List.range 5).all (fun j => hlF (hf j)) = false) := Lib.hid fun j hj h => by
    rw [List.all_eq_false]
    exact ⟨j, List.mem_range.2 hj, by rw [h]; simp⟩
  have HYES : Hid ((∀ j, j < 5 → hlF (hf j) = true) → (List.range 5).all (fun j => hlF (hf j)) = true) := Lib.hid fun h => by
    rw [List.all_eq_true]
    exact fun j hj => h j (List.mem_range.1 hj)
  generalize (List.range 5).all (fun j => hlF (hf j)) = v at HNO HYES ⊢
  have HB0 := Lib.hid (bl1 w (.cells #[.int .i64 (hf 0), .int .i64 (hf 1), .int .i64 (hf 2), .int .i64 (hf 3), .int .i64 (hf 4)] 58))
  have HZ : Hid (∀ j : Nat, j < 5 → ∀ W, (Instr.index 58 (.agg #[Value.int .i64 (hf 0), .int .i64 (hf 1), .int .i64 (hf 2), .int .i64 (hf 3), .int .i64 (hf 4)]) (.int .i64 (j : Int))).run Tryz.prog W = .ok (.int .i64 (hf j)) W) := Lib.hid fun j hj => by
    rcases (by omega : j = 0 ∨ j = 1 ∨ j = 2 ∨ j = 3 ∨ j = 4) with rfl | rfl | rfl | rfl | rfl <;> exact fun W => by simp [Instr.index, go_sem]
  generalize hf 0 = h0 at HZ HB0 ⊢
  generalize hf 1 = h1 at HZ HB0 ⊢
  generalize hf 2 = h2 at HZ HB0 ⊢
  generalize hf 3 = h3 at HZ HB0 ⊢
  generalize hf 4 = h4 at HZ HB0 ⊢
  go_enter Tryz.func122, Tryz.ntmps122
  go_wp2_with fail
  go_loopw [4, 6] (fun _ s wx => ∃ j : Nat, j ≤ 5 ∧ s = .int .i64 j ∧ (∀ k, k < j → hlF (hf k) = true) ∧ Below w.heap.size w wx) (fun _ s _ => 5 - (intOf s).toNat)
  case atStart => exact ⟨0, by omega, rfl, fun k hk => by omega, HB0.out⟩
  case round =>
    obtain ⟨j, hj, rfl, hok, hb⟩ := hrel
    have HOK := Lib.hid hok
    clear hok
    by_cases hj5 : j < 5
    · have hz := HZ.out j hj5
      have hj5' : (j : Int) < 5 := by omega
      have HNX : Hid (hlF (hf j) = true → ∀ k, k < j + 1 → hlF (hf k) = true) := Lib.hid fun h k hk => by
        rcases Nat.lt_or_ge k j with h5 | h5
        · exact HOK.out k h5
        · obtain rfl : k = j := by omega
          exact h
      have HBD := Lib.hid (HNO.out j hj5)
      clear HZ HNO HYES HOK
      generalize hf j = z at hz HNX HBD
      have HPF : Hid (hlF z = (decide (0 ≤ z) && decide (z ≤ 2))) := Lib.hid rfl
      rcases (by omega : z < 0 ∨ 2 < z ∨ z = 0 ∨ z = 1 ∨ z = 2) with h5 | h5 | h5 | h5 | h5
      all_goals
        first
        | (have k5 : hlF z = true := by
            rw [HPF.out, decide_eq_true (show 0 ≤ z by omega), decide_eq_true (show z ≤ 2 by omega)]
            rfl)
        | (have k5 : hlF z = false := by
            rw [HPF.out]
            first
            | rw [decide_eq_false (show ¬ 0 ≤ z by omega)]; rfl
            | rw [decide_eq_false (show ¬ z ≤ 2 by omega)]; simp)
        have K5 := Lib.hid k5
        clear k5
        first
          | have i1 : (z != 0) = true := bne_iff_ne.2 (by omega)
          | have i1 : (z != 0) = false := by simp; omega
        first
          | have i2 : (z != 1) = true := bne_iff_ne.2 (by omega)
          | have i2 : (z != 1) = false := by simp; omega
        first
          | have i3 : (z != 2) = true := bne_iff_ne.2 (by omega)
          | have i3 : (z != 2) = false := by simp; omega
        clear h5
        go_wp2_with fail
        first
        | (go_ret; exact Ans.mk (by rw [HBD.out K5.out]; rfl) hb)
        | (go_roundw
           case rel => exact ⟨j + 1, by omega, by go_num, HNX.out K5.out, hb⟩
           case measure => simp [intOf]; omega)
    · have hj5' : ¬ (j : Int) < 5 := by omega
      have HV := Lib.hid (HYES.out fun k hk => HOK.out k (by omega))
      clear HNO HYES HOK HZ
      go_wp2_with fail
      go_ret
      exact Ans.mk (by rw [HV.out]; rfl) hb
end Go.Proofs.YtfmndmhjjbeokaaGreatDoor
namespace Go.Proofs.YtfmndmhjjbeokaaGreatDoor
open Go.RowKit Tab
set_option linter.unusedSimpArgs false
set_option linter.unusedVariables false
theorem nameF_few {s : ByteArray} (h : ¬ (1 ≤ s.size ∧ s.size ≤ 12)) : nameF s = false := by
  unfold nameF
  rcases (by omega : s.size < 1 ∨ 12 < s.size) with h1 | h1
  · rw [decide_eq_false (show ¬ 1 ≤ s.size by omega)]; simp
  · rw [decide_eq_false (show ¬ s.size ≤ 12 by omega)]; simp
theorem chB_at (i b : Nat) : chB i b = (leF b || ((diF b || decide (b = 95)) && decide (i ≠ 0))) := rfl
theorem bytesW_below (w : World) (e : TypeId) (s : ByteArray) : Below w.heap.size w (Lib.bytesWorld w e s) := by
  unfold Lib.bytesWorld
  exact Lib.below_freeze (((Below.refl w.heap.size w).drew).alloc (Nat.le_refl _) _) (Nat.le_refl _) 1
theorem bytesW_cell (w : World) (e : TypeId) (s : ByteArray) (j : Nat) (hj : j < s.size) : (Lib.bytesWorld w e s).cell? ⟨w.heap.size, j, none⟩ = some (.int .u8 (byteN s j)) := by
  rw [Lib.bytesWorld_cell w e s j hj]
  have h1 : s.data.toList.getD j 0 = s[j] := by
    rw [List.getD_eq_getElem?_getD, List.getElem?_eq_getElem (by simpa using hj)]
    rfl
  rw [h1]
  unfold byteN
  rw [dif_pos hj]
set_option maxRecDepth 100000 in
set_option maxHeartbeats 4000000 in
theorem nm_any (s : ByteArray) (w : World) (hs : s.size ≤ 140737488351232) : Calls Tryz.prog 119 #[.string s] w (Ans (.bool (nameF s)) w) := by
  have HBAD := Lib.hid fun i (hi : i < s.size) (h : chB i (byteN s i) = false) => nameF_bad hi h
  have HEND := Lib.hid fun (h : ∀ j, j < s.size → chB j (byteN s j) = true) => nameF_end h
  have HFEW := Lib.hid fun h => nameF_few (s := s) h
  have HL := Lib.hid fun b V => letter_any b V
  have HD := Lib.hid fun b V => digit_any b V
  generalize nameF s = v at HBAD HEND HFEW ⊢
  go_enter Tryz.func119, Tryz.ntmps119
  by_cases h1 : s.size < 1
  · have h1' : (s.size : Int) < 1 := by omega
    have HV := Lib.hid (HFEW.out (by omega))
    clear HBAD HEND HFEW HL HD h1
    go_wp2_with fail
    go_ret
    exact Ans.mk (by rw [HV.out]; rfl) (Below.refl _ _)
  have h1' : ¬ (s.size : Int) < 1 := by omega
  by_cases h2 : 12 < s.size
  · have h2' : (12 : Int) < (s.size : Int) := by omega
    have HV := Lib.hid (HFEW.out (by omega))
    clear HBAD HEND HFEW HL HD h1 h2
    go_wp2_with fail
    go_ret
    exact Ans.mk (by rw [HV.out]; rfl) (Below.refl _ _)
  have h2' : ¬ (12 : Int) < (s.size : Int) := by omega
  have h0 : 0 < s.size := by omega
  have hix : ∀ W, (Instr.index 9 (.string s) (.int .i64 0)).run Tryz.prog W = .ok (.int .u8 (byteN s 0 : Nat)) W := fun W => by
    rw [run_index_string (h := Tryz.underlying9)]
    simp [h0, byteN]
  have HB0 := Lib.hid (HBAD.out 0 h0)
  have H12 : Hid (s.size ≤ 12) := Lib.hid (by omega)
  clear HFEW h1 h2 h0
  obtain ⟨b0, hb0⟩ : ∃ b0, b0 = byteN s 0 := ⟨_, rfl⟩
  rw [← hb0] at hix HB0
  have HBE := Lib.hid hb0
  have HC0 := Lib.hid (chB_at 0 b0)
  clear hb0
  have HLB := Lib.hid (HL.out b0)
  cases hq : leF b0 with
  | false =>
    rw [hq] at HLB HC0
    have HV : Hid (v = false) := Lib.hid (HB0.out (by rw [HC0.out]; simp))
    clear HBAD HEND HL HD HB0 HC0 hq
    go_wp2_with fail
    refine (HLB.out _).mono ?_
    rintro e w5 ⟨rfl, rfl⟩
    go_wp2_with fail
    go_ret
    exact Ans.mk (by rw [HV.out]; rfl) (Below.refl _ _)
  | true =>
    rw [hq] at HLB HC0
    have HK0 : Hid (chB 0 (byteN s 0) = true) := Lib.hid (by rw [← HBE.out, HC0.out]; simp)
    have hcv := Lib.run_convert_string_bytes (P := Tryz.prog) w 9 38 5 s Tryz.underlying9 Tryz.underlying38 Tryz.underlying5
    have hbw := bytesW_below w 5 s
    have hcl := bytesW_cell w 5 s
    have hsz : w.heap.size < (Lib.bytesWorld w 5 s).heap.size := by rw [Lib.bytesWorld_size]; omega
    generalize Lib.bytesWorld w 5 s = W at hcv hbw hcl hsz
    generalize grownCap w s.size 0 5 = cp at hcv
    have HBW := Lib.hid hbw
    have HCL := Lib.hid hcl
    clear HB0 HC0 hq hbw hcl
    obtain ⟨g, hg⟩ : ∃ g, g = w.heap.size := ⟨_, rfl⟩
    rw [← hg] at hcv HCL hsz
    have HG := Lib.hid hg
    have HM := Lib.hid fun (W' : World) (hb : Below W.heap.size W W') (o : Nat) (v : Value) (hv : W.cell? ⟨g, o, none⟩ = some v) => (hb.cell (p := ⟨g, o, none⟩) hsz).trans hv
    clear hg hsz
    go_wp2_with fail
    refine (HLB.out _).mono ?_
    rintro e w5 ⟨rfl, rfl⟩
    clear HLB hix
    go_wp2_with fail
    clear hcv
    go_loopw [4, 22] (fun _ q wr => ∃ i : Nat, i ≤ s.size ∧ q = .int .i64 i ∧ (∀ j, j < i → chB j (byteN s j) = true) ∧ Below W.heap.size W wr) (fun _ q _ => s.size - (intOf q).toNat)
    case atStart => exact ⟨0, by omega, rfl, fun j h => by omega, Below.refl _ _⟩
    case round =>
      obtain ⟨i, hi, rfl, hok, hb⟩ := hrel
      have HOK := Lib.hid hok
      have HB := Lib.hid hb
      clear hok
      by_cases hlt : i < s.size
      · have hlti : (i : Int) < (s.size : Int) := by omega
        have hcell := HM.out wr hb i _ (HCL.out i hlt)
        have ead := mk_add g i
        have HNX : Hid (chB i (byteN s i) = true → ∀ j, j < i + 1 → chB j (byteN s j) = true) := Lib.hid fun h => lt_more (p := fun j => chB j (byteN s j) = true) HOK.out h
        have HBD := Lib.hid (HBAD.out i hlt)
        have HCH := Lib.hid (chB_at i (byteN s i))
        have HI0 : Hid (i = 0 → chB i (byteN s i) = true) := Lib.hid fun h => by rw [h]; exact HK0.out
        clear hb HOK HBAD HEND
        generalize byteN s i = b at hcell HNX HBD HCH HI0
        generalize chB i b = q at HNX HBD HCH HI0
        have hL := Lib.hid (HL.out b)
        have hD := Lib.hid (HD.out b)
        generalize leF b = ql at hL HCH
        generalize diF b = qd at hD HCH
        clear HL HD
        go_wp2_with fail
        refine (hL.out _).mono ?_
        rintro e w6 ⟨rfl, rfl⟩
        clear hcell
        cases ql with
        | true =>
          have K : Hid (q = true) := Lib.hid (by rw [HCH.out]; rfl)
          clear HCH
          go_wp2_with fail
          go_roundw
          case rel => exact ⟨i + 1, by omega, by go_num, HNX.out K.out, HB.out⟩
          case measure => simp [intOf]; omega
        | false =>
          go_wp2_with fail
          refine (hD.out _).mono ?_
          rintro e w6 ⟨rfl, rfl⟩
          cases qd with
          | true =>
            have K : Hid (q = true) := Lib.hid (by
              by_cases h0 : i = 0
              · exact HI0.out h0
              · rw [HCH.out]; simp [h0])
            clear HCH
            go_wp2_with fail
            go_roundw
            case rel => exact ⟨i + 1, by omega, by go_num, HNX.out K.out, HB.out⟩
            case measure => simp [intOf]; omega
          | false =>
            by_cases h9 : b = 95
            · have K : Hid (q = true) := Lib.hid (by
                by_cases h0 : i = 0
                · exact HI0.out h0
                · rw [HCH.out]; simp [h0, h9])
              have h9' : ((b : Int) != 95) = false := by simp; omega
              clear HCH h9
              go_wp2_with fail
              go_roundw
              case rel => exact ⟨i + 1, by omega, by go_num, HNX.out K.out, HB.out⟩
              case measure => simp [intOf]; omega
            · have K : Hid (q = false) := Lib.hid (by rw [HCH.out]; simp [h9])
              have h9' : ((b : Int) != 95) = true := bne_iff_ne.2 (by omega)
              have HV := Lib.hid (HBD.out K.out)
              clear HCH h9
              go_wp2_with fail
              go_ret
              exact Ans.mk (by rw [HV.out]; rfl) (HBW.out.trans (HB.out.mono HBW.out.size))
      · have hlti : ¬ (i : Int) < (s.size : Int) := by omega
        have HV : Hid (v = true) := Lib.hid (by
          rw [HEND.out fun j hj => HOK.out j (by omega), decide_eq_true H12.out]
          have := HBE
          rw [decide_eq_true (show 1 ≤ s.size by omega)]
          rfl)
        clear HBAD HEND HOK HL HD
        go_wp2_with fail
        go_ret
        exact Ans.mk (by rw [HV.out]; rfl) (HBW.out.trans (HB.out.mono HBW.out.size))
end Go.Proofs.YtfmndmhjjbeokaaGreatDoor
