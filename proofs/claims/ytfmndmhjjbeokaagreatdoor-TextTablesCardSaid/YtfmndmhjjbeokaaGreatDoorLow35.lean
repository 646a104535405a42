import Derived.Test.YtfmndmhjjbeokaaGreatDoorLow34
import Derived.Test.YtfmndmhjjbeokaaGreatDoorLow24
import Derived.Test.YtfmndmhjjbeokaaGreatDoorLow29
import Derived.Test.YtfmndmhjjbeokaaGreatDoorLow23
import Derived.Test.YtfmndmhjjbeokaaGreatDoorLow2
namespace Go.Proofs.YtfmndmhjjbeokaaGreatDoor
set_option maxRecDepth 100000
open Go.RowKit Tab Txt
set_option linter.unusedSimpArgs false
set_option linter.unusedVariables false
namespace Txt
theorem numL_le (m : Nat) : ∀ (s : List UInt8) (n : Nat) (x : Nat × List UInt8), numL m n s = some x → x.2.length ≤ s.length
  | [], n, x, h => by
    unfold numL at h
    split at h
    · cases h
    · injection h with h; rw [← h]; exact Nat.le_refl _
  | c :: s, n, x, h => by
    rw [numL_cons] at h
    split at h
    · split at h
      · cases h
      · have := numL_le m s _ x h
        rw [List.length_cons]
        omega
    · split at h
      · cases h
      · injection h with h; rw [← h]; exact Nat.le_refl _
theorem numW_le {s : List UInt8} {x : Int × List UInt8} (h : numW s = some x) : x.2.length ≤ s.length := by
  unfold numW at h
  cases e : numS lim40 s with
  | none => rw [e] at h; cases h
  | some y =>
    rw [e] at h
    injection h with h
    rw [← h]
    show y.2.length ≤ _
    unfold numS at e
    split at e
    · cases e
    · split at e
      · injection e with e; rw [← e]; simp
      · exact numL_le _ _ _ _ e
theorem procS_le {s : List UInt8} {x : (Int × Int) × List UInt8} (h : procS s = some x) : x.2.length ≤ s.length := by
  unfold procS at h
  cases e1 : numW s with
  | none => rw [e1] at h; cases h
  | some a =>
    rw [e1, Option.bind_some] at h
    cases e2 : takeB 58 a.2 with
    | none => rw [e2] at h; cases h
    | some r =>
      rw [e2, Option.bind_some] at h
      cases e3 : numW r with
      | none => rw [e3] at h; cases h
      | some q =>
        rw [e3, Option.bind_some] at h
        injection h with h
        rw [← h]
        have h1 := numW_le e1
        have h2 := congrArg List.length (takeB_some e2)
        have h3 := numW_le e3
        rw [List.length_cons] at h2
        show q.2.length ≤ _
        omega
theorem procsS_fuel : ∀ (k k' : Nat) (s : List UInt8), s.length < k → s.length < k' → procsS k s = procsS k' s
  | 0, _, _, h, _ => by omega
  | _, 0, _, _, h => by omega
  | k + 1, k' + 1, s, h, h' => by
    rw [procsS_succ, procsS_succ]
    cases e : procS s with
    | none => rfl
    | some x =>
      dsimp only
      cases e2 : takeB 44 x.2 with
      | none => rfl
      | some r =>
        dsimp only
        have h1 := procS_le e
        have h2 := congrArg List.length (takeB_some e2)
        rw [List.length_cons] at h2
        rw [procsS_fuel k k' r (by omega) (by omega)]
def procsI (R : Option (List (Int × Int) × List UInt8)) (L : List (Int × Int)) (st : Option (List UInt8)) : Prop := R = st.bind fun s => (procsS (s.length + 1) s).map fun y => (L ++ y.1, y.2)
theorem procsI_next {R : Option (List (Int × Int) × List UInt8)} {L : List (Int × Int)} {st st3 : Option (List UInt8)} {q : Int × Int} (h : procsI R L st) (hp : st.bind procS = st3.bind fun s => some (q, s)) :
    (∀ r, st3.bind (takeB 44) = some r → procsI R (L ++ [q]) (some r)) ∧ (st3.bind (takeB 44) = none → R = st3.bind fun s => some (L ++ [q], s)) := by
  unfold procsI at h ⊢
  cases st with
  | none =>
    cases st3 with
    | none => exact ⟨fun r hr => (by cases hr), fun _ => h⟩
    | some s => cases hp
  | some s =>
    rw [Option.bind_some] at h hp
    rw [procsS_succ] at h
    cases st3 with
    | none =>
      rw [hp] at h
      exact ⟨fun r hr => (by cases hr), fun _ => h⟩
    | some s3 =>
      rw [Option.bind_some] at hp
      have hle := procS_le hp
      rw [hp] at h
      dsimp only at h hle
      refine ⟨fun r hr => ?_, fun hr => ?_⟩
      · rw [Option.bind_some] at hr ⊢
        have h2 := congrArg List.length (takeB_some hr)
        rw [List.length_cons] at h2
        rw [hr] at h
        dsimp only at h
        rw [h, procsS_fuel s.length (r.length + 1) r (by omega) (by omega)]
        cases procsS (r.length + 1) r with
        | none => rfl
        | some y => show some (L ++ q :: y.1, y.2) = some ((L ++ [q]) ++ y.1, y.2); rw [List.append_assoc]; rfl
      · rw [Option.bind_some] at hr ⊢
        rw [hr] at h
        exact h
end Txt
def FlagX (B g : Nat) (R : Option ((Bool × Bool) × List UInt8)) (w : World) (e : Ending) (w' : World) : Prop := ∃ (v : Bool × Bool) (st' : Option (List UInt8)), e = .returned (.tuple #[.bool v.1, .bool v.2]) ∧ Got R v st' ∧ Rpo B g st' w w'
theorem got_yes {α : Type} {R : Option (α × List UInt8)} {v : α} {r : List UInt8} (h : R = some (v, r)) : Got R v (some r) := ⟨by rw [h]; rfl, fun x hx => by rw [h] at hx; injection hx with hx; rw [← hx]⟩
theorem got_no {α : Type} {R : Option (α × List UInt8)} {v : α} (h : R = none) : Got R v none := ⟨by rw [h]; rfl, fun x hx => by rw [h] at hx; cases hx⟩
set_option maxHeartbeats 1000000 in
theorem tflags_any {B g : Nat} {st : Option (List UInt8)} {w : World} (h : RdrS B g st w) : Calls Tryz.prog 110 #[.pointer (some ⟨g, 0, none⟩)] w (FlagX B g (st.bind flagS) w) := by
  have hR : ∀ s, st = some s → st.bind flagS = flagS s := fun s e => by rw [e]; rfl
  cases h45 : st.bind (takeB 45) with
  | some r =>
    have HG : Hid (Got (st.bind flagS) (false, false) (some r)) := Lib.hid (by
      cases st with
      | none => cases h45
      | some s => exact got_yes (by show flagS s = _; unfold flagS; rw [show takeB 45 s = some r from h45]))
    have HT := Lib.hid (ttake_yes h 45 45 rfl h45)
    generalize st.bind flagS = R at HG ⊢
    clear h h45 hR
    go_enter Tryz.func110, Tryz.ntmps110
    go_wp2_with fail
    refine HT.out.mono ?_
    rintro e w1 ⟨rfl, h1⟩
    have H1 := Lib.hid h1
    clear h1
    go_wp2_with fail
    go_ret2
    exact ⟨(false, false), _, rfl, HG.out, H1.out⟩
  | none =>
    have HT := Lib.hid (ttake_no h 45 45 rfl h45)
    cases h115 : st.bind (takeB 115) with
    | some r =>
      cases h116 : (some r).bind (takeB 116) with
      | some q =>
        have HG : Hid (Got (st.bind flagS) (true, true) (some q)) := Lib.hid (by
          cases st with
          | none => cases h115
          | some s => exact got_yes (by show flagS s = _; unfold flagS; rw [show takeB 45 s = none from h45, show takeB 115 s = some r from h115]; dsimp only; rw [show takeB 116 r = some q from h116]))
        generalize st.bind flagS = R at HG ⊢
        have HS := Lib.hid fun W (hh : RdrS B g st W) => ttake_yes hh 115 115 rfl h115
        have HQ := Lib.hid fun W (hh : RdrS B g (some r) W) => ttake_yes hh 116 116 rfl h116
        clear h h45 h115 h116 hR
        go_enter Tryz.func110, Tryz.ntmps110
        go_wp2_with fail
        refine HT.out.mono ?_
        rintro e w1 ⟨rfl, h1⟩
        have H1 := Lib.hid h1
        clear h1
        go_wp2_with fail
        refine (HS.out w1 H1.out.rd).mono ?_
        rintro e w2 ⟨rfl, h2⟩
        have H2 := Lib.hid (H1.out.trans h2)
        clear h2
        go_wp2_with fail
        refine (HQ.out w2 H2.out.rd).mono ?_
        rintro e w3 ⟨rfl, h3⟩
        have H3 := Lib.hid (H2.out.trans h3)
        clear h3
        go_wp2_with fail
        go_ret2
        exact ⟨(true, true), _, rfl, HG.out, H3.out⟩
      | none =>
        have HG : Hid (Got (st.bind flagS) (true, false) (some r)) := Lib.hid (by
          cases st with
          | none => cases h115
          | some s => exact got_yes (by show flagS s = _; unfold flagS; rw [show takeB 45 s = none from h45, show takeB 115 s = some r from h115]; dsimp only; rw [show takeB 116 r = none from h116]))
        generalize st.bind flagS = R at HG ⊢
        have HS := Lib.hid fun W (hh : RdrS B g st W) => ttake_yes hh 115 115 rfl h115
        have HQ := Lib.hid fun W (hh : RdrS B g (some r) W) => ttake_no hh 116 116 rfl h116
        clear h h45 h115 h116 hR
        go_enter Tryz.func110, Tryz.ntmps110
        go_wp2_with fail
        refine HT.out.mono ?_
        rintro e w1 ⟨rfl, h1⟩
        have H1 := Lib.hid h1
        clear h1
        go_wp2_with fail
        refine (HS.out w1 H1.out.rd).mono ?_
        rintro e w2 ⟨rfl, h2⟩
        have H2 := Lib.hid (H1.out.trans h2)
        clear h2
        go_wp2_with fail
        refine (HQ.out w2 H2.out.rd).mono ?_
        rintro e w3 ⟨rfl, h3⟩
        have H3 := Lib.hid (H2.out.trans h3)
        clear h3
        go_wp2_with fail
        go_ret2
        exact ⟨(true, false), _, rfl, HG.out, H3.out⟩
    | none =>
      cases h116 : st.bind (takeB 116) with
      | some q =>
        have HG : Hid (Got (st.bind flagS) (false, true) (some q)) := Lib.hid (by
          cases st with
          | none => cases h116
          | some s => exact got_yes (by show flagS s = _; unfold flagS; rw [show takeB 45 s = none from h45, show takeB 115 s = none from h115]; dsimp only; rw [show takeB 116 s = some q from h116]; rfl))
        generalize st.bind flagS = R at HG ⊢
        have HS := Lib.hid fun W (hh : RdrS B g st W) => ttake_no hh 115 115 rfl h115
        have HQ := Lib.hid fun W (hh : RdrS B g st W) => ttake_yes hh 116 116 rfl h116
        clear h h45 h115 h116 hR
        go_enter Tryz.func110, Tryz.ntmps110
        go_wp2_with fail
        refine HT.out.mono ?_
        rintro e w1 ⟨rfl, h1⟩
        have H1 := Lib.hid h1
        clear h1
        go_wp2_with fail
        refine (HS.out w1 H1.out.rd).mono ?_
        rintro e w2 ⟨rfl, h2⟩
        have H2 := Lib.hid (H1.out.trans h2)
        clear h2
        go_wp2_with fail
        refine (HQ.out w2 H2.out.rd).mono ?_
        rintro e w3 ⟨rfl, h3⟩
        have H3 := Lib.hid (H2.out.trans h3)
        clear h3
        go_wp2_with fail
        go_ret2
        exact ⟨(false, true), _, rfl, HG.out, H3.out⟩
      | none =>
        have HG : Hid (Got (st.bind flagS) (false, false) none) := Lib.hid (by
          cases st with
          | none => exact got_no rfl
          | some s => exact got_no (by show flagS s = _; unfold flagS; rw [show takeB 45 s = none from h45, show takeB 115 s = none from h115]; dsimp only; rw [show takeB 116 s = none from h116]; rfl))
        generalize st.bind flagS = R at HG ⊢
        have HS := Lib.hid fun W (hh : RdrS B g st W) => ttake_no hh 115 115 rfl h115
        have HQ := Lib.hid fun W (hh : RdrS B g st W) => ttake_no hh 116 116 rfl h116
        clear h h45 h115 h116 hR
        go_enter Tryz.func110, Tryz.ntmps110
        go_wp2_with fail
        refine HT.out.mono ?_
        rintro e w1 ⟨rfl, h1⟩
        have H1 := Lib.hid h1
        clear h1
        go_wp2_with fail
        refine (HS.out w1 H1.out.rd).mono ?_
        rintro e w2 ⟨rfl, h2⟩
        have H2 := Lib.hid (H1.out.trans h2)
        clear h2
        go_wp2_with fail
        refine (HQ.out w2 H2.out.rd).mono ?_
        rintro e w3 ⟨rfl, h3⟩
        have H3 := Lib.hid (H2.out.trans h3)
        clear h3
        have HF := Lib.hid (tfail_any H3.out.rd)
        go_wp2_with fail
        refine HF.out.mono ?_
        rintro e w4 ⟨rfl, h4⟩
        have H4 := Lib.hid (H3.out.trans h4)
        clear h4
        go_wp2_with fail
        go_ret2
        exact ⟨(false, false), _, rfl, HG.out, H4.out⟩
def KindX (B g : Nat) (R : Option ((Bool × Int) × List UInt8)) (w : World) (e : Ending) (w' : World) : Prop := ∃ (v : Bool × Int) (st' : Option (List UInt8)), e = .returned (.tuple #[.bool v.1, .int .i64 v.2]) ∧ In64 v.2 ∧ Got R v st' ∧ Rpo B g st' w w'
set_option maxHeartbeats 1000000 in
theorem tkind_any {B g : Nat} {st : Option (List UInt8)} {w : World} (h : RdrS B g st w) : Calls Tryz.prog 113 #[.pointer (some ⟨g, 0, none⟩)] w (KindX B g (st.bind kindS) w) := by
  cases h1 : st.bind (takeB 113) with
  | some r =>
    have HG : Hid (∀ v st', Got ((some r).bind (numZ lim40)) v st' → Got (st.bind kindS) (true, v) st') := Lib.hid fun v st' hg => by
      cases st with
      | none => cases h1
      | some s =>
        have e : (some s).bind kindS = (numZ lim40 r).map fun x => ((true, x.1), x.2) := by show kindS s = _; unfold kindS; rw [show takeB 113 s = some r from h1]; rfl
        rw [e]
        cases hq : numZ lim40 r with
        | none => exact ⟨by have := hg.1; rw [show (some r).bind (numZ lim40) = none from hq] at this; rw [this]; rfl, fun x hx => by cases hx⟩
        | some y =>
          have h3 := hg.1
          have h4 := hg.2
          rw [show (some r).bind (numZ lim40) = some y from hq] at h3 h4
          exact ⟨h3, fun x hx => by injection hx with hx; rw [← hx]; show (true, v) = (true, y.1); rw [h4 y rfl]⟩
    have HT := Lib.hid (ttake_yes h 113 113 rfl h1)
    generalize st.bind kindS = R at HG ⊢
    clear h h1
    go_enter Tryz.func113, Tryz.ntmps113
    go_wp2_with fail
    refine HT.out.mono ?_
    rintro e w1 ⟨rfl, h1⟩
    have H1 := Lib.hid h1
    have HN := Lib.hid (tnumber_any h1.rd lim40 (Nat.le_refl _))
    clear h1 HT
    go_wp2_with fail
    refine HN.out.mono ?_
    rintro e w2 ⟨v, st2, rfl, hv0, hv1, hg, h2⟩
    have H2 := Lib.hid (H1.out.trans h2)
    have HGG := Lib.hid (HG.out v st2 hg)
    have HV : Hid (In64 v) := Lib.hid ⟨by omega, by omega⟩
    have hw : IntKind.i64.wrap v = v := by rw [IntKind.wrap_i64]; omega
    clear h2 hg hv0 hv1 HN HG
    go_wp2_with fail
    go_ret2
    exact ⟨(true, v), st2, rfl, HV.out, HGG.out, H2.out⟩
  | none =>
    have HG : Hid (Got (st.bind kindS) (false, 0) (st.bind (takeB 115))) := Lib.hid (by
      cases st with
      | none => exact got_no rfl
      | some s =>
        have e : (some s).bind kindS = (takeB 115 s).map fun r => ((false, (0 : Int)), r) := by show kindS s = _; unfold kindS; rw [show takeB 113 s = none from h1]
        rw [e, Option.bind_some]
        cases takeB 115 s with
        | none => exact got_no rfl
        | some r => exact got_yes rfl)
    have HT := Lib.hid (ttake_no h 113 113 rfl h1)
    generalize st.bind kindS = R at HG ⊢
    clear h h1
    go_enter Tryz.func113, Tryz.ntmps113
    go_wp2_with fail
    refine HT.out.mono ?_
    rintro e w1 ⟨rfl, h1⟩
    have H1 := Lib.hid h1
    have HM := Lib.hid (tmust_any h1.rd 115 115 rfl)
    clear h1 HT
    go_wp2_with fail
    refine HM.out.mono ?_
    rintro e w2 ⟨rfl, h2⟩
    have H2 := Lib.hid (H1.out.trans h2)
    clear h2 HM
    go_wp2_with fail
    go_ret2
    exact ⟨(false, 0), _, rfl, ⟨by decide, by decide⟩, HG.out, H2.out⟩
end Go.Proofs.YtfmndmhjjbeokaaGreatDoor
namespace Go.Proofs.YtfmndmhjjbeokaaGreatDoor
set_option maxRecDepth 100000
open Go.RowKit Tab Txt
set_option linter.unusedSimpArgs false
set_option linter.unusedVariables false
theorem OwnV.grown {E E' s s' B B' n c : Nat} {A A0 A' : Option Addr} {l l0 : List Value} {n0 c0 : Nat} {w w' : World} (h : OwnV E s w B A n c l) (h0 : OwnV E' s' w B' A0 n0 c0 l0) (hE : E ≠ E') (hg : Grew A0 A' w w') : OwnV E s w' B A n c l :=
  h.keep' fun k hk => hg.keep (h.obk_ge hk).2 fun e => h.apart h0 hE k hk e
structure ApW (B g : Nat) (AN : Option Addr) (nn cn : Nat) (pl : Bool) (s s' : List UInt8) (f' : Bool) (out : List Nd) (AO : Option Addr) (n co : Nat) (nd : Nd) (W0 : World) (kc kb ka ks tb ta : Nat) (live : Nat → Bool) (a : Act) (w : World) : Prop where
  bel : Below B W0 w
  siz : B ≤ w.heap.size
  r0 : live kc = false → RdrC B g s AN nn cn AO n co false pl w
  r1 : live kc = true → live ks = false → RdrC B g s' AN nn cn AO n co f' pl w
  o : live ka = false → OwnV 54 3 w B AO n co (ns out)
  b : live kb = true → live ka = false → ∃ gb, a.eval (.tmp tb) = .slice (some ⟨gb, 0, none⟩) 1 1 ∧ RdV w w.heap.size (some ⟨gb, 0, none⟩) (ns [nd])
  ap : live ka = true → live ks = false → ∃ A' c', a.eval (.tmp ta) = .slice A' (n + 1 : Nat) c' ∧ OwnV 54 3 w B A' (n + 1) c' (ns (out ++ [nd]))
  fin : live ks = true → ∃ A' c', RdrC B g s' AN nn cn A' (n + 1) c' f' pl w ∧ OwnV 54 3 w B A' (n + 1) c' (ns (out ++ [nd]))
section
variable {B g : Nat} {AN : Option Addr} {nn cn : Nat} {pl : Bool} {s s' : List UInt8} {f' : Bool} {out : List Nd} {AO : Option Addr} {n co : Nat} {nd : Nd} {W0 : World} {kc kb ka ks tb ta : Nat} {live : Nat → Bool} {a : Act} {w w' : World}
theorem ApW.upd (h : ApW B g AN nn cn pl s s' f' out AO n co nd W0 kc kb ka ks tb ta live a w) (i : Nat) (d : Tmp) (v : Value) (hi : i ≠ kc ∧ i ≠ kb ∧ i ≠ ka ∧ i ≠ ks) (hd : d ≠ tb ∧ d ≠ ta) : ApW B g AN nn cn pl s s' f' out AO n co nd W0 kc kb ka ks tb ta (Rgs.upd live i) (a.put (some d) v) w := by
  have e : ∀ k, i ≠ k → Rgs.upd live i k = live k := fun k hk => by unfold Rgs.upd; simp [Ne.symm hk]
  have e1 := e kc hi.1
  have e2 := e kb hi.2.1
  have e3 := e ka hi.2.2.1
  have e4 := e ks hi.2.2.2
  exact ⟨h.bel, h.siz, by rw [e1]; exact h.r0, by rw [e1, e4]; exact h.r1, by rw [e3]; exact h.o, by rw [e2, e3, Reg.eval_other _ _ _ _ hd.1]; exact h.b, by rw [e3, e4, Reg.eval_other _ _ _ _ hd.2]; exact h.ap, by rw [e4]; exact h.fin⟩
theorem ApW.call (h : ApW B g AN nn cn pl s s' f' out AO n co nd W0 kc kb ka ks tb ta live a w) (hb : live kb = false) (ha : live ka = false) (hs : live ks = false) (hd : kc ≠ kb ∧ kc ≠ ka ∧ kc ≠ ks) (hg : B ≤ g) (hr : RdrC B g s' AN nn cn AO n co f' pl w') (ht : Trn g w w') (d : Tmp) (v : Value) :
    ApW B g AN nn cn pl s s' f' out AO n co nd W0 kc kb ka ks tb ta (Rgs.upd live kc) (a.put (some d) v) w' := by
  have e : ∀ k, kc ≠ k → Rgs.upd live kc k = live k := fun k hk => by unfold Rgs.upd; simp [Ne.symm hk]
  have e2 := e kb hd.1
  have e3 := e ka hd.2.1
  have e4 := e ks hd.2.2
  refine ⟨h.bel.trans (ht.bel B hg), Nat.le_trans h.siz (ht.bel B hg).size, fun e => absurd e (by rw [Rgs.upd_self]; decide), fun _ _ => hr, fun _ => ht.own _ _ _ _ _ _ _ (by decide) (h.o ha), fun e => ?_, fun e => ?_, fun e => ?_⟩
  · rw [e2, hb] at e; cases e
  · rw [e3, ha] at e; cases e
  · rw [e4, hs] at e; cases e
theorem ApW.lit (h : ApW B g AN nn cn pl s s' f' out AO n co nd W0 kc kb ka ks tb ta live a w) (hc : live kc = true) (ha : live ka = false) (hs : live ks = false) (hd : kb ≠ kc ∧ kb ≠ ka ∧ kb ≠ ks) (C : Array Value) (hC : C.toList = ns [nd]) (hz : tb < a.tmps.size) :
    ApW B g AN nn cn pl s s' f' out AO n co nd W0 kc kb ka ks tb ta (Rgs.upd live kb) (a.put (some tb) (.slice (some ⟨w.heap.size, 0, none⟩) 1 1)) (w.alloc (.cells C 54)) := by
  have e : ∀ k, kb ≠ k → Rgs.upd live kb k = live k := fun k hk => by unfold Rgs.upd; simp [Ne.symm hk]
  have e1 := e kc hd.1
  have e3 := e ka hd.2.1
  have e4 := e ks hd.2.2
  have hbl := bl1 w (.cells C 54)
  refine ⟨h.bel.trans (hbl.mono h.siz), Nat.le_trans h.siz hbl.size, fun e => ?_, fun _ _ => OwnV.below (h.r1 hc hs) rfl hbl, fun _ => (h.o ha).below rfl hbl, fun _ _ => ⟨_, Reg.eval_same _ _ _ hz, rdV_new w C _ _ hC⟩, fun e => ?_, fun e => ?_⟩
  · rw [e1, hc] at e; cases e
  · rw [e3, ha] at e; cases e
  · rw [e4, hs] at e; cases e
theorem ApW.app (h : ApW B g AN nn cn pl s s' f' out AO n co nd W0 kc kb ka ks tb ta live a w) (hc : live kc = true) (hb : live kb = true) (ha : live ka = false) (hs : live ks = false) (hd : ka ≠ kc ∧ ka ≠ kb ∧ ka ≠ ks) (hz : ta < a.tmps.size) (hn : n ≤ 1048576) :
    ∃ gb, a.eval (.tmp tb) = .slice (some ⟨gb, 0, none⟩) 1 1 ∧ ∃ A' c' w', (Builtin.append_ #[34, 34] 34 #[.slice AO n co, .slice (some ⟨gb, 0, none⟩) 1 1]).run Tryz.prog w = .ok (.slice A' (n + 1) c') w' ∧
      ApW B g AN nn cn pl s s' f' out AO n co nd W0 kc kb ka ks tb ta (Rgs.upd live ka) (a.put (some ta) (.slice A' (n + 1 : Nat) c')) w' := by
  have e : ∀ k, ka ≠ k → Rgs.upd live ka k = live k := fun k hk => by unfold Rgs.upd; simp [Ne.symm hk]
  have e1 := e kc hd.1
  have e2 := e kb hd.2.1
  have e4 := e ks hd.2.2
  obtain ⟨gb, hq, hp⟩ := h.b hb ha
  have ho := h.o ha
  obtain ⟨A', c', w', hrun, h1, h2, h3⟩ := run_appX elN w B AO n co (ns out) ho ⟨gb, 0, none⟩ 1 1 (ns [nd]) w.heap.size hp rfl Nat.one_pos (ns_one _) (by omega) (by unfold maxLen; omega) h.siz
  rw [← ns_append] at h1
  refine ⟨gb, hq, A', c', w', hrun, h.bel.trans h2, Nat.le_trans h.siz h2.size, fun e => ?_, fun _ _ => OwnV.grown (h.r1 hc hs) ho (by decide) h3, fun e => absurd e (by rw [Rgs.upd_self]; decide), fun _ e => absurd e (by rw [Rgs.upd_self]; decide), fun _ _ => ⟨A', c', Reg.eval_same _ _ _ hz, h1⟩, fun e => ?_⟩
  · rw [e1, hc] at e; cases e
  · rw [e4, hs] at e; cases e
theorem ApW.put (h : ApW B g AN nn cn pl s s' f' out AO n co nd W0 kc kb ka ks tb ta live a w) (hc : live kc = true) (ha : live ka = true) (hs : live ks = false) (hd : ks ≠ kc ∧ ks ≠ ka) (hg : B ≤ g) :
    ∃ A' c', a.eval (.tmp ta) = .slice A' (n + 1 : Nat) c' ∧ ApW B g AN nn cn pl s s' f' out AO n co nd W0 kc kb ka ks tb ta (Rgs.upd live ks) a (w.setCell ⟨g, 2, none⟩ (.slice A' (n + 1 : Nat) c')) := by
  have e : ∀ k, ks ≠ k → Rgs.upd live ks k = live k := fun k hk => by unfold Rgs.upd; simp [Ne.symm hk]
  have e1 := e kc hd.1
  have e3 := e ka hd.2
  obtain ⟨A', c', hq, ho⟩ := h.ap ha hs
  have hr := h.r1 hc hs
  refine ⟨A', c', hq, h.bel.setCell (p := ⟨g, 2, none⟩) hg _, by simpa using h.siz, fun e => ?_, fun _ e => absurd e (by rw [Rgs.upd_self]; decide), fun e => ?_, fun _ e => ?_, fun _ e => absurd e (by rw [Rgs.upd_self]; decide), fun _ => ⟨A', c', hr.rows A' (n + 1) c', OwnV.other ho _ _ (OwnV.apart' ho hr (by decide))⟩⟩
  · rw [e1, hc] at e; cases e
  · rw [e3, ha] at e; cases e
  · rw [e3, ha] at e; cases e
end
end Go.Proofs.YtfmndmhjjbeokaaGreatDoor
namespace Go.Proofs.YtfmndmhjjbeokaaGreatDoor
set_option maxRecDepth 100000
open Go.RowKit Tab Txt
set_option linter.unusedSimpArgs false
set_option linter.unusedVariables false
theorem ogb_bel2 {w w2 w3 : World} {g : Nat} (h : w.grownBy w2 (some g)) (k : Below w.heap.size w2 w3) : w.grownBy w3 (some g) :=
  ⟨k.os.trans h.os, k.tape.trans h.tape, k.output.trans h.output, Nat.le_trans h.size k.size, fun i hi hne => (k.block i hi).trans (h.block i hi hne)⟩
theorem apart_rd {E s B B' n c g : Nat} {A : Option Addr} {l : List Value} {st : Option (List UInt8)} {w : World} (h : OwnV E s w B A n c l) (hr : RdrS B' g st w) (hE : E ≠ 79) : obk A ≠ some g := fun e => OwnV.apart h hr hE g e rfl
def ProcX (B g : Nat) (R : Option (List (Int × Int) × List UInt8)) (w : World) (e : Ending) (w' : World) : Prop := ∃ (L : List (Int × Int)) (st' : Option (List UInt8)) (A : Option Addr) (n c : Nat), e = .returned (.slice A n c) ∧ L.length = n ∧ n ≤ 1048577 ∧ OwnV 62 2 w' w.heap.size A n c (L.flatMap prc) ∧ Got R L st' ∧ Rpo B g st' w w'
theorem procsA_I (st : Option (List UInt8)) : procsI (st.bind procsA) [] st := by
  unfold procsI procsA
  cases st with
  | none => rfl
  | some s =>
    show procsS (s.length + 1) s = (procsS (s.length + 1) s).map fun y => ([] ++ y.1, y.2)
    cases procsS (s.length + 1) s with
    | none => rfl
    | some y => rfl
theorem procS_chain {st st1 st3 : Option (List UInt8)} {v1 v2 : Int} (h1 : Got (st.bind numW) v1 st1) (h2 : Got ((st1.bind (takeB 58)).bind numW) v2 st3) : st.bind procS = st3.bind fun s => some ((v1, v2), s) := by
  have e1 := h1.bind fun v s => (takeB 58 s).bind fun r => (numW r).bind fun q => some ((v, q.1), q.2)
  have e2 := h2.bind fun v s => some ((v1, v), s)
  show (st.bind fun s => (numW s).bind fun e => (takeB 58 e.2).bind fun r => (numW r).bind fun q => some ((e.1, q.1), q.2)) = _
  rw [e1, must_bind st1 58 fun r => (numW r).bind fun q => some ((v1, q.1), q.2), e2]
def mrB (v : Value) (k : Nat) : Nat := match v with
  | .bool true => k + 1
  | _ => 0
set_option maxHeartbeats 2000000 in
theorem tprocs_any {B g : Nat} {st : Option (List UInt8)} {w : World} (h : RdrS B g st w) (hl : (st.getD []).length ≤ 1048576) : Calls Tryz.prog 112 #[.pointer (some ⟨g, 0, none⟩)] w (ProcX B g (st.bind procsA) w) := by
  have HI := Lib.hid (procsA_I st)
  have H0 := Lib.hid (Rpo.refl h)
  have HL := Lib.hid hl
  generalize st.bind procsA = R at HI ⊢
  clear h hl
  go_enter Tryz.func112, Tryz.ntmps112
  go_wp2_with fail
  go_loopw [3, 4, 5] (fun o m _ wr => ∃ (A : Option Addr) (n c : Nat) (L : List (Int × Int)) (sn : Option (List UInt8)) (b : Bool), o = .slice A n c ∧ m = .bool b ∧ L.length = n ∧ OwnV 62 2 wr w.heap.size A n c (L.flatMap prc) ∧ Rpo B g sn w wr ∧
    (b = true → procsI R L sn ∧ n + (sn.getD []).length ≤ 1048576) ∧ (b = false → (R = sn.bind fun s => some (L, s)) ∧ n ≤ 1048577)) (fun _ m _ wr => mrB m (lenS wr g))
  case atStart => exact ⟨none, 0, 0, [], st, true, rfl, rfl, rfl, OwnV.nil _ _ _ _, H0.out, fun _ => ⟨HI.out, by have := HL.out; omega⟩, fun e => (by cases e)⟩
  case round =>
    obtain ⟨A, n, c, L, sn, b, rfl, rfl, hL, ho, hr, hyes, hno⟩ := hrel
    have HLn := Lib.hid hL
    have HO := Lib.hid ho
    have HR := Lib.hid hr
    cases b with
    | false =>
      obtain ⟨e1, e2⟩ := hno rfl
      have HG : Hid (Got R L sn) := Lib.hid (by rw [e1]; exact Got.end_ L sn)
      have HN := Lib.hid e2
      clear e1 e2 hno hyes hL ho hr H0 HI
      go_wp2_with fail
      go_ret
      exact ⟨L, sn, A, n, c, rfl, HLn.out, HN.out, HO.out, HG.out, HR.out⟩
    | true =>
      obtain ⟨hi, hn⟩ := hyes rfl
      have HI2 := Lib.hid hi
      have HNB := Lib.hid hn
      have HLS := Lib.hid (lenS_is hr.rd)
      have HN1 := Lib.hid (tnumber_any hr.rd lim40 (Nat.le_refl _))
      have hn2 : n ≤ 1048576 := by omega
      clear hi hn hno hyes hL ho hr H0 HI
      go_wp2_with fail
      refine HN1.out.mono ?_
      rintro e w1 ⟨v1, st1, rfl, hv0, hv1, hg1, h1⟩
      have HG1 := Lib.hid hg1
      have H1 := Lib.hid (HR.out.trans h1)
      have HO1 := Lib.hid (OwnV.gbo HO.out h1.gb (apart_rd HO.out HR.out.rd (by decide)))
      have hw1 : IntKind.i64.wrap v1 = v1 := by rw [IntKind.wrap_i64]; omega
      have HM := Lib.hid (tmust_any h1.rd 58 58 rfl)
      clear hg1 h1 HN1 hv0 hv1 HO HR
      go_wp2_with fail
      refine HM.out.mono ?_
      rintro e w2 ⟨rfl, h2⟩
      have H2 := Lib.hid (H1.out.trans h2)
      have HO2 := Lib.hid (OwnV.gbo HO1.out h2.gb (apart_rd HO1.out H1.out.rd (by decide)))
      have HN2 := Lib.hid (tnumber_any h2.rd lim40 (Nat.le_refl _))
      clear h2 HM HO1 H1
      have hbd0 : ∀ x : Int, Tryz.prog.built 62 [(0, .int .i64 v1), (1, .int .i64 x)] = some #[.int .i64 v1, .int .i64 x] := fun x => rfl
      have HBD := Lib.hid hbd0
      clear hbd0
      go_wp2_with fail
      refine HN2.out.mono ?_
      rintro e w3 ⟨v2, st3, rfl, hv0, hv1, hg2, h3⟩
      have HP : Hid (sn.bind procS = st3.bind fun s => some ((v1, v2), s)) := Lib.hid (procS_chain HG1.out hg2)
      have hr3 := H2.out.trans h3
      have H3 := Lib.hid hr3
      have ho3 := OwnV.gbo HO2.out h3.gb (apart_rd HO2.out H2.out.rd (by decide))
      have hw2 : IntKind.i64.wrap v2 = v2 := by rw [IntKind.wrap_i64]; omega
      have hbd := HBD.out v2
      have hbl := bl1 w3 (.cells #[.int .i64 v1, .int .i64 v2] 62)
      have hown := ho3.below rfl hbl
      have hrB := OwnV.below hr3.rd rfl hbl
      have hr2 := rdV_new w3 #[.int .i64 v1, .int .i64 v2] 62 ([(v1, v2)].flatMap prc) rfl
      have hsz : w.heap.size ≤ (w3.alloc (.cells #[.int .i64 v1, .int .i64 v2] 62)).heap.size := Nat.le_trans hr3.gb.size hbl.size
      have HFI : Hid (∀ A4 w4, Below w.heap.size (w3.alloc (.cells #[.int .i64 v1, .int .i64 v2] 62)) w4 → Grew A A4 (w3.alloc (.cells #[.int .i64 v1, .int .i64 v2] 62)) w4 → Rpo B g st3 w w4) := Lib.hid fun A4 w4 hb hg => ⟨OwnV.grown hrB hown (by decide) hg, ogb_bel2 (ogb_bel2 hr3.gb (hbl.mono hr3.gb.size)) hb⟩
      clear hg2 h3 hv0 hv1 ho3 hrB hr3 HN2 H2 HO2 HG1 HBD hbl
      go_wp2_with (at_builtin; go_loud (refine wpList_appX elPc rfl (.tmp 13) (.tmp 18) rfl rfl w.heap.size A n c _ rfl hown _ 1 1 _ _ rfl hr2 rfl Nat.one_pos (prc_one [(v1, v2)]) (by omega) (by unfold maxLen; omega) hsz (n + 1) rfl ((L ++ [(v1, v2)]).flatMap prc) (by rw [List.flatMap_append]) ?_; intro A4 c4 w4 hw4 hb4 hg4))
      have H4 := Lib.hid (HFI.out A4 w4 hb4 hg4)
      have HO4 := Lib.hid hw4
      have HL4 : Hid ((L ++ [(v1, v2)]).length = n + 1) := Lib.hid (by rw [List.length_append, HLn.out]; rfl)
      have HNX := Lib.hid (procsI_next HI2.out HP.out)
      clear hw4 hb4 hg4 HFI hown hr2 hsz
      cases hq : st3.bind (takeB 44) with
      | some r =>
        have HT := Lib.hid (ttake_yes H4.out.rd 44 44 rfl hq)
        have HI5 := Lib.hid (HNX.out.1 r hq)
        have HLT : Hid (n + 1 + r.length ≤ 1048576 ∧ r.length < (sn.getD []).length) := Lib.hid (by
          cases st3 with
          | none => cases hq
          | some s3 =>
            have hp := HP.out
            cases sn with
            | none => cases hp
            | some s =>
              have a1 := procS_le (s := s) (x := ((v1, v2), s3)) hp
              have a2 := congrArg List.length (takeB_some (show takeB 44 s3 = some r from hq))
              have a3 := HNB.out
              rw [List.length_cons] at a2
              rw [Option.getD_some] at a3 ⊢
              dsimp only at a1
              omega)
        clear hq HNX HP
        go_wp2_with fail
        refine HT.out.mono ?_
        rintro e w5 ⟨rfl, h5⟩
        have H5 := Lib.hid (H4.out.trans h5)
        have HO5 := Lib.hid (OwnV.gbo HO4.out h5.gb (apart_rd HO4.out H4.out.rd (by decide)))
        clear h5 HT HO4
        go_wp2_with fail
        go_roundw
        case rel => exact ⟨A4, n + 1, c4, L ++ [(v1, v2)], some r, true, rfl, rfl, HL4.out, HO5.out, H5.out, fun _ => ⟨HI5.out, HLT.out.1⟩, fun e => (by cases e)⟩
        case measure => have a1 := HLT.out.2; have a2 := HLS.out; have a3 := lenS_is H5.out.rd; rw [Option.getD_some] at a3; simp only [mrB]; omega
      | none =>
        have HT := Lib.hid (ttake_no H4.out.rd 44 44 rfl hq)
        have HI5 := Lib.hid (HNX.out.2 hq)
        have HNN : Hid (n + 1 ≤ 1048577) := Lib.hid (by have := HNB.out; omega)
        clear hq HNX HP
        go_wp2_with fail
        refine HT.out.mono ?_
        rintro e w5 ⟨rfl, h5⟩
        have H5 := Lib.hid (H4.out.trans h5)
        have HO5 := Lib.hid (OwnV.gbo HO4.out h5.gb (apart_rd HO4.out H4.out.rd (by decide)))
        clear h5 HT HO4
        go_wp2_with fail
        go_roundw
        case rel => exact ⟨A4, n + 1, c4, L ++ [(v1, v2)], st3, false, rfl, rfl, HL4.out, HO5.out, H5.out, fun e => (by cases e), fun _ => ⟨HI5.out, HNN.out⟩⟩
        case measure => simp only [mrB]; omega
end Go.Proofs.YtfmndmhjjbeokaaGreatDoor
