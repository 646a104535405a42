/- Law 15's same: what package isa answers is what the document says. -/
import Derived.Test.YtomaommamjhmmaaDoorJe
import Derived.Deep.CutRange
namespace Go.Proofs.YtomaommamjhmmaaDoor
set_option maxRecDepth 100000
open Go.RowKit
set_option linter.unusedSimpArgs false
set_option linter.unusedVariables false

/-- An instruction's four cells. -/
structure Fo (w : World) (g : Nat) (x : InsV) : Prop where
  c0 : w.cell? ⟨g, 0, none⟩ = some (.int .i64 x.o)
  c1 : w.cell? ⟨g, 1, none⟩ = some (.int .i64 x.a)
  c2 : w.cell? ⟨g, 2, none⟩ = some (.int .i64 x.b)
  c3 : w.cell? ⟨g, 3, none⟩ = some (.int .i64 x.c)
theorem Fo.on {w w' : World} {g : Nat} {x : InsV} (h : Fo w g x) (hb : Below w.heap.size w w') : Fo w' g x :=
  have hl : g < w.heap.size := World.block_lt_of_cell? w _ h.c0
  ⟨(hb.cell (p := ⟨g, 0, none⟩) hl).trans h.c0, (hb.cell (p := ⟨g, 1, none⟩) hl).trans h.c1, (hb.cell (p := ⟨g, 2, none⟩) hl).trans h.c2, (hb.cell (p := ⟨g, 3, none⟩) hl).trans h.c3⟩
theorem fo_new (w : World) (o a b c : Int) : Fo (w.alloc (.cells #[.int .i64 o, .int .i64 a, .int .i64 b, .int .i64 c] 26)) w.heap.size ⟨o, a, b, c⟩ :=
  ⟨World.cell?_alloc_mark _ _ _ _ _, World.cell?_alloc_mark _ _ _ _ _, World.cell?_alloc_mark _ _ _ _ _, World.cell?_alloc_mark _ _ _ _ _⟩
theorem low8_eq' (z : Int) : IntKind.u8.wrap z = ((low8 z).toNat : Int) := by
  simp only [IntKind.wrap, IntKind.bits, IntKind.signed]
  unfold low8
  simp
  omega
theorem two_rd (w : World) (x y : InsV) : RdB ic (w.alloc (.cells #[.int .i64 x.o, .int .i64 x.a, .int .i64 x.b, .int .i64 x.c, .int .i64 y.o, .int .i64 y.a, .int .i64 y.b, .int .i64 y.c] 26)) (w.alloc (.cells #[.int .i64 x.o, .int .i64 x.a, .int .i64 x.b, .int .i64 x.c, .int .i64 y.o, .int .i64 y.a, .int .i64 y.b, .int .i64 y.c] 26)).heap.size (some ⟨w.heap.size, 0, none⟩) 2 [x, y] :=
  ⟨rfl, rdV_new w #[.int .i64 x.o, .int .i64 x.a, .int .i64 x.b, .int .i64 x.c, .int .i64 y.o, .int .i64 y.a, .int .i64 y.b, .int .i64 y.c] 26 ([x, y].flatMap ic) rfl⟩
set_option maxHeartbeats 4000000 in
theorem same15_any (H : IsaW) (A : Option Addr) (n k : Nat) (l : List UInt8) (pc : Int) (x : InsV) (w : World) (h : Rd w w.heap.size A n l) (hn : n ≤ 140737488355328) (hk : n ≤ k) (hp : -9223372036854775808 ≤ pc ∧ pc ≤ 9223372036854775807) (hnw : NamW w) :
    Calls Tryd.prog 8 #[.slice A n k, .int .i64 pc, iv x] w (Ans (.bool true) w) := by
  have CF := Lib.hid fun V (hv : Below w.heap.size w V) => H.fetch A n k l pc V ((h.below hv).more hv.size) hn hk hp
  have CG := Lib.hid fun V (hv : Below w.heap.size w V) => rfetch_any A n k l pc V ((h.below hv).more hv.size) hn hk hp
  generalize fetF l pc = F at CF CG
  generalize fetB l pc = bb at CF CG
  have CR := Lib.hid fun V => H.right x V
  have CS := Lib.hid fun V => rright_any x V
  have CI : Hid (rightF x = true → ∀ V, Calls Tryd.prog 15 #[iv x] V (Ans (.int .u32 (immF x)) V)) := Lib.hid fun e V => H.imm x V
  have CJ := Lib.hid fun V => rimm_any x V
  have CN := Lib.hid fun V (hv : Below w.heap.size w V) => H.name x.o V (hnw.on hv)
  have CB : Hid (∀ B V, RdB ic V V.heap.size B 2 [x, F] → Calls Tryd.prog 11 #[.slice B 2 2] V (ByI ([low8 x.o, low8 x.a, low8 x.b, low8 x.c, low8 F.o, low8 F.a, low8 F.b, low8 F.c]) V)) := Lib.hid fun B V hr => H.bytes B 2 2 [x, F] V hr (by omega) (by omega)
  generalize rightF x = r at CR CS CI
  generalize immF x = im at CI CJ
  have HN0 : Hid (x.o < 0 → nameO x.o = ⟨#[]⟩) := Lib.hid fun e => by unfold nameO; rw [if_neg (by omega)]
  have HN1 : Hid (∀ p : Nat, x.o = (p : Int) → 18 ≤ p → nameO x.o = ⟨#[]⟩) := Lib.hid fun p e hp => by
    unfold nameO
    rw [if_pos (by omega), e, Int.toNat_natCast, List.getElem?_eq_none (by show 18 ≤ p; exact hp)]
    rfl
  have HN2 : Hid (∀ p : Nat, x.o = (p : Int) → p < 18 → opL[p]? = some (nameO x.o)) := Lib.hid fun p e hp => by
    have h1 : opL[p]? = some (opL[p]'(by show p < 18; exact hp)) := List.getElem?_eq_getElem _
    unfold nameO
    rw [if_pos (by omega), e, Int.toNat_natCast, h1]
    rfl
  generalize nameO x.o = nm at CN HN0 HN1 HN2
  obtain ⟨o, a1, a2, a3⟩ := x
  obtain ⟨fo, f1, f2, f3⟩ := F
  have QF := Lib.hid fun W => in_eqs ⟨fo, f1, f2, f3⟩ ⟨fo, f1, f2, f3⟩ W
  unfold iv at CF CG CR CS CI CJ QF ⊢
  dsimp only at CF CG CR CS CI CJ CN CB HN0 HN1 HN2 QF ⊢
  rw [decide_eq_true rfl] at QF
  have v0 := low8_eq' o
  have v1 := low8_eq' a1
  have v2 := low8_eq' a2
  have v3 := low8_eq' a3
  have u0 := low8_eq' fo
  have u1 := low8_eq' f1
  have u2 := low8_eq' f2
  have u3 := low8_eq' f3
  generalize low8 o = p0 at v0 CB
  generalize low8 a1 = p1 at v1 CB
  generalize low8 a2 = p2 at v2 CB
  generalize low8 a3 = p3 at v3 CB
  generalize low8 fo = q0 at u0 CB
  generalize low8 f1 = q1 at u1 CB
  generalize low8 f2 = q2 at u2 CB
  generalize low8 f3 = q3 at u3 CB
  have HV := Lib.hid (And.intro v0 (And.intro v1 (And.intro v2 (And.intro v3 (And.intro u0 (And.intro u1 (And.intro u2 u3)))))))
  clear v0 v1 v2 v3 u0 u1 u2 u3 h hn hk hp hnw
  have hb0 := bl1 w (.cells #[.int .i64 o, .int .i64 a1, .int .i64 a2, .int .i64 a3] 26)
  have hf0 := fo_new w o a1 a2 a3
  go_enter Tryd.func8, Tryd.ntmps8
  go_upto_region 1 with fail
  generalize w.alloc (.cells #[.int .i64 o, .int .i64 a1, .int .i64 a2, .int .i64 a3] 26) = W0 at hb0 hf0 ⊢
  obtain ⟨g5, hg⟩ : ∃ g, g = w.heap.size := ⟨_, rfl⟩
  rw [← hg] at hf0 ⊢
  clear hg
  have HB0 := Lib.hid hb0
  have HF0 := Lib.hid hf0
  clear hb0 hf0
  go_upto_region 2 with (go_at_call 12; refine (CF.out W0 HB0.out).mono ?_; rintro e w1 ⟨rfl, hb1⟩)
  have hbx := bl1 w1 (.cells #[.int .i64 fo, .int .i64 f1, .int .i64 f2, .int .i64 f3] 26)
  have hbz := hb1.trans (hbx.mono hb1.size)
  have HF5 := Lib.hid (HF0.out.on hbz)
  have HB1 := Lib.hid (HB0.out.trans (hbz.mono HB0.out.size))
  have HF7 := Lib.hid (fo_new w1 fo f1 f2 f3)
  generalize w1.alloc (.cells #[.int .i64 fo, .int .i64 f1, .int .i64 f2, .int .i64 f3] 26) = W1 at HF5 HB1 HF7 ⊢
  generalize w1.heap.size = g7 at HF7 ⊢
  clear hb1 hbx hbz HF0 HB0 CF
  go_upto_region 3 with (go_at_call 10; refine (CG.out W1 HB1.out).mono ?_; rintro e w2 ⟨rfl, hb1⟩)
  have hbx := bl1 w2 (.cells #[.int .i64 fo, .int .i64 f1, .int .i64 f2, .int .i64 f3] 26)
  have hbz := hb1.trans (hbx.mono hb1.size)
  have HFA := Lib.hid (HF5.out.on hbz)
  have HFB := Lib.hid (HF7.out.on hbz)
  have HB2 := Lib.hid (HB1.out.trans (hbz.mono HB1.out.size))
  have HFC := Lib.hid (fo_new w2 fo f1 f2 f3)
  generalize w2.alloc (.cells #[.int .i64 fo, .int .i64 f1, .int .i64 f2, .int .i64 f3] 26) = W2 at HFA HFB HB2 HFC ⊢
  generalize w2.heap.size = g9 at HFC ⊢
  clear hb1 hbx hbz HF5 HF7 HB1 CG
  have HEND : Hid (∀ V, Below W2.heap.size W2 V → Fo V g5 ⟨o, a1, a2, a3⟩ ∧ Fo V g7 ⟨fo, f1, f2, f3⟩ ∧ Fo V g9 ⟨fo, f1, f2, f3⟩ ∧ Below w.heap.size w V) := Lib.hid fun V hv => ⟨HFA.out.on hv, HFB.out.on hv, HFC.out.on hv, HB2.out.trans (hv.mono HB2.out.size)⟩
  clear HFA HFB HFC HB2
  go_upto_region 4 with fail
  obtain ⟨tt, hta, htb, htc, htd⟩ : ∃ tt : Bool, (∀ p : Nat, o = (p : Int) → p < 18 → tt = true) ∧ ((o < 0 ∨ ∃ p : Nat, o = (p : Int) ∧ 18 ≤ p) → tt = false) ∧ (tt = true → ∃ p : Nat, o = (p : Int) ∧ p < 18) ∧ (tt = false → nm = ⟨#[]⟩) := by
    by_cases h0 : 0 ≤ o
    · obtain ⟨p, e⟩ := Int.eq_ofNat_of_zero_le h0
      by_cases h1 : p < 18
      · exact ⟨true, fun _ _ _ => rfl, fun h => by rcases h with h | ⟨p', e', h⟩ <;> omega, fun _ => ⟨p, e, h1⟩, fun h => (by cases h)⟩
      · exact ⟨false, fun p' e' h => by omega, fun _ => rfl, fun h => (by cases h), fun _ => HN1.out p e (by omega)⟩
    · exact ⟨false, fun p' e' h => by omega, fun _ => rfl, fun h => (by cases h), fun _ => HN0.out (by omega)⟩
  have HTA := Lib.hid hta
  have HTB := Lib.hid htb
  have HTC := Lib.hid htc
  have HTD := Lib.hid htd
  clear hta htb htc htd HN0 HN1
  go_cut [33] from 24 to 33 (fun c wx => c = .bool tt ∧ Below W2.heap.size W2 wx)
  case first =>
    obtain ⟨f5, f7, f9, hbw⟩ := HEND.out W2 (Below.refl _ _)
    have HF5 := Lib.hid f5
    clear f7 f9 hbw f5
    by_cases h0 : 0 ≤ o
    · obtain ⟨p, rfl⟩ := Int.eq_ofNat_of_zero_le h0
      by_cases h1 : p < 18
      · obtain rfl := HTA.out p rfl h1
        have hp1 : (p : Int) < 18 := by omega
        refine Rgs.region (by kernel_rfl) (by kernel_rfl) (fun (opn : Nat) (vl : Value) (wv : World) => match opn with
            | 0 => vl = .pointer (some ⟨g5, 0, none⟩)
            | 1 => vl = .int .i64 (p : Int)
            | 2 => vl = .bool true
            | 3 => vl = .bool true
            | 4 => vl = .pointer (some ⟨g5, 0, none⟩)
            | 5 => vl = .int .i64 (p : Int)
            | 6 => ∃ g, vl = .slice (some ⟨g, 0, none⟩) 18 18 ∧ ∀ i s, opL[i]? = some s → wv.cell? ⟨g, i, none⟩ = some (.string s)
            | 7 => vl = .int .i64 18
            | 8 => vl = .bool true
            | 9 => vl = .bool true
            | _ => True) (fun _ _ wv => Below W2.heap.size W2 wv) (Below.refl _ _).drew (Rgs.steps_of ?_) ?_
        · refine ⟨?_, ?_, ?_, ?_, ?_, ?_, ?_, ?_, ?_, ?_, trivial⟩
          · intro a w1 live S E D C2 h0 hk hW
            have e5 : a.eval (.tmp 5) = .pointer (some ⟨g5, 0, none⟩) := E 5 rfl
            exact Rgs.val rfl (Reg.wanted_free rfl) (.pointer (some ⟨g5, 0, none⟩)) (by have c := Reg.consts a; generalize a.eval = ρ at *; simp [execOp, go_sem, c.1, c.2, e5]) rfl hW
          · intro a w1 live S E D C2 h0 hk hW
            have d0 : a.eval (.tmp 24) = .pointer (some ⟨g5, 0, none⟩) := D 0 rfl _ _ rfl rfl
            have hc0 := (HF5.out.on hW).c0
            exact Rgs.val rfl (Reg.wanted_free rfl) (.int .i64 (p : Int)) (by have c := Reg.consts a; generalize a.eval = ρ at *; simp [execOp, go_sem, c.1, c.2, d0, hc0]) rfl hW
          · intro a w1 live S E D C2 h0 hk hW
            have d1 : a.eval (.tmp 25) = .int .i64 (p : Int) := D 1 rfl _ _ rfl rfl
            exact Rgs.val rfl (Reg.wanted_free rfl) (.bool true) (by have c := Reg.consts a; generalize a.eval = ρ at *; simp [execOp, go_sem, c.1, c.2, d1]) rfl hW
          · intro a w1 live S E D C2 h0 hk hW
            have d2 : a.eval (.tmp 26) = .bool true := D 2 rfl _ _ rfl rfl
            exact Rgs.val rfl (Reg.wanted_free rfl) (.bool true) (by have c := Reg.consts a; generalize a.eval = ρ at *; simp [execOp, go_sem, c.1, c.2, d2]) rfl hW
          · intro a w1 live S E D C2 h0 hk hW
            have dg : a.eval (.tmp 27) = .bool true := D 3 rfl _ _ rfl rfl
            have e5 : a.eval (.tmp 5) = .pointer (some ⟨g5, 0, none⟩) := E 5 rfl
            exact Rgs.val rfl (Reg.wanted_if rfl rfl dg rfl) (.pointer (some ⟨g5, 0, none⟩)) (by have c := Reg.consts a; generalize a.eval = ρ at *; simp [execOp, go_sem, c.1, c.2, e5]) rfl hW
          · intro a w1 live S E D C2 h0 hk hW
            have dg : a.eval (.tmp 27) = .bool true := D 3 rfl _ _ rfl rfl
            have d4 : a.eval (.tmp 28) = .pointer (some ⟨g5, 0, none⟩) := D 4 rfl _ _ rfl rfl
            have hc0 := (HF5.out.on hW).c0
            exact Rgs.val rfl (Reg.wanted_if rfl rfl dg rfl) (.int .i64 (p : Int)) (by have c := Reg.consts a; generalize a.eval = ρ at *; simp [execOp, go_sem, c.1, c.2, d4, hc0]) rfl hW
          · intro a w1 live S E D C2 h0 hk hW
            have dg : a.eval (.tmp 27) = .bool true := D 3 rfl _ _ rfl rfl
            refine Rgs.call rfl (Reg.wanted_if rfl rfl dg rfl) 16 #[] (by have c := Reg.consts a; generalize a.eval = ρ at *; simp [execOp, go_sem, c.1, c.2, go_sem]) ?_
            refine (lnames_any w1).mono ?_
            rintro e w5 ⟨g, rfl, _, _, hc5, hb5⟩
            exact ⟨_, rfl, ⟨g, rfl, hc5⟩, hW.trans (hb5.mono hW.size), (fun jq vq _ hq => by
              revert hq
              match jq with
              | 6 => exact fun ⟨g, e1, e2⟩ => ⟨g, e1, fun i s h => (hb5.cell (p := ⟨g, i, none⟩) (World.block_lt_of_cell? _ _ (e2 i s h))).trans (e2 i s h)⟩
              | 0 | 1 | 2 | 3 | 4 | 5 | 7 | 8 | 9 | _ + 10 => exact fun hq => hq)⟩
          · intro a w1 live S E D C2 h0 hk hW
            have dg : a.eval (.tmp 27) = .bool true := D 3 rfl _ _ rfl rfl
            obtain ⟨g6, d6, r6⟩ := D 6 rfl _ _ rfl rfl
            exact Rgs.val rfl (Reg.wanted_if rfl rfl dg rfl) (.int .i64 18) (by have c := Reg.consts a; generalize a.eval = ρ at *; simp [execOp, go_sem, c.1, c.2, d6]) rfl hW
          · intro a w1 live S E D C2 h0 hk hW
            have dg : a.eval (.tmp 27) = .bool true := D 3 rfl _ _ rfl rfl
            have d5 : a.eval (.tmp 29) = .int .i64 (p : Int) := D 5 rfl _ _ rfl rfl
            have d7 : a.eval (.tmp 31) = .int .i64 18 := D 7 rfl _ _ rfl rfl
            exact Rgs.val rfl (Reg.wanted_if rfl rfl dg rfl) (.bool true) (by have c := Reg.consts a; generalize a.eval = ρ at *; simp [execOp, go_sem, c.1, c.2, d5, d7, hp1]) rfl hW
          · intro a w1 live S E D C2 h0 hk hW
            have d3 : a.eval (.tmp 27) = .bool true := D 3 rfl _ _ rfl rfl
            have d8 : a.eval (.tmp 32) = .bool true := D 8 rfl _ _ rfl rfl
            exact Rgs.val rfl (Reg.wanted_free rfl) (.bool true) (by have c := Reg.consts a; generalize a.eval = ρ at *; simp [execOp, go_sem, c.1, c.2, d3, d8]) rfl hW
        · intro a w9 live hs hd E D Hl hW
          have x33 : a.eval (.tmp 33) = .bool true := by
            obtain ⟨v, hv, he⟩ := D 9 _ rfl
            exact (he 33 rfl).trans hv
          rw [Rgs.act_ws a _ _ hs hd E [24, 25, 26, 27, 28, 29, 30, 31, 32, 33] (by kernel_rfl)]
          simp only [List.foldl, List.setIfInBounds_toArray, List.set_cons_succ, List.set_cons_zero, x33]
          have HZ9 := hW
          have HW9 := Lib.hid hW
          clear E D Hl hW x33 
          generalize a.eval = ρ
          clear a hs hd
          go_wp2_with fail
          go_meet
          exact ⟨rfl, HW9.out⟩
      · obtain rfl := HTB.out (.inr ⟨p, rfl, by omega⟩)
        have hp1 : ¬ (p : Int) < 18 := by omega
        refine Rgs.region (by kernel_rfl) (by kernel_rfl) (fun (opn : Nat) (vl : Value) (wv : World) => match opn with
            | 0 => vl = .pointer (some ⟨g5, 0, none⟩)
            | 1 => vl = .int .i64 (p : Int)
            | 2 => vl = .bool true
            | 3 => vl = .bool true
            | 4 => vl = .pointer (some ⟨g5, 0, none⟩)
            | 5 => vl = .int .i64 (p : Int)
            | 6 => ∃ g, vl = .slice (some ⟨g, 0, none⟩) 18 18 ∧ ∀ i s, opL[i]? = some s → wv.cell? ⟨g, i, none⟩ = some (.string s)
            | 7 => vl = .int .i64 18
            | 8 => vl = .bool false
            | 9 => vl = .bool false
            | _ => True) (fun _ _ wv => Below W2.heap.size W2 wv) (Below.refl _ _).drew (Rgs.steps_of ?_) ?_
        · refine ⟨?_, ?_, ?_, ?_, ?_, ?_, ?_, ?_, ?_, ?_, trivial⟩
          · intro a w1 live S E D C2 h0 hk hW
            have e5 : a.eval (.tmp 5) = .pointer (some ⟨g5, 0, none⟩) := E 5 rfl
            exact Rgs.val rfl (Reg.wanted_free rfl) (.pointer (some ⟨g5, 0, none⟩)) (by have c := Reg.consts a; generalize a.eval = ρ at *; simp [execOp, go_sem, c.1, c.2, e5]) rfl hW
          · intro a w1 live S E D C2 h0 hk hW
            have d0 : a.eval (.tmp 24) = .pointer (some ⟨g5, 0, none⟩) := D 0 rfl _ _ rfl rfl
            have hc0 := (HF5.out.on hW).c0
            exact Rgs.val rfl (Reg.wanted_free rfl) (.int .i64 (p : Int)) (by have c := Reg.consts a; generalize a.eval = ρ at *; simp [execOp, go_sem, c.1, c.2, d0, hc0]) rfl hW
          · intro a w1 live S E D C2 h0 hk hW
            have d1 : a.eval (.tmp 25) = .int .i64 (p : Int) := D 1 rfl _ _ rfl rfl
            exact Rgs.val rfl (Reg.wanted_free rfl) (.bool true) (by have c := Reg.consts a; generalize a.eval = ρ at *; simp [execOp, go_sem, c.1, c.2, d1]) rfl hW
          · intro a w1 live S E D C2 h0 hk hW
            have d2 : a.eval (.tmp 26) = .bool true := D 2 rfl _ _ rfl rfl
            exact Rgs.val rfl (Reg.wanted_free rfl) (.bool true) (by have c := Reg.consts a; generalize a.eval = ρ at *; simp [execOp, go_sem, c.1, c.2, d2]) rfl hW
          · intro a w1 live S E D C2 h0 hk hW
            have dg : a.eval (.tmp 27) = .bool true := D 3 rfl _ _ rfl rfl
            have e5 : a.eval (.tmp 5) = .pointer (some ⟨g5, 0, none⟩) := E 5 rfl
            exact Rgs.val rfl (Reg.wanted_if rfl rfl dg rfl) (.pointer (some ⟨g5, 0, none⟩)) (by have c := Reg.consts a; generalize a.eval = ρ at *; simp [execOp, go_sem, c.1, c.2, e5]) rfl hW
          · intro a w1 live S E D C2 h0 hk hW
            have dg : a.eval (.tmp 27) = .bool true := D 3 rfl _ _ rfl rfl
            have d4 : a.eval (.tmp 28) = .pointer (some ⟨g5, 0, none⟩) := D 4 rfl _ _ rfl rfl
            have hc0 := (HF5.out.on hW).c0
            exact Rgs.val rfl (Reg.wanted_if rfl rfl dg rfl) (.int .i64 (p : Int)) (by have c := Reg.consts a; generalize a.eval = ρ at *; simp [execOp, go_sem, c.1, c.2, d4, hc0]) rfl hW
          · intro a w1 live S E D C2 h0 hk hW
            have dg : a.eval (.tmp 27) = .bool true := D 3 rfl _ _ rfl rfl
            refine Rgs.call rfl (Reg.wanted_if rfl rfl dg rfl) 16 #[] (by have c := Reg.consts a; generalize a.eval = ρ at *; simp [execOp, go_sem, c.1, c.2, go_sem]) ?_
            refine (lnames_any w1).mono ?_
            rintro e w5 ⟨g, rfl, _, _, hc5, hb5⟩
            exact ⟨_, rfl, ⟨g, rfl, hc5⟩, hW.trans (hb5.mono hW.size), (fun jq vq _ hq => by
              revert hq
              match jq with
              | 6 => exact fun ⟨g, e1, e2⟩ => ⟨g, e1, fun i s h => (hb5.cell (p := ⟨g, i, none⟩) (World.block_lt_of_cell? _ _ (e2 i s h))).trans (e2 i s h)⟩
              | 0 | 1 | 2 | 3 | 4 | 5 | 7 | 8 | 9 | _ + 10 => exact fun hq => hq)⟩
          · intro a w1 live S E D C2 h0 hk hW
            have dg : a.eval (.tmp 27) = .bool true := D 3 rfl _ _ rfl rfl
            obtain ⟨g6, d6, r6⟩ := D 6 rfl _ _ rfl rfl
            exact Rgs.val rfl (Reg.wanted_if rfl rfl dg rfl) (.int .i64 18) (by have c := Reg.consts a; generalize a.eval = ρ at *; simp [execOp, go_sem, c.1, c.2, d6]) rfl hW
          · intro a w1 live S E D C2 h0 hk hW
            have dg : a.eval (.tmp 27) = .bool true := D 3 rfl _ _ rfl rfl
            have d5 : a.eval (.tmp 29) = .int .i64 (p : Int) := D 5 rfl _ _ rfl rfl
            have d7 : a.eval (.tmp 31) = .int .i64 18 := D 7 rfl _ _ rfl rfl
            exact Rgs.val rfl (Reg.wanted_if rfl rfl dg rfl) (.bool false) (by have c := Reg.consts a; generalize a.eval = ρ at *; simp [execOp, go_sem, c.1, c.2, d5, d7, hp1]) rfl hW
          · intro a w1 live S E D C2 h0 hk hW
            have d3 : a.eval (.tmp 27) = .bool true := D 3 rfl _ _ rfl rfl
            have d8 : a.eval (.tmp 32) = .bool false := D 8 rfl _ _ rfl rfl
            exact Rgs.val rfl (Reg.wanted_free rfl) (.bool false) (by have c := Reg.consts a; generalize a.eval = ρ at *; simp [execOp, go_sem, c.1, c.2, d3, d8]) rfl hW
        · intro a w9 live hs hd E D Hl hW
          have x33 : a.eval (.tmp 33) = .bool false := by
            obtain ⟨v, hv, he⟩ := D 9 _ rfl
            exact (he 33 rfl).trans hv
          rw [Rgs.act_ws a _ _ hs hd E [24, 25, 26, 27, 28, 29, 30, 31, 32, 33] (by kernel_rfl)]
          simp only [List.foldl, List.setIfInBounds_toArray, List.set_cons_succ, List.set_cons_zero, x33]
          have HZ9 := hW
          have HW9 := Lib.hid hW
          clear E D Hl hW x33 
          generalize a.eval = ρ
          clear a hs hd
          go_wp2_with fail
          go_meet
          exact ⟨rfl, HW9.out⟩
    · obtain rfl := HTB.out (.inl (by omega))
      have h0n : o < 0 := by omega
      refine Rgs.region (by kernel_rfl) (by kernel_rfl) (fun (opn : Nat) (vl : Value) (wv : World) => match opn with
          | 0 => vl = .pointer (some ⟨g5, 0, none⟩)
          | 1 => vl = .int .i64 o
          | 2 => vl = .bool false
          | 3 => vl = .bool false
          | 4 => vl = undef
          | 5 => vl = undef
          | 6 => vl = undef
          | 7 => vl = undef
          | 8 => vl = undef
          | 9 => vl = .bool false
          | _ => True) (fun _ _ wv => Below W2.heap.size W2 wv) (Below.refl _ _).drew (Rgs.steps_of ?_) ?_
      · refine ⟨?_, ?_, ?_, ?_, ?_, ?_, ?_, ?_, ?_, ?_, trivial⟩
        · intro a w1 live S E D C2 h0 hk hW
          have e5 : a.eval (.tmp 5) = .pointer (some ⟨g5, 0, none⟩) := E 5 rfl
          exact Rgs.val rfl (Reg.wanted_free rfl) (.pointer (some ⟨g5, 0, none⟩)) (by have c := Reg.consts a; generalize a.eval = ρ at *; simp [execOp, go_sem, c.1, c.2, e5]) rfl hW
        · intro a w1 live S E D C2 h0 hk hW
          have d0 : a.eval (.tmp 24) = .pointer (some ⟨g5, 0, none⟩) := D 0 rfl _ _ rfl rfl
          have hc0 := (HF5.out.on hW).c0
          exact Rgs.val rfl (Reg.wanted_free rfl) (.int .i64 o) (by have c := Reg.consts a; generalize a.eval = ρ at *; simp [execOp, go_sem, c.1, c.2, d0, hc0]) rfl hW
        · intro a w1 live S E D C2 h0 hk hW
          have d1 : a.eval (.tmp 25) = .int .i64 o := D 1 rfl _ _ rfl rfl
          exact Rgs.val rfl (Reg.wanted_free rfl) (.bool false) (by have c := Reg.consts a; generalize a.eval = ρ at *; simp [execOp, go_sem, c.1, c.2, d1, h0n]) rfl hW
        · intro a w1 live S E D C2 h0 hk hW
          have d2 : a.eval (.tmp 26) = .bool false := D 2 rfl _ _ rfl rfl
          exact Rgs.val rfl (Reg.wanted_free rfl) (.bool false) (by have c := Reg.consts a; generalize a.eval = ρ at *; simp [execOp, go_sem, c.1, c.2, d2]) rfl hW
        · intro a w1 live S E D C2 h0 hk hW
          have dg : a.eval (.tmp 27) = .bool false := D 3 rfl _ _ rfl rfl
          exact Rgs.skip rfl (Rgs.wanted_not rfl rfl dg rfl) rfl hW
        · intro a w1 live S E D C2 h0 hk hW
          have dg : a.eval (.tmp 27) = .bool false := D 3 rfl _ _ rfl rfl
          exact Rgs.skip rfl (Rgs.wanted_not rfl rfl dg rfl) rfl hW
        · intro a w1 live S E D C2 h0 hk hW
          have dg : a.eval (.tmp 27) = .bool false := D 3 rfl _ _ rfl rfl
          exact Rgs.skip rfl (Rgs.wanted_not rfl rfl dg rfl) rfl hW
        · intro a w1 live S E D C2 h0 hk hW
          have dg : a.eval (.tmp 27) = .bool false := D 3 rfl _ _ rfl rfl
          exact Rgs.skip rfl (Rgs.wanted_not rfl rfl dg rfl) rfl hW
        · intro a w1 live S E D C2 h0 hk hW
          have dg : a.eval (.tmp 27) = .bool false := D 3 rfl _ _ rfl rfl
          exact Rgs.skip rfl (Rgs.wanted_not rfl rfl dg rfl) rfl hW
        · intro a w1 live S E D C2 h0 hk hW
          have d3 : a.eval (.tmp 27) = .bool false := D 3 rfl _ _ rfl rfl
          exact Rgs.val rfl (Reg.wanted_free rfl) (.bool false) (by have c := Reg.consts a; generalize a.eval = ρ at *; simp [execOp, go_sem, c.1, c.2, d3]) rfl hW
      · intro a w9 live hs hd E D Hl hW
        have x33 : a.eval (.tmp 33) = .bool false := by
          obtain ⟨v, hv, he⟩ := D 9 _ rfl
          exact (he 33 rfl).trans hv
        rw [Rgs.act_ws a _ _ hs hd E [24, 25, 26, 27, 28, 29, 30, 31, 32, 33] (by kernel_rfl)]
        simp only [List.foldl, List.setIfInBounds_toArray, List.set_cons_succ, List.set_cons_zero, x33]
        have HZ9 := hW
        have HW9 := Lib.hid hW
        clear E D Hl hW x33 
        generalize a.eval = ρ
        clear a hs hd
        go_wp2_with fail
        go_meet
        exact ⟨rfl, HW9.out⟩
  case rest =>
    obtain ⟨rfl, hbc⟩ := hcut
    obtain ⟨W3, hW3⟩ : ∃ W3, W3 = wc := ⟨_, rfl⟩
    rw [← hW3] at hbc ⊢
    clear hW3
    have HE3 : Hid (∀ V, Below W3.heap.size W3 V → Fo V g5 ⟨o, a1, a2, a3⟩ ∧ Fo V g7 ⟨fo, f1, f2, f3⟩ ∧ Fo V g9 ⟨fo, f1, f2, f3⟩ ∧ Below w.heap.size w V) := Lib.hid fun V hv => HEND.out V (hbc.trans (hv.mono hbc.size))
    clear hbc HEND
    go_upto_if 33 with (fail)
    go_cut [11] from 34 to 38 (fun s wx => s = .string nm ∧ Below W3.heap.size W3 wx)
    case first =>
      obtain ⟨f5, f7, f9, hbw⟩ := HE3.out W3 (Below.refl _ _)
      have HF5 := Lib.hid f5
      clear f7 f9 hbw f5 HE3
      cases tt with
      | false =>
        obtain rfl := HTD.out rfl
        go_wp2_with fail
        go_meet
        exact ⟨rfl, Below.refl _ _⟩
      | true =>
        obtain ⟨p, rfl, hp⟩ := HTC.out rfl
        have HP := Lib.hid (HN2.out p rfl hp)
        have hp1 : (p : Int) < 18 := by omega
        go_upto_region 5 with fail
        refine Rgs.region (by kernel_rfl) (by kernel_rfl) (fun (opn : Nat) (vl : Value) (wv : World) => match opn with
            | 0 => ∃ g, vl = .slice (some ⟨g, 0, none⟩) 18 18 ∧ ∀ i s, opL[i]? = some s → wv.cell? ⟨g, i, none⟩ = some (.string s)
            | 1 => vl = .pointer (some ⟨g5, 0, none⟩)
            | 2 => vl = .int .i64 (p : Int)
            | 3 => ∃ g, vl = .pointer (some ⟨g, p, none⟩) ∧ wv.cell? ⟨g, p, none⟩ = some (.string nm)
            | 4 => vl = .string nm
            | 5 => vl = .string nm
            | _ => True) (fun _ _ wv => Below W3.heap.size W3 wv) (Below.refl _ _).drew (Rgs.steps_of ?_) ?_
        · refine ⟨?_, ?_, ?_, ?_, ?_, ?_, trivial⟩
          · intro a w1 live S E D C2 h0 hk hW
            refine Rgs.call rfl (Reg.wanted_free rfl) 16 #[] (by have c := Reg.consts a; generalize a.eval = ρ at *; simp [execOp, go_sem, c.1, c.2, go_sem]) ?_
            refine (lnames_any w1).mono ?_
            rintro e w5 ⟨g, rfl, _, _, hc5, hb5⟩
            exact ⟨_, rfl, ⟨g, rfl, hc5⟩, hW.trans (hb5.mono hW.size), (fun jq vq _ hq => by
              revert hq
              match jq with
              | 0 => exact fun ⟨g, e1, e2⟩ => ⟨g, e1, fun i s h => (hb5.cell (p := ⟨g, i, none⟩) (World.block_lt_of_cell? _ _ (e2 i s h))).trans (e2 i s h)⟩
              | 3 => exact fun ⟨g, e1, e2⟩ => ⟨g, e1, (hb5.cell (p := ⟨g, p, none⟩) (World.block_lt_of_cell? _ _ e2)).trans e2⟩
              | 1 | 2 | 4 | 5 | _ + 6 => exact fun hq => hq)⟩
          · intro a w1 live S E D C2 h0 hk hW
            have e5 : a.eval (.tmp 5) = .pointer (some ⟨g5, 0, none⟩) := E 5 rfl
            exact Rgs.val rfl (Reg.wanted_free rfl) (.pointer (some ⟨g5, 0, none⟩)) (by have c := Reg.consts a; generalize a.eval = ρ at *; simp [execOp, go_sem, c.1, c.2, e5]) rfl hW
          · intro a w1 live S E D C2 h0 hk hW
            have d1 : a.eval (.tmp 35) = .pointer (some ⟨g5, 0, none⟩) := D 1 rfl _ _ rfl rfl
            have hc0 := (HF5.out.on hW).c0
            exact Rgs.val rfl (Reg.wanted_free rfl) (.int .i64 (p : Int)) (by have c := Reg.consts a; generalize a.eval = ρ at *; simp [execOp, go_sem, c.1, c.2, d1, hc0]) rfl hW
          · intro a w1 live S E D C2 h0 hk hW
            obtain ⟨g6, d0, r0⟩ := D 0 rfl _ _ rfl rfl
            have d2 : a.eval (.tmp 36) = .int .i64 (p : Int) := D 2 rfl _ _ rfl rfl
            have ead := mk_addI g6 p
            exact Rgs.val rfl (Reg.wanted_free rfl) (.pointer (some ⟨g6, p, none⟩)) (by have c := Reg.consts a; generalize a.eval = ρ at *; simp [execOp, go_sem, c.1, c.2, d0, d2, ead, hp1]) ⟨g6, rfl, r0 p nm HP.out⟩ hW
          · intro a w1 live S E D C2 h0 hk hW
            obtain ⟨g8, d3, r3⟩ := D 3 rfl _ _ rfl rfl
            exact Rgs.val rfl (Reg.wanted_free rfl) (.string nm) (by have c := Reg.consts a; generalize a.eval = ρ at *; simp [execOp, go_sem, c.1, c.2, d3, r3]) rfl hW
          · intro a w1 live S E D C2 h0 hk hW
            have d4 : a.eval (.tmp 38) = .string nm := D 4 rfl _ _ rfl rfl
            exact Rgs.val rfl (Reg.wanted_free rfl) (.string nm) (by have c := Reg.consts a; generalize a.eval = ρ at *; simp [execOp, go_sem, c.1, c.2, d4]) rfl hW
        · intro a w9 live hs hd E D Hl hW
          have x11 : a.eval (.tmp 11) = .string nm := by
            obtain ⟨v, hv, he⟩ := D 5 _ rfl
            exact (he 11 rfl).trans hv
          rw [Rgs.act_ws a _ _ hs hd E [34, 35, 36, 37, 38, 11] (by kernel_rfl)]
          simp only [List.foldl, List.setIfInBounds_toArray, List.set_cons_succ, List.set_cons_zero, x11]
          have HZ9 := hW
          have HW9 := Lib.hid hW
          clear E D Hl hW x11 
          generalize a.eval = ρ
          clear a hs hd
          go_wp2_with fail
          go_meet
          exact ⟨rfl, HW9.out⟩
    case rest =>
      obtain ⟨rfl, hbc⟩ := hcut
      obtain ⟨W4, hW4⟩ : ∃ W4, W4 = wc := ⟨_, rfl⟩
      rw [← hW4] at hbc ⊢
      clear hW4
      have HE4 : Hid (∀ V, Below W4.heap.size W4 V → Fo V g5 ⟨o, a1, a2, a3⟩ ∧ Fo V g7 ⟨fo, f1, f2, f3⟩ ∧ Fo V g9 ⟨fo, f1, f2, f3⟩ ∧ Below w.heap.size w V) := Lib.hid fun V hv => HE3.out V (hbc.trans (hv.mono hbc.size))
      clear hbc HE3 HTA HTB HTC HTD HN2
      go_upto_region 6 with fail
      go_cut [47] from 39 to 47 (fun c wx => c = .bool false ∧ Below W4.heap.size W4 wx)
      case first =>
        obtain ⟨f5, f7, f9, hbw⟩ := HE4.out W4 (Below.refl _ _)
        have HF5 := Lib.hid f5
        clear f7 f9 hbw f5 HE4
        cases r with
        | false =>
          refine Rgs.region (by kernel_rfl) (by kernel_rfl) (fun (opn : Nat) (vl : Value) (wv : World) => match opn with
              | 0 => vl = .agg #[.int .i64 o, .int .i64 a1, .int .i64 a2, .int .i64 a3]
              | 1 => vl = .bool false
              | 2 => vl = .bool false
              | 3 => vl = undef
              | 4 => vl = undef
              | 5 => vl = undef
              | 6 => vl = undef
              | 7 => vl = undef
              | 8 => vl = .bool false
              | _ => True) (fun _ _ wv => Below W4.heap.size W4 wv) (Below.refl _ _).drew (Rgs.steps_of ?_) ?_
          · refine ⟨?_, ?_, ?_, ?_, ?_, ?_, ?_, ?_, ?_, trivial⟩
            · intro a w1 live S E D C2 h0 hk hW
              have e5 : a.eval (.tmp 5) = .pointer (some ⟨g5, 0, none⟩) := E 5 rfl
              have hc0 := (HF5.out.on hW).c0
              have hc1 := (HF5.out.on hW).c1
              have hc2 := (HF5.out.on hW).c2
              have hc3 := (HF5.out.on hW).c3
              exact Rgs.val rfl (Reg.wanted_free rfl) (.agg #[.int .i64 o, .int .i64 a1, .int .i64 a2, .int .i64 a3]) (by have c := Reg.consts a; generalize a.eval = ρ at *; simp [execOp, go_sem, c.1, c.2, e5, hc0, hc1, hc2, hc3]) rfl hW
            · intro a w1 live S E D C2 h0 hk hW
              have d0 : a.eval (.tmp 39) = .agg #[.int .i64 o, .int .i64 a1, .int .i64 a2, .int .i64 a3] := D 0 rfl _ _ rfl rfl
              refine Rgs.call rfl (Reg.wanted_free rfl) 13 #[.agg #[.int .i64 o, .int .i64 a1, .int .i64 a2, .int .i64 a3]] (by have c := Reg.consts a; generalize a.eval = ρ at *; simp [execOp, go_sem, c.1, c.2, d0]) ?_
              refine (CR.out w1).mono ?_
              rintro e w5 ⟨rfl, hb5⟩
              exact ⟨_, rfl, rfl, hW.trans (hb5.mono hW.size), (fun jq vq _ hq => by
                revert hq
                match jq with
                | 0 | 1 | 2 | 3 | 4 | 5 | 6 | 7 | 8 | _ + 9 => exact fun hq => hq)⟩
            · intro a w1 live S E D C2 h0 hk hW
              have d1 : a.eval (.tmp 40) = .bool false := D 1 rfl _ _ rfl rfl
              exact Rgs.val rfl (Reg.wanted_free rfl) (.bool false) (by have c := Reg.consts a; generalize a.eval = ρ at *; simp [execOp, go_sem, c.1, c.2, d1]) rfl hW
            · intro a w1 live S E D C2 h0 hk hW
              have dg : a.eval (.tmp 41) = .bool false := D 2 rfl _ _ rfl rfl
              exact Rgs.skip rfl (Rgs.wanted_not rfl rfl dg rfl) rfl hW
            · intro a w1 live S E D C2 h0 hk hW
              have dg : a.eval (.tmp 41) = .bool false := D 2 rfl _ _ rfl rfl
              exact Rgs.skip rfl (Rgs.wanted_not rfl rfl dg rfl) rfl hW
            · intro a w1 live S E D C2 h0 hk hW
              have dg : a.eval (.tmp 41) = .bool false := D 2 rfl _ _ rfl rfl
              exact Rgs.skip rfl (Rgs.wanted_not rfl rfl dg rfl) rfl hW
            · intro a w1 live S E D C2 h0 hk hW
              have dg : a.eval (.tmp 41) = .bool false := D 2 rfl _ _ rfl rfl
              exact Rgs.skip rfl (Rgs.wanted_not rfl rfl dg rfl) rfl hW
            · intro a w1 live S E D C2 h0 hk hW
              have dg : a.eval (.tmp 41) = .bool false := D 2 rfl _ _ rfl rfl
              exact Rgs.skip rfl (Rgs.wanted_not rfl rfl dg rfl) rfl hW
            · intro a w1 live S E D C2 h0 hk hW
              have d2 : a.eval (.tmp 41) = .bool false := D 2 rfl _ _ rfl rfl
              exact Rgs.val rfl (Reg.wanted_free rfl) (.bool false) (by have c := Reg.consts a; generalize a.eval = ρ at *; simp [execOp, go_sem, c.1, c.2, d2]) rfl hW
          · intro a w9 live hs hd E D Hl hW
            have x47 : a.eval (.tmp 47) = .bool false := by
              obtain ⟨v, hv, he⟩ := D 8 _ rfl
              exact (he 47 rfl).trans hv
            rw [Rgs.act_ws a _ _ hs hd E [39, 40, 41, 42, 43, 44, 45, 46, 47] (by kernel_rfl)]
            simp only [List.foldl, List.setIfInBounds_toArray, List.set_cons_succ, List.set_cons_zero, x47]
            have HZ9 := hW
            have HW9 := Lib.hid hW
            clear E D Hl hW x47 
            generalize a.eval = ρ
            clear a hs hd
            go_wp2_with fail
            go_meet
            exact ⟨rfl, HW9.out⟩
        | true =>
          have CI := Lib.hid (CI.out rfl)
          refine Rgs.region (by kernel_rfl) (by kernel_rfl) (fun (opn : Nat) (vl : Value) (wv : World) => match opn with
              | 0 => vl = .agg #[.int .i64 o, .int .i64 a1, .int .i64 a2, .int .i64 a3]
              | 1 => vl = .bool true
              | 2 => vl = .bool true
              | 3 => vl = .agg #[.int .i64 o, .int .i64 a1, .int .i64 a2, .int .i64 a3]
              | 4 => vl = .int .u32 im
              | 5 => vl = .agg #[.int .i64 o, .int .i64 a1, .int .i64 a2, .int .i64 a3]
              | 6 => vl = .int .u32 im
              | 7 => vl = .bool false
              | 8 => vl = .bool false
              | _ => True) (fun _ _ wv => Below W4.heap.size W4 wv) (Below.refl _ _).drew (Rgs.steps_of ?_) ?_
          · refine ⟨?_, ?_, ?_, ?_, ?_, ?_, ?_, ?_, ?_, trivial⟩
            · intro a w1 live S E D C2 h0 hk hW
              have e5 : a.eval (.tmp 5) = .pointer (some ⟨g5, 0, none⟩) := E 5 rfl
              have hc0 := (HF5.out.on hW).c0
              have hc1 := (HF5.out.on hW).c1
              have hc2 := (HF5.out.on hW).c2
              have hc3 := (HF5.out.on hW).c3
              exact Rgs.val rfl (Reg.wanted_free rfl) (.agg #[.int .i64 o, .int .i64 a1, .int .i64 a2, .int .i64 a3]) (by have c := Reg.consts a; generalize a.eval = ρ at *; simp [execOp, go_sem, c.1, c.2, e5, hc0, hc1, hc2, hc3]) rfl hW
            · intro a w1 live S E D C2 h0 hk hW
              have d0 : a.eval (.tmp 39) = .agg #[.int .i64 o, .int .i64 a1, .int .i64 a2, .int .i64 a3] := D 0 rfl _ _ rfl rfl
              refine Rgs.call rfl (Reg.wanted_free rfl) 13 #[.agg #[.int .i64 o, .int .i64 a1, .int .i64 a2, .int .i64 a3]] (by have c := Reg.consts a; generalize a.eval = ρ at *; simp [execOp, go_sem, c.1, c.2, d0]) ?_
              refine (CR.out w1).mono ?_
              rintro e w5 ⟨rfl, hb5⟩
              exact ⟨_, rfl, rfl, hW.trans (hb5.mono hW.size), (fun jq vq _ hq => by
                revert hq
                match jq with
                | 0 | 1 | 2 | 3 | 4 | 5 | 6 | 7 | 8 | _ + 9 => exact fun hq => hq)⟩
            · intro a w1 live S E D C2 h0 hk hW
              have d1 : a.eval (.tmp 40) = .bool true := D 1 rfl _ _ rfl rfl
              exact Rgs.val rfl (Reg.wanted_free rfl) (.bool true) (by have c := Reg.consts a; generalize a.eval = ρ at *; simp [execOp, go_sem, c.1, c.2, d1]) rfl hW
            · intro a w1 live S E D C2 h0 hk hW
              have dg : a.eval (.tmp 41) = .bool true := D 2 rfl _ _ rfl rfl
              have e5 : a.eval (.tmp 5) = .pointer (some ⟨g5, 0, none⟩) := E 5 rfl
              have hc0 := (HF5.out.on hW).c0
              have hc1 := (HF5.out.on hW).c1
              have hc2 := (HF5.out.on hW).c2
              have hc3 := (HF5.out.on hW).c3
              exact Rgs.val rfl (Reg.wanted_if rfl rfl dg rfl) (.agg #[.int .i64 o, .int .i64 a1, .int .i64 a2, .int .i64 a3]) (by have c := Reg.consts a; generalize a.eval = ρ at *; simp [execOp, go_sem, c.1, c.2, e5, hc0, hc1, hc2, hc3]) rfl hW
            · intro a w1 live S E D C2 h0 hk hW
              have dg : a.eval (.tmp 41) = .bool true := D 2 rfl _ _ rfl rfl
              have d3 : a.eval (.tmp 42) = .agg #[.int .i64 o, .int .i64 a1, .int .i64 a2, .int .i64 a3] := D 3 rfl _ _ rfl rfl
              refine Rgs.call rfl (Reg.wanted_if rfl rfl dg rfl) 15 #[.agg #[.int .i64 o, .int .i64 a1, .int .i64 a2, .int .i64 a3]] (by have c := Reg.consts a; generalize a.eval = ρ at *; simp [execOp, go_sem, c.1, c.2, d3]) ?_
              refine (CI.out w1).mono ?_
              rintro e w5 ⟨rfl, hb5⟩
              exact ⟨_, rfl, rfl, hW.trans (hb5.mono hW.size), (fun jq vq _ hq => by
                revert hq
                match jq with
                | 0 | 1 | 2 | 3 | 4 | 5 | 6 | 7 | 8 | _ + 9 => exact fun hq => hq)⟩
            · intro a w1 live S E D C2 h0 hk hW
              have dg : a.eval (.tmp 41) = .bool true := D 2 rfl _ _ rfl rfl
              have e5 : a.eval (.tmp 5) = .pointer (some ⟨g5, 0, none⟩) := E 5 rfl
              have hc0 := (HF5.out.on hW).c0
              have hc1 := (HF5.out.on hW).c1
              have hc2 := (HF5.out.on hW).c2
              have hc3 := (HF5.out.on hW).c3
              exact Rgs.val rfl (Reg.wanted_if rfl rfl dg rfl) (.agg #[.int .i64 o, .int .i64 a1, .int .i64 a2, .int .i64 a3]) (by have c := Reg.consts a; generalize a.eval = ρ at *; simp [execOp, go_sem, c.1, c.2, e5, hc0, hc1, hc2, hc3]) rfl hW
            · intro a w1 live S E D C2 h0 hk hW
              have dg : a.eval (.tmp 41) = .bool true := D 2 rfl _ _ rfl rfl
              have d5 : a.eval (.tmp 44) = .agg #[.int .i64 o, .int .i64 a1, .int .i64 a2, .int .i64 a3] := D 5 rfl _ _ rfl rfl
              refine Rgs.call rfl (Reg.wanted_if rfl rfl dg rfl) 17 #[.agg #[.int .i64 o, .int .i64 a1, .int .i64 a2, .int .i64 a3]] (by have c := Reg.consts a; generalize a.eval = ρ at *; simp [execOp, go_sem, c.1, c.2, d5]) ?_
              refine (CJ.out w1).mono ?_
              rintro e w5 ⟨rfl, hb5⟩
              exact ⟨_, rfl, rfl, hW.trans (hb5.mono hW.size), (fun jq vq _ hq => by
                revert hq
                match jq with
                | 0 | 1 | 2 | 3 | 4 | 5 | 6 | 7 | 8 | _ + 9 => exact fun hq => hq)⟩
            · intro a w1 live S E D C2 h0 hk hW
              have dg : a.eval (.tmp 41) = .bool true := D 2 rfl _ _ rfl rfl
              have d4 : a.eval (.tmp 43) = .int .u32 im := D 4 rfl _ _ rfl rfl
              have d6 : a.eval (.tmp 45) = .int .u32 im := D 6 rfl _ _ rfl rfl
              exact Rgs.val rfl (Reg.wanted_if rfl rfl dg rfl) (.bool false) (by have c := Reg.consts a; generalize a.eval = ρ at *; simp [execOp, go_sem, c.1, c.2, d4, d6]) rfl hW
            · intro a w1 live S E D C2 h0 hk hW
              have d2 : a.eval (.tmp 41) = .bool true := D 2 rfl _ _ rfl rfl
              have d7 : a.eval (.tmp 46) = .bool false := D 7 rfl _ _ rfl rfl
              exact Rgs.val rfl (Reg.wanted_free rfl) (.bool false) (by have c := Reg.consts a; generalize a.eval = ρ at *; simp [execOp, go_sem, c.1, c.2, d2, d7]) rfl hW
          · intro a w9 live hs hd E D Hl hW
            have x47 : a.eval (.tmp 47) = .bool false := by
              obtain ⟨v, hv, he⟩ := D 8 _ rfl
              exact (he 47 rfl).trans hv
            rw [Rgs.act_ws a _ _ hs hd E [39, 40, 41, 42, 43, 44, 45, 46, 47] (by kernel_rfl)]
            simp only [List.foldl, List.setIfInBounds_toArray, List.set_cons_succ, List.set_cons_zero, x47]
            have HZ9 := hW
            have HW9 := Lib.hid hW
            clear E D Hl hW x47 
            generalize a.eval = ρ
            clear a hs hd
            go_wp2_with fail
            go_meet
            exact ⟨rfl, HW9.out⟩
      case rest =>
        obtain ⟨rfl, hbc⟩ := hcut
        obtain ⟨W5, hW5⟩ : ∃ W5, W5 = wc := ⟨_, rfl⟩
        rw [← hW5] at hbc ⊢
        clear hW5
        obtain ⟨f5, f7, f9, hbw⟩ := HE4.out W5 hbc
        have HF5 := Lib.hid f5
        have HF7 := Lib.hid f7
        have HF9 := Lib.hid f9
        have HB5 := Lib.hid hbw
        have HBL := Lib.hid fun W => show Rd (W.alloc _) _ _ 8 _ from (rd_lit W [p0, p1, p2, p3, q0, q1, q2, q3] #[.int .u8 (p0.toNat : Int), .int .u8 (p1.toNat : Int), .int .u8 (p2.toNat : Int), .int .u8 (p3.toNat : Int), .int .u8 (q0.toNat : Int), .int .u8 (q1.toNat : Int), .int .u8 (q2.toNat : Int), .int .u8 (q3.toNat : Int)] 5 rfl)
        have HTW := Lib.hid fun W => two_rd W ⟨o, a1, a2, a3⟩ ⟨fo, f1, f2, f3⟩
        dsimp only at HTW
        obtain ⟨BL, hBL⟩ : ∃ BL, BL = [p0, p1, p2, p3, q0, q1, q2, q3] := ⟨_, rfl⟩
        rw [← hBL] at HBL CB
        have HLN : Hid (BL.length = 8) := Lib.hid (by rw [hBL]; rfl)
        clear hBL
        obtain ⟨sb, hsb⟩ : ∃ sb, str BL = sb := ⟨_, rfl⟩
        have HSB := Lib.hid hsb
        obtain ⟨k0, k1, k2, k3, k4, k5, k6, k7⟩ := HV.out
        clear f5 f7 f9 hbw hbc HE4 CI CJ hsb HV
        go_upto_region 8 with fail
        refine Rgs.region (by kernel_rfl) (by kernel_rfl) (fun (opn : Nat) (vl : Value) (wv : World) => match opn with
            | 0 => vl = .agg #[.int .i64 fo, .int .i64 f1, .int .i64 f2, .int .i64 f3]
            | 1 => vl = .agg #[.int .i64 fo, .int .i64 f1, .int .i64 f2, .int .i64 f3]
            | 2 => vl = .bool true
            | 3 => vl = .bool true
            | 4 => vl = .bool bb
            | 5 => vl = .bool bb
            | 6 => vl = .bool true
            | 7 => vl = .bool true
            | 8 => vl = .bool true
            | 9 => vl = .agg #[.int .i64 o, .int .i64 a1, .int .i64 a2, .int .i64 a3]
            | 10 => vl = .bool r
            | 11 => vl = .agg #[.int .i64 o, .int .i64 a1, .int .i64 a2, .int .i64 a3]
            | 12 => vl = .bool r
            | 13 => vl = .bool true
            | 14 => vl = .bool true
            | 15 => vl = .bool true
            | 16 => vl = .pointer (some ⟨g5, 0, none⟩)
            | 17 => vl = .int .i64 o
            | 18 => vl = .string nm
            | 19 => vl = .string nm
            | 20 => vl = .bool true
            | 21 => vl = .bool true
            | 22 => vl = .bool true
            | 23 => vl = .agg #[.int .i64 o, .int .i64 a1, .int .i64 a2, .int .i64 a3]
            | 24 => vl = .agg #[.int .i64 fo, .int .i64 f1, .int .i64 f2, .int .i64 f3]
            | 25 => ∃ B, vl = .slice B 2 2 ∧ RdB ic wv wv.heap.size B 2 [⟨o, a1, a2, a3⟩, ⟨fo, f1, f2, f3⟩]
            | 26 => ∃ A' n' c', vl = .slice A' n' c' ∧ Rd wv wv.heap.size A' n' BL
            | 27 => vl = .string sb
            | 28 => vl = .pointer (some ⟨g5, 0, none⟩)
            | 29 => vl = .int .i64 o
            | 30 => vl = .int .u8 (p0.toNat : Int)
            | 31 => vl = .pointer (some ⟨g5, 1, none⟩)
            | 32 => vl = .int .i64 a1
            | 33 => vl = .int .u8 (p1.toNat : Int)
            | 34 => vl = .pointer (some ⟨g5, 2, none⟩)
            | 35 => vl = .int .i64 a2
            | 36 => vl = .int .u8 (p2.toNat : Int)
            | 37 => vl = .pointer (some ⟨g5, 3, none⟩)
            | 38 => vl = .int .i64 a3
            | 39 => vl = .int .u8 (p3.toNat : Int)
            | 40 => vl = .pointer (some ⟨g7, 0, none⟩)
            | 41 => vl = .int .i64 fo
            | 42 => vl = .int .u8 (q0.toNat : Int)
            | 43 => vl = .pointer (some ⟨g7, 1, none⟩)
            | 44 => vl = .int .i64 f1
            | 45 => vl = .int .u8 (q1.toNat : Int)
            | 46 => vl = .pointer (some ⟨g7, 2, none⟩)
            | 47 => vl = .int .i64 f2
            | 48 => vl = .int .u8 (q2.toNat : Int)
            | 49 => vl = .pointer (some ⟨g7, 3, none⟩)
            | 50 => vl = .int .i64 f3
            | 51 => vl = .int .u8 (q3.toNat : Int)
            | 52 => ∃ A' n' c', vl = .slice A' n' c' ∧ Rd wv wv.heap.size A' n' BL
            | 53 => vl = .string sb
            | 54 => vl = .bool true
            | 55 => vl = .bool true
            | 56 => vl = .bool true
            | _ => True) (fun _ _ wv => Below W5.heap.size W5 wv) (Below.refl _ _).drew (Rgs.steps_of ?_) ?_
        · refine ⟨?_, ?_, ?_, ?_, ?_, ?_, ?_, ?_, ?_, ?_, ?_, ?_, ?_, ?_, ?_, ?_, ?_, ?_, ?_, ?_, ?_, ?_, ?_, ?_, ?_, ?_, ?_, ?_, ?_, ?_, ?_, ?_, ?_, ?_, ?_, ?_, ?_, ?_, ?_, ?_, ?_, ?_, ?_, ?_, ?_, ?_, ?_, ?_, ?_, ?_, ?_, ?_, ?_, ?_, ?_, ?_, ?_, trivial⟩
          · intro a w1 live S E D C2 h0 hk hW
            have e7 : a.eval (.tmp 7) = .pointer (some ⟨g7, 0, none⟩) := E 7 rfl
            have hc0 := (HF7.out.on hW).c0
            have hc1 := (HF7.out.on hW).c1
            have hc2 := (HF7.out.on hW).c2
            have hc3 := (HF7.out.on hW).c3
            exact Rgs.val rfl (Reg.wanted_free rfl) (.agg #[.int .i64 fo, .int .i64 f1, .int .i64 f2, .int .i64 f3]) (by have c := Reg.consts a; generalize a.eval = ρ at *; simp [execOp, go_sem, c.1, c.2, e7, hc0, hc1, hc2, hc3]) rfl hW
          · intro a w1 live S E D C2 h0 hk hW
            have e9 : a.eval (.tmp 9) = .pointer (some ⟨g9, 0, none⟩) := E 9 rfl
            have hc0 := (HF9.out.on hW).c0
            have hc1 := (HF9.out.on hW).c1
            have hc2 := (HF9.out.on hW).c2
            have hc3 := (HF9.out.on hW).c3
            exact Rgs.val rfl (Reg.wanted_free rfl) (.agg #[.int .i64 fo, .int .i64 f1, .int .i64 f2, .int .i64 f3]) (by have c := Reg.consts a; generalize a.eval = ρ at *; simp [execOp, go_sem, c.1, c.2, e9, hc0, hc1, hc2, hc3]) rfl hW
          · intro a w1 live S E D C2 h0 hk hW
            have d0 : a.eval (.tmp 48) = .agg #[.int .i64 fo, .int .i64 f1, .int .i64 f2, .int .i64 f3] := D 0 rfl _ _ rfl rfl
            have d1 : a.eval (.tmp 49) = .agg #[.int .i64 fo, .int .i64 f1, .int .i64 f2, .int .i64 f3] := D 1 rfl _ _ rfl rfl
            exact Rgs.val rfl (Reg.wanted_free rfl) (.bool true) (by have c := Reg.consts a; generalize a.eval = ρ at *; simp [execOp, go_sem, c.1, c.2, d0, d1, QF.out]) rfl hW
          · intro a w1 live S E D C2 h0 hk hW
            have d2 : a.eval (.tmp 50) = .bool true := D 2 rfl _ _ rfl rfl
            exact Rgs.val rfl (Reg.wanted_free rfl) (.bool true) (by have c := Reg.consts a; generalize a.eval = ρ at *; simp [execOp, go_sem, c.1, c.2, d2]) rfl hW
          · intro a w1 live S E D C2 h0 hk hW
            have dg : a.eval (.tmp 51) = .bool true := D 3 rfl _ _ rfl rfl
            have e8 : a.eval (.tmp 8) = .bool bb := E 8 rfl
            exact Rgs.val rfl (Reg.wanted_if rfl rfl dg rfl) (.bool bb) (by have c := Reg.consts a; generalize a.eval = ρ at *; simp [execOp, go_sem, c.1, c.2, e8]) rfl hW
          · intro a w1 live S E D C2 h0 hk hW
            have dg : a.eval (.tmp 51) = .bool true := D 3 rfl _ _ rfl rfl
            have e10 : a.eval (.tmp 10) = .bool bb := E 10 rfl
            exact Rgs.val rfl (Reg.wanted_if rfl rfl dg rfl) (.bool bb) (by have c := Reg.consts a; generalize a.eval = ρ at *; simp [execOp, go_sem, c.1, c.2, e10]) rfl hW
          · intro a w1 live S E D C2 h0 hk hW
            have dg : a.eval (.tmp 51) = .bool true := D 3 rfl _ _ rfl rfl
            have d4 : a.eval (.tmp 52) = .bool bb := D 4 rfl _ _ rfl rfl
            have d5 : a.eval (.tmp 53) = .bool bb := D 5 rfl _ _ rfl rfl
            exact Rgs.val rfl (Reg.wanted_if rfl rfl dg rfl) (.bool true) (by have c := Reg.consts a; generalize a.eval = ρ at *; simp [execOp, go_sem, c.1, c.2, d4, d5]) rfl hW
          · intro a w1 live S E D C2 h0 hk hW
            have d3 : a.eval (.tmp 51) = .bool true := D 3 rfl _ _ rfl rfl
            have d6 : a.eval (.tmp 54) = .bool true := D 6 rfl _ _ rfl rfl
            exact Rgs.val rfl (Reg.wanted_free rfl) (.bool true) (by have c := Reg.consts a; generalize a.eval = ρ at *; simp [execOp, go_sem, c.1, c.2, d3, d6]) rfl hW
          · intro a w1 live S E D C2 h0 hk hW
            have d7 : a.eval (.tmp 55) = .bool true := D 7 rfl _ _ rfl rfl
            exact Rgs.val rfl (Reg.wanted_free rfl) (.bool true) (by have c := Reg.consts a; generalize a.eval = ρ at *; simp [execOp, go_sem, c.1, c.2, d7]) rfl hW
          · intro a w1 live S E D C2 h0 hk hW
            have dg : a.eval (.tmp 56) = .bool true := D 8 rfl _ _ rfl rfl
            have e5 : a.eval (.tmp 5) = .pointer (some ⟨g5, 0, none⟩) := E 5 rfl
            have hc0 := (HF5.out.on hW).c0
            have hc1 := (HF5.out.on hW).c1
            have hc2 := (HF5.out.on hW).c2
            have hc3 := (HF5.out.on hW).c3
            exact Rgs.val rfl (Reg.wanted_if rfl rfl dg rfl) (.agg #[.int .i64 o, .int .i64 a1, .int .i64 a2, .int .i64 a3]) (by have c := Reg.consts a; generalize a.eval = ρ at *; simp [execOp, go_sem, c.1, c.2, e5, hc0, hc1, hc2, hc3]) rfl hW
          · intro a w1 live S E D C2 h0 hk hW
            have dg : a.eval (.tmp 56) = .bool true := D 8 rfl _ _ rfl rfl
            have d9 : a.eval (.tmp 57) = .agg #[.int .i64 o, .int .i64 a1, .int .i64 a2, .int .i64 a3] := D 9 rfl _ _ rfl rfl
            refine Rgs.call rfl (Reg.wanted_if rfl rfl dg rfl) 13 #[.agg #[.int .i64 o, .int .i64 a1, .int .i64 a2, .int .i64 a3]] (by have c := Reg.consts a; generalize a.eval = ρ at *; simp [execOp, go_sem, c.1, c.2, d9]) ?_
            refine (CR.out w1).mono ?_
            rintro e w5 ⟨rfl, hb5⟩
            exact ⟨_, rfl, rfl, hW.trans (hb5.mono hW.size), (fun jq vq _ hq => by
              revert hq
              match jq with
              | 25 => exact fun ⟨B, e1, e2⟩ => ⟨B, e1, e2.on hb5⟩
              | 26 => exact fun ⟨A', n', c', e1, e2⟩ => ⟨A', n', c', e1, (e2.below hb5).more hb5.size⟩
              | 52 => exact fun ⟨A', n', c', e1, e2⟩ => ⟨A', n', c', e1, (e2.below hb5).more hb5.size⟩
              | 0 | 1 | 2 | 3 | 4 | 5 | 6 | 7 | 8 | 9 | 10 | 11 | 12 | 13 | 14 | 15 | 16 | 17 | 18 | 19 | 20 | 21 | 22 | 23 | 24 | 27 | 28 | 29 | 30 | 31 | 32 | 33 | 34 | 35 | 36 | 37 | 38 | 39 | 40 | 41 | 42 | 43 | 44 | 45 | 46 | 47 | 48 | 49 | 50 | 51 | 53 | 54 | 55 | 56 | _ + 57 => exact fun hq => hq)⟩
          · intro a w1 live S E D C2 h0 hk hW
            have dg : a.eval (.tmp 56) = .bool true := D 8 rfl _ _ rfl rfl
            have e5 : a.eval (.tmp 5) = .pointer (some ⟨g5, 0, none⟩) := E 5 rfl
            have hc0 := (HF5.out.on hW).c0
            have hc1 := (HF5.out.on hW).c1
            have hc2 := (HF5.out.on hW).c2
            have hc3 := (HF5.out.on hW).c3
            exact Rgs.val rfl (Reg.wanted_if rfl rfl dg rfl) (.agg #[.int .i64 o, .int .i64 a1, .int .i64 a2, .int .i64 a3]) (by have c := Reg.consts a; generalize a.eval = ρ at *; simp [execOp, go_sem, c.1, c.2, e5, hc0, hc1, hc2, hc3]) rfl hW
          · intro a w1 live S E D C2 h0 hk hW
            have dg : a.eval (.tmp 56) = .bool true := D 8 rfl _ _ rfl rfl
            have d11 : a.eval (.tmp 59) = .agg #[.int .i64 o, .int .i64 a1, .int .i64 a2, .int .i64 a3] := D 11 rfl _ _ rfl rfl
            refine Rgs.call rfl (Reg.wanted_if rfl rfl dg rfl) 18 #[.agg #[.int .i64 o, .int .i64 a1, .int .i64 a2, .int .i64 a3]] (by have c := Reg.consts a; generalize a.eval = ρ at *; simp [execOp, go_sem, c.1, c.2, d11]) ?_
            refine (CS.out w1).mono ?_
            rintro e w5 ⟨rfl, hb5⟩
            exact ⟨_, rfl, rfl, hW.trans (hb5.mono hW.size), (fun jq vq _ hq => by
              revert hq
              match jq with
              | 25 => exact fun ⟨B, e1, e2⟩ => ⟨B, e1, e2.on hb5⟩
              | 26 => exact fun ⟨A', n', c', e1, e2⟩ => ⟨A', n', c', e1, (e2.below hb5).more hb5.size⟩
              | 52 => exact fun ⟨A', n', c', e1, e2⟩ => ⟨A', n', c', e1, (e2.below hb5).more hb5.size⟩
              | 0 | 1 | 2 | 3 | 4 | 5 | 6 | 7 | 8 | 9 | 10 | 11 | 12 | 13 | 14 | 15 | 16 | 17 | 18 | 19 | 20 | 21 | 22 | 23 | 24 | 27 | 28 | 29 | 30 | 31 | 32 | 33 | 34 | 35 | 36 | 37 | 38 | 39 | 40 | 41 | 42 | 43 | 44 | 45 | 46 | 47 | 48 | 49 | 50 | 51 | 53 | 54 | 55 | 56 | _ + 57 => exact fun hq => hq)⟩
          · intro a w1 live S E D C2 h0 hk hW
            have dg : a.eval (.tmp 56) = .bool true := D 8 rfl _ _ rfl rfl
            have d10 : a.eval (.tmp 58) = .bool r := D 10 rfl _ _ rfl rfl
            have d12 : a.eval (.tmp 60) = .bool r := D 12 rfl _ _ rfl rfl
            exact Rgs.val rfl (Reg.wanted_if rfl rfl dg rfl) (.bool true) (by have c := Reg.consts a; generalize a.eval = ρ at *; simp [execOp, go_sem, c.1, c.2, d10, d12]) rfl hW
          · intro a w1 live S E D C2 h0 hk hW
            have d8 : a.eval (.tmp 56) = .bool true := D 8 rfl _ _ rfl rfl
            have d13 : a.eval (.tmp 61) = .bool true := D 13 rfl _ _ rfl rfl
            exact Rgs.val rfl (Reg.wanted_free rfl) (.bool true) (by have c := Reg.consts a; generalize a.eval = ρ at *; simp [execOp, go_sem, c.1, c.2, d8, d13]) rfl hW
          · intro a w1 live S E D C2 h0 hk hW
            have d14 : a.eval (.tmp 62) = .bool true := D 14 rfl _ _ rfl rfl
            exact Rgs.val rfl (Reg.wanted_free rfl) (.bool true) (by have c := Reg.consts a; generalize a.eval = ρ at *; simp [execOp, go_sem, c.1, c.2, d14]) rfl hW
          · intro a w1 live S E D C2 h0 hk hW
            have dg : a.eval (.tmp 63) = .bool true := D 15 rfl _ _ rfl rfl
            have e5 : a.eval (.tmp 5) = .pointer (some ⟨g5, 0, none⟩) := E 5 rfl
            exact Rgs.val rfl (Reg.wanted_if rfl rfl dg rfl) (.pointer (some ⟨g5, 0, none⟩)) (by have c := Reg.consts a; generalize a.eval = ρ at *; simp [execOp, go_sem, c.1, c.2, e5]) rfl hW
          · intro a w1 live S E D C2 h0 hk hW
            have dg : a.eval (.tmp 63) = .bool true := D 15 rfl _ _ rfl rfl
            have d16 : a.eval (.tmp 64) = .pointer (some ⟨g5, 0, none⟩) := D 16 rfl _ _ rfl rfl
            have hc0 := (HF5.out.on hW).c0
            have hc1 := (HF5.out.on hW).c1
            have hc2 := (HF5.out.on hW).c2
            have hc3 := (HF5.out.on hW).c3
            exact Rgs.val rfl (Reg.wanted_if rfl rfl dg rfl) (.int .i64 o) (by have c := Reg.consts a; generalize a.eval = ρ at *; simp [execOp, go_sem, c.1, c.2, d16, hc0, hc1, hc2, hc3]) rfl hW
          · intro a w1 live S E D C2 h0 hk hW
            have dg : a.eval (.tmp 63) = .bool true := D 15 rfl _ _ rfl rfl
            have d17 : a.eval (.tmp 65) = .int .i64 o := D 17 rfl _ _ rfl rfl
            refine Rgs.call rfl (Reg.wanted_if rfl rfl dg rfl) 14 #[.int .i64 o] (by have c := Reg.consts a; generalize a.eval = ρ at *; simp [execOp, go_sem, c.1, c.2, d17]) ?_
            refine (CN.out w1 (HB5.out.trans (hW.mono HB5.out.size))).mono ?_
            rintro e w5 ⟨rfl, hb5⟩
            exact ⟨_, rfl, rfl, hW.trans (hb5.mono hW.size), (fun jq vq _ hq => by
              revert hq
              match jq with
              | 25 => exact fun ⟨B, e1, e2⟩ => ⟨B, e1, e2.on hb5⟩
              | 26 => exact fun ⟨A', n', c', e1, e2⟩ => ⟨A', n', c', e1, (e2.below hb5).more hb5.size⟩
              | 52 => exact fun ⟨A', n', c', e1, e2⟩ => ⟨A', n', c', e1, (e2.below hb5).more hb5.size⟩
              | 0 | 1 | 2 | 3 | 4 | 5 | 6 | 7 | 8 | 9 | 10 | 11 | 12 | 13 | 14 | 15 | 16 | 17 | 18 | 19 | 20 | 21 | 22 | 23 | 24 | 27 | 28 | 29 | 30 | 31 | 32 | 33 | 34 | 35 | 36 | 37 | 38 | 39 | 40 | 41 | 42 | 43 | 44 | 45 | 46 | 47 | 48 | 49 | 50 | 51 | 53 | 54 | 55 | 56 | _ + 57 => exact fun hq => hq)⟩
          · intro a w1 live S E D C2 h0 hk hW
            have dg : a.eval (.tmp 63) = .bool true := D 15 rfl _ _ rfl rfl
            have e11 : a.eval (.tmp 11) = .string nm := E 11 rfl
            exact Rgs.val rfl (Reg.wanted_if rfl rfl dg rfl) (.string nm) (by have c := Reg.consts a; generalize a.eval = ρ at *; simp [execOp, go_sem, c.1, c.2, e11]) rfl hW
          · intro a w1 live S E D C2 h0 hk hW
            have dg : a.eval (.tmp 63) = .bool true := D 15 rfl _ _ rfl rfl
            have d18 : a.eval (.tmp 66) = .string nm := D 18 rfl _ _ rfl rfl
            have d19 : a.eval (.tmp 67) = .string nm := D 19 rfl _ _ rfl rfl
            exact Rgs.val rfl (Reg.wanted_if rfl rfl dg rfl) (.bool true) (by have c := Reg.consts a; generalize a.eval = ρ at *; simp [execOp, go_sem, c.1, c.2, d18, d19]) rfl hW
          · intro a w1 live S E D C2 h0 hk hW
            have d15 : a.eval (.tmp 63) = .bool true := D 15 rfl _ _ rfl rfl
            have d20 : a.eval (.tmp 68) = .bool true := D 20 rfl _ _ rfl rfl
            exact Rgs.val rfl (Reg.wanted_free rfl) (.bool true) (by have c := Reg.consts a; generalize a.eval = ρ at *; simp [execOp, go_sem, c.1, c.2, d15, d20]) rfl hW
          · intro a w1 live S E D C2 h0 hk hW
            have d21 : a.eval (.tmp 69) = .bool true := D 21 rfl _ _ rfl rfl
            exact Rgs.val rfl (Reg.wanted_free rfl) (.bool true) (by have c := Reg.consts a; generalize a.eval = ρ at *; simp [execOp, go_sem, c.1, c.2, d21]) rfl hW
          · intro a w1 live S E D C2 h0 hk hW
            have dg : a.eval (.tmp 70) = .bool true := D 22 rfl _ _ rfl rfl
            have e5 : a.eval (.tmp 5) = .pointer (some ⟨g5, 0, none⟩) := E 5 rfl
            have hc0 := (HF5.out.on hW).c0
            have hc1 := (HF5.out.on hW).c1
            have hc2 := (HF5.out.on hW).c2
            have hc3 := (HF5.out.on hW).c3
            exact Rgs.val rfl (Reg.wanted_if rfl rfl dg rfl) (.agg #[.int .i64 o, .int .i64 a1, .int .i64 a2, .int .i64 a3]) (by have c := Reg.consts a; generalize a.eval = ρ at *; simp [execOp, go_sem, c.1, c.2, e5, hc0, hc1, hc2, hc3]) rfl hW
          · intro a w1 live S E D C2 h0 hk hW
            have dg : a.eval (.tmp 70) = .bool true := D 22 rfl _ _ rfl rfl
            have e7 : a.eval (.tmp 7) = .pointer (some ⟨g7, 0, none⟩) := E 7 rfl
            have hc0 := (HF7.out.on hW).c0
            have hc1 := (HF7.out.on hW).c1
            have hc2 := (HF7.out.on hW).c2
            have hc3 := (HF7.out.on hW).c3
            exact Rgs.val rfl (Reg.wanted_if rfl rfl dg rfl) (.agg #[.int .i64 fo, .int .i64 f1, .int .i64 f2, .int .i64 f3]) (by have c := Reg.consts a; generalize a.eval = ρ at *; simp [execOp, go_sem, c.1, c.2, e7, hc0, hc1, hc2, hc3]) rfl hW
          · intro a w1 live S E D C2 h0 hk hW
            have dg : a.eval (.tmp 70) = .bool true := D 22 rfl _ _ rfl rfl
            have d23 : a.eval (.tmp 71) = .agg #[.int .i64 o, .int .i64 a1, .int .i64 a2, .int .i64 a3] := D 23 rfl _ _ rfl rfl
            have d24 : a.eval (.tmp 72) = .agg #[.int .i64 fo, .int .i64 f1, .int .i64 f2, .int .i64 f3] := D 24 rfl _ _ rfl rfl
            have hb6 := bl1 w1 (.cells #[.int .i64 o, .int .i64 a1, .int .i64 a2, .int .i64 a3, .int .i64 fo, .int .i64 f1, .int .i64 f2, .int .i64 f3] 26)
            exact Rgs.grow rfl (Reg.wanted_if rfl rfl dg rfl) (.slice (some ⟨w1.heap.size, 0, none⟩) 2 2) (w1.alloc (.cells #[.int .i64 o, .int .i64 a1, .int .i64 a2, .int .i64 a3, .int .i64 fo, .int .i64 f1, .int .i64 f2, .int .i64 f3] 26)) (by have c := Reg.consts a; generalize a.eval = ρ at *; simp [execOp, go_sem, c.1, c.2, d23, d24]) ⟨_, rfl, HTW.out w1⟩ (hW.trans (hb6.mono hW.size)) (fun jq vq _ hq => by
              revert hq
              match jq with
              | 25 => exact fun ⟨B, e1, e2⟩ => ⟨B, e1, e2.on hb6⟩
              | 26 => exact fun ⟨A', n', c', e1, e2⟩ => ⟨A', n', c', e1, (e2.below hb6).more hb6.size⟩
              | 52 => exact fun ⟨A', n', c', e1, e2⟩ => ⟨A', n', c', e1, (e2.below hb6).more hb6.size⟩
              | 0 | 1 | 2 | 3 | 4 | 5 | 6 | 7 | 8 | 9 | 10 | 11 | 12 | 13 | 14 | 15 | 16 | 17 | 18 | 19 | 20 | 21 | 22 | 23 | 24 | 27 | 28 | 29 | 30 | 31 | 32 | 33 | 34 | 35 | 36 | 37 | 38 | 39 | 40 | 41 | 42 | 43 | 44 | 45 | 46 | 47 | 48 | 49 | 50 | 51 | 53 | 54 | 55 | 56 | _ + 57 => exact fun hq => hq)
          · intro a w1 live S E D C2 h0 hk hW
            have dg : a.eval (.tmp 70) = .bool true := D 22 rfl _ _ rfl rfl
            obtain ⟨B2, d25, r25⟩ := D 25 rfl _ _ rfl rfl
            refine Rgs.call rfl (Reg.wanted_if rfl rfl dg rfl) 11 #[.slice B2 2 2] (by have c := Reg.consts a; generalize a.eval = ρ at *; simp [execOp, go_sem, c.1, c.2, d25]) ?_
            refine (CB.out B2 w1 r25).mono ?_
            rintro e w5 ⟨A', n', c', rfl, hr5, hc5, hb5⟩
            exact ⟨_, rfl, ⟨A', n', c', rfl, hr5⟩, hW.trans (hb5.mono hW.size), (fun jq vq _ hq => by
              revert hq
              match jq with
              | 25 => exact fun ⟨B, e1, e2⟩ => ⟨B, e1, e2.on hb5⟩
              | 26 => exact fun ⟨A', n', c', e1, e2⟩ => ⟨A', n', c', e1, (e2.below hb5).more hb5.size⟩
              | 52 => exact fun ⟨A', n', c', e1, e2⟩ => ⟨A', n', c', e1, (e2.below hb5).more hb5.size⟩
              | 0 | 1 | 2 | 3 | 4 | 5 | 6 | 7 | 8 | 9 | 10 | 11 | 12 | 13 | 14 | 15 | 16 | 17 | 18 | 19 | 20 | 21 | 22 | 23 | 24 | 27 | 28 | 29 | 30 | 31 | 32 | 33 | 34 | 35 | 36 | 37 | 38 | 39 | 40 | 41 | 42 | 43 | 44 | 45 | 46 | 47 | 48 | 49 | 50 | 51 | 53 | 54 | 55 | 56 | _ + 57 => exact fun hq => hq)⟩
          · intro a w1 live S E D C2 h0 hk hW
            have dg : a.eval (.tmp 70) = .bool true := D 22 rfl _ _ rfl rfl
            obtain ⟨A', n', c', d26, r26⟩ := D 26 rfl _ _ rfl rfl
            have hcv := run_conv w1 _ A' n' c' BL r26
            rw [HSB.out] at hcv
            exact Rgs.val rfl (Reg.wanted_if rfl rfl dg rfl) (.string sb) (by have c := Reg.consts a; generalize a.eval = ρ at *; simp [execOp, go_sem, c.1, c.2, d26, hcv]) rfl hW
          · intro a w1 live S E D C2 h0 hk hW
            have dg : a.eval (.tmp 70) = .bool true := D 22 rfl _ _ rfl rfl
            have e5 : a.eval (.tmp 5) = .pointer (some ⟨g5, 0, none⟩) := E 5 rfl
            exact Rgs.val rfl (Reg.wanted_if rfl rfl dg rfl) (.pointer (some ⟨g5, 0, none⟩)) (by have c := Reg.consts a; generalize a.eval = ρ at *; simp [execOp, go_sem, c.1, c.2, e5]) rfl hW
          · intro a w1 live S E D C2 h0 hk hW
            have dg : a.eval (.tmp 70) = .bool true := D 22 rfl _ _ rfl rfl
            have d28 : a.eval (.tmp 76) = .pointer (some ⟨g5, 0, none⟩) := D 28 rfl _ _ rfl rfl
            have hc0 := (HF5.out.on hW).c0
            have hc1 := (HF5.out.on hW).c1
            have hc2 := (HF5.out.on hW).c2
            have hc3 := (HF5.out.on hW).c3
            exact Rgs.val rfl (Reg.wanted_if rfl rfl dg rfl) (.int .i64 o) (by have c := Reg.consts a; generalize a.eval = ρ at *; simp [execOp, go_sem, c.1, c.2, d28, hc0, hc1, hc2, hc3]) rfl hW
          · intro a w1 live S E D C2 h0 hk hW
            have dg : a.eval (.tmp 70) = .bool true := D 22 rfl _ _ rfl rfl
            have d29 : a.eval (.tmp 77) = .int .i64 o := D 29 rfl _ _ rfl rfl
            exact Rgs.val rfl (Reg.wanted_if rfl rfl dg rfl) (.int .u8 (p0.toNat : Int)) (by have c := Reg.consts a; generalize a.eval = ρ at *; simp [execOp, go_sem, c.1, c.2, d29, k0]) rfl hW
          · intro a w1 live S E D C2 h0 hk hW
            have dg : a.eval (.tmp 70) = .bool true := D 22 rfl _ _ rfl rfl
            have e5 : a.eval (.tmp 5) = .pointer (some ⟨g5, 0, none⟩) := E 5 rfl
            exact Rgs.val rfl (Reg.wanted_if rfl rfl dg rfl) (.pointer (some ⟨g5, 1, none⟩)) (by have c := Reg.consts a; generalize a.eval = ρ at *; simp [execOp, go_sem, c.1, c.2, e5]) rfl hW
          · intro a w1 live S E D C2 h0 hk hW
            have dg : a.eval (.tmp 70) = .bool true := D 22 rfl _ _ rfl rfl
            have d31 : a.eval (.tmp 79) = .pointer (some ⟨g5, 1, none⟩) := D 31 rfl _ _ rfl rfl
            have hc0 := (HF5.out.on hW).c1
            exact Rgs.val rfl (Reg.wanted_if rfl rfl dg rfl) (.int .i64 a1) (by have c := Reg.consts a; generalize a.eval = ρ at *; simp [execOp, go_sem, c.1, c.2, d31, hc0]) rfl hW
          · intro a w1 live S E D C2 h0 hk hW
            have dg : a.eval (.tmp 70) = .bool true := D 22 rfl _ _ rfl rfl
            have d32 : a.eval (.tmp 80) = .int .i64 a1 := D 32 rfl _ _ rfl rfl
            exact Rgs.val rfl (Reg.wanted_if rfl rfl dg rfl) (.int .u8 (p1.toNat : Int)) (by have c := Reg.consts a; generalize a.eval = ρ at *; simp [execOp, go_sem, c.1, c.2, d32, k1]) rfl hW
          · intro a w1 live S E D C2 h0 hk hW
            have dg : a.eval (.tmp 70) = .bool true := D 22 rfl _ _ rfl rfl
            have e5 : a.eval (.tmp 5) = .pointer (some ⟨g5, 0, none⟩) := E 5 rfl
            exact Rgs.val rfl (Reg.wanted_if rfl rfl dg rfl) (.pointer (some ⟨g5, 2, none⟩)) (by have c := Reg.consts a; generalize a.eval = ρ at *; simp [execOp, go_sem, c.1, c.2, e5]) rfl hW
          · intro a w1 live S E D C2 h0 hk hW
            have dg : a.eval (.tmp 70) = .bool true := D 22 rfl _ _ rfl rfl
            have d34 : a.eval (.tmp 82) = .pointer (some ⟨g5, 2, none⟩) := D 34 rfl _ _ rfl rfl
            have hc0 := (HF5.out.on hW).c2
            exact Rgs.val rfl (Reg.wanted_if rfl rfl dg rfl) (.int .i64 a2) (by have c := Reg.consts a; generalize a.eval = ρ at *; simp [execOp, go_sem, c.1, c.2, d34, hc0]) rfl hW
          · intro a w1 live S E D C2 h0 hk hW
            have dg : a.eval (.tmp 70) = .bool true := D 22 rfl _ _ rfl rfl
            have d35 : a.eval (.tmp 83) = .int .i64 a2 := D 35 rfl _ _ rfl rfl
            exact Rgs.val rfl (Reg.wanted_if rfl rfl dg rfl) (.int .u8 (p2.toNat : Int)) (by have c := Reg.consts a; generalize a.eval = ρ at *; simp [execOp, go_sem, c.1, c.2, d35, k2]) rfl hW
          · intro a w1 live S E D C2 h0 hk hW
            have dg : a.eval (.tmp 70) = .bool true := D 22 rfl _ _ rfl rfl
            have e5 : a.eval (.tmp 5) = .pointer (some ⟨g5, 0, none⟩) := E 5 rfl
            exact Rgs.val rfl (Reg.wanted_if rfl rfl dg rfl) (.pointer (some ⟨g5, 3, none⟩)) (by have c := Reg.consts a; generalize a.eval = ρ at *; simp [execOp, go_sem, c.1, c.2, e5]) rfl hW
          · intro a w1 live S E D C2 h0 hk hW
            have dg : a.eval (.tmp 70) = .bool true := D 22 rfl _ _ rfl rfl
            have d37 : a.eval (.tmp 85) = .pointer (some ⟨g5, 3, none⟩) := D 37 rfl _ _ rfl rfl
            have hc0 := (HF5.out.on hW).c3
            exact Rgs.val rfl (Reg.wanted_if rfl rfl dg rfl) (.int .i64 a3) (by have c := Reg.consts a; generalize a.eval = ρ at *; simp [execOp, go_sem, c.1, c.2, d37, hc0]) rfl hW
          · intro a w1 live S E D C2 h0 hk hW
            have dg : a.eval (.tmp 70) = .bool true := D 22 rfl _ _ rfl rfl
            have d38 : a.eval (.tmp 86) = .int .i64 a3 := D 38 rfl _ _ rfl rfl
            exact Rgs.val rfl (Reg.wanted_if rfl rfl dg rfl) (.int .u8 (p3.toNat : Int)) (by have c := Reg.consts a; generalize a.eval = ρ at *; simp [execOp, go_sem, c.1, c.2, d38, k3]) rfl hW
          · intro a w1 live S E D C2 h0 hk hW
            have dg : a.eval (.tmp 70) = .bool true := D 22 rfl _ _ rfl rfl
            have e7 : a.eval (.tmp 7) = .pointer (some ⟨g7, 0, none⟩) := E 7 rfl
            exact Rgs.val rfl (Reg.wanted_if rfl rfl dg rfl) (.pointer (some ⟨g7, 0, none⟩)) (by have c := Reg.consts a; generalize a.eval = ρ at *; simp [execOp, go_sem, c.1, c.2, e7]) rfl hW
          · intro a w1 live S E D C2 h0 hk hW
            have dg : a.eval (.tmp 70) = .bool true := D 22 rfl _ _ rfl rfl
            have d40 : a.eval (.tmp 88) = .pointer (some ⟨g7, 0, none⟩) := D 40 rfl _ _ rfl rfl
            have hc0 := (HF7.out.on hW).c0
            have hc1 := (HF7.out.on hW).c1
            have hc2 := (HF7.out.on hW).c2
            have hc3 := (HF7.out.on hW).c3
            exact Rgs.val rfl (Reg.wanted_if rfl rfl dg rfl) (.int .i64 fo) (by have c := Reg.consts a; generalize a.eval = ρ at *; simp [execOp, go_sem, c.1, c.2, d40, hc0, hc1, hc2, hc3]) rfl hW
          · intro a w1 live S E D C2 h0 hk hW
            have dg : a.eval (.tmp 70) = .bool true := D 22 rfl _ _ rfl rfl
            have d41 : a.eval (.tmp 89) = .int .i64 fo := D 41 rfl _ _ rfl rfl
            exact Rgs.val rfl (Reg.wanted_if rfl rfl dg rfl) (.int .u8 (q0.toNat : Int)) (by have c := Reg.consts a; generalize a.eval = ρ at *; simp [execOp, go_sem, c.1, c.2, d41, k4]) rfl hW
          · intro a w1 live S E D C2 h0 hk hW
            have dg : a.eval (.tmp 70) = .bool true := D 22 rfl _ _ rfl rfl
            have e7 : a.eval (.tmp 7) = .pointer (some ⟨g7, 0, none⟩) := E 7 rfl
            exact Rgs.val rfl (Reg.wanted_if rfl rfl dg rfl) (.pointer (some ⟨g7, 1, none⟩)) (by have c := Reg.consts a; generalize a.eval = ρ at *; simp [execOp, go_sem, c.1, c.2, e7]) rfl hW
          · intro a w1 live S E D C2 h0 hk hW
            have dg : a.eval (.tmp 70) = .bool true := D 22 rfl _ _ rfl rfl
            have d43 : a.eval (.tmp 91) = .pointer (some ⟨g7, 1, none⟩) := D 43 rfl _ _ rfl rfl
            have hc0 := (HF7.out.on hW).c1
            exact Rgs.val rfl (Reg.wanted_if rfl rfl dg rfl) (.int .i64 f1) (by have c := Reg.consts a; generalize a.eval = ρ at *; simp [execOp, go_sem, c.1, c.2, d43, hc0]) rfl hW
          · intro a w1 live S E D C2 h0 hk hW
            have dg : a.eval (.tmp 70) = .bool true := D 22 rfl _ _ rfl rfl
            have d44 : a.eval (.tmp 92) = .int .i64 f1 := D 44 rfl _ _ rfl rfl
            exact Rgs.val rfl (Reg.wanted_if rfl rfl dg rfl) (.int .u8 (q1.toNat : Int)) (by have c := Reg.consts a; generalize a.eval = ρ at *; simp [execOp, go_sem, c.1, c.2, d44, k5]) rfl hW
          · intro a w1 live S E D C2 h0 hk hW
            have dg : a.eval (.tmp 70) = .bool true := D 22 rfl _ _ rfl rfl
            have e7 : a.eval (.tmp 7) = .pointer (some ⟨g7, 0, none⟩) := E 7 rfl
            exact Rgs.val rfl (Reg.wanted_if rfl rfl dg rfl) (.pointer (some ⟨g7, 2, none⟩)) (by have c := Reg.consts a; generalize a.eval = ρ at *; simp [execOp, go_sem, c.1, c.2, e7]) rfl hW
          · intro a w1 live S E D C2 h0 hk hW
            have dg : a.eval (.tmp 70) = .bool true := D 22 rfl _ _ rfl rfl
            have d46 : a.eval (.tmp 94) = .pointer (some ⟨g7, 2, none⟩) := D 46 rfl _ _ rfl rfl
            have hc0 := (HF7.out.on hW).c2
            exact Rgs.val rfl (Reg.wanted_if rfl rfl dg rfl) (.int .i64 f2) (by have c := Reg.consts a; generalize a.eval = ρ at *; simp [execOp, go_sem, c.1, c.2, d46, hc0]) rfl hW
          · intro a w1 live S E D C2 h0 hk hW
            have dg : a.eval (.tmp 70) = .bool true := D 22 rfl _ _ rfl rfl
            have d47 : a.eval (.tmp 95) = .int .i64 f2 := D 47 rfl _ _ rfl rfl
            exact Rgs.val rfl (Reg.wanted_if rfl rfl dg rfl) (.int .u8 (q2.toNat : Int)) (by have c := Reg.consts a; generalize a.eval = ρ at *; simp [execOp, go_sem, c.1, c.2, d47, k6]) rfl hW
          · intro a w1 live S E D C2 h0 hk hW
            have dg : a.eval (.tmp 70) = .bool true := D 22 rfl _ _ rfl rfl
            have e7 : a.eval (.tmp 7) = .pointer (some ⟨g7, 0, none⟩) := E 7 rfl
            exact Rgs.val rfl (Reg.wanted_if rfl rfl dg rfl) (.pointer (some ⟨g7, 3, none⟩)) (by have c := Reg.consts a; generalize a.eval = ρ at *; simp [execOp, go_sem, c.1, c.2, e7]) rfl hW
          · intro a w1 live S E D C2 h0 hk hW
            have dg : a.eval (.tmp 70) = .bool true := D 22 rfl _ _ rfl rfl
            have d49 : a.eval (.tmp 97) = .pointer (some ⟨g7, 3, none⟩) := D 49 rfl _ _ rfl rfl
            have hc0 := (HF7.out.on hW).c3
            exact Rgs.val rfl (Reg.wanted_if rfl rfl dg rfl) (.int .i64 f3) (by have c := Reg.consts a; generalize a.eval = ρ at *; simp [execOp, go_sem, c.1, c.2, d49, hc0]) rfl hW
          · intro a w1 live S E D C2 h0 hk hW
            have dg : a.eval (.tmp 70) = .bool true := D 22 rfl _ _ rfl rfl
            have d50 : a.eval (.tmp 98) = .int .i64 f3 := D 50 rfl _ _ rfl rfl
            exact Rgs.val rfl (Reg.wanted_if rfl rfl dg rfl) (.int .u8 (q3.toNat : Int)) (by have c := Reg.consts a; generalize a.eval = ρ at *; simp [execOp, go_sem, c.1, c.2, d50, k7]) rfl hW
          · intro a w1 live S E D C2 h0 hk hW
            have dg : a.eval (.tmp 70) = .bool true := D 22 rfl _ _ rfl rfl
            have d30 : a.eval (.tmp 78) = .int .u8 (p0.toNat : Int) := D 30 rfl _ _ rfl rfl
            have d33 : a.eval (.tmp 81) = .int .u8 (p1.toNat : Int) := D 33 rfl _ _ rfl rfl
            have d36 : a.eval (.tmp 84) = .int .u8 (p2.toNat : Int) := D 36 rfl _ _ rfl rfl
            have d39 : a.eval (.tmp 87) = .int .u8 (p3.toNat : Int) := D 39 rfl _ _ rfl rfl
            have d42 : a.eval (.tmp 90) = .int .u8 (q0.toNat : Int) := D 42 rfl _ _ rfl rfl
            have d45 : a.eval (.tmp 93) = .int .u8 (q1.toNat : Int) := D 45 rfl _ _ rfl rfl
            have d48 : a.eval (.tmp 96) = .int .u8 (q2.toNat : Int) := D 48 rfl _ _ rfl rfl
            have d51 : a.eval (.tmp 99) = .int .u8 (q3.toNat : Int) := D 51 rfl _ _ rfl rfl
            have hb6 := bl1 w1 (.cells #[.int .u8 (p0.toNat : Int), .int .u8 (p1.toNat : Int), .int .u8 (p2.toNat : Int), .int .u8 (p3.toNat : Int), .int .u8 (q0.toNat : Int), .int .u8 (q1.toNat : Int), .int .u8 (q2.toNat : Int), .int .u8 (q3.toNat : Int)] 5)
            exact Rgs.grow rfl (Reg.wanted_if rfl rfl dg rfl) (.slice (some ⟨w1.heap.size, 0, none⟩) 8 8) (w1.alloc (.cells #[.int .u8 (p0.toNat : Int), .int .u8 (p1.toNat : Int), .int .u8 (p2.toNat : Int), .int .u8 (p3.toNat : Int), .int .u8 (q0.toNat : Int), .int .u8 (q1.toNat : Int), .int .u8 (q2.toNat : Int), .int .u8 (q3.toNat : Int)] 5)) (by have c := Reg.consts a; generalize a.eval = ρ at *; simp [execOp, go_sem, c.1, c.2, d30, d33, d36, d39, d42, d45, d48, d51]) ⟨_, _, _, rfl, HBL.out w1⟩ (hW.trans (hb6.mono hW.size)) (fun jq vq _ hq => by
              revert hq
              match jq with
              | 25 => exact fun ⟨B, e1, e2⟩ => ⟨B, e1, e2.on hb6⟩
              | 26 => exact fun ⟨A', n', c', e1, e2⟩ => ⟨A', n', c', e1, (e2.below hb6).more hb6.size⟩
              | 52 => exact fun ⟨A', n', c', e1, e2⟩ => ⟨A', n', c', e1, (e2.below hb6).more hb6.size⟩
              | 0 | 1 | 2 | 3 | 4 | 5 | 6 | 7 | 8 | 9 | 10 | 11 | 12 | 13 | 14 | 15 | 16 | 17 | 18 | 19 | 20 | 21 | 22 | 23 | 24 | 27 | 28 | 29 | 30 | 31 | 32 | 33 | 34 | 35 | 36 | 37 | 38 | 39 | 40 | 41 | 42 | 43 | 44 | 45 | 46 | 47 | 48 | 49 | 50 | 51 | 53 | 54 | 55 | 56 | _ + 57 => exact fun hq => hq)
          · intro a w1 live S E D C2 h0 hk hW
            have dg : a.eval (.tmp 70) = .bool true := D 22 rfl _ _ rfl rfl
            obtain ⟨A', n', c', d52, r52⟩ := D 52 rfl _ _ rfl rfl
            have hcv := run_conv w1 _ A' n' c' BL r52
            rw [HSB.out] at hcv
            exact Rgs.val rfl (Reg.wanted_if rfl rfl dg rfl) (.string sb) (by have c := Reg.consts a; generalize a.eval = ρ at *; simp [execOp, go_sem, c.1, c.2, d52, hcv]) rfl hW
          · intro a w1 live S E D C2 h0 hk hW
            have dg : a.eval (.tmp 70) = .bool true := D 22 rfl _ _ rfl rfl
            have d27 : a.eval (.tmp 75) = .string sb := D 27 rfl _ _ rfl rfl
            have d53 : a.eval (.tmp 101) = .string sb := D 53 rfl _ _ rfl rfl
            exact Rgs.val rfl (Reg.wanted_if rfl rfl dg rfl) (.bool true) (by have c := Reg.consts a; generalize a.eval = ρ at *; simp [execOp, go_sem, c.1, c.2, d27, d53]) rfl hW
          · intro a w1 live S E D C2 h0 hk hW
            have d22 : a.eval (.tmp 70) = .bool true := D 22 rfl _ _ rfl rfl
            have d54 : a.eval (.tmp 102) = .bool true := D 54 rfl _ _ rfl rfl
            exact Rgs.val rfl (Reg.wanted_free rfl) (.bool true) (by have c := Reg.consts a; generalize a.eval = ρ at *; simp [execOp, go_sem, c.1, c.2, d22, d54]) rfl hW
          · intro a w1 live S E D C2 h0 hk hW
            have d55 : a.eval (.tmp 103) = .bool true := D 55 rfl _ _ rfl rfl
            exact Rgs.val rfl (Reg.wanted_free rfl) (.bool true) (by have c := Reg.consts a; generalize a.eval = ρ at *; simp [execOp, go_sem, c.1, c.2, d55]) rfl hW
        · intro a w9 live hs hd E D Hl hW
          have x6 : a.eval (.tmp 6) = .bool true := by
            obtain ⟨v, hv, he⟩ := D 56 _ rfl
            exact (he 6 rfl).trans hv
          rw [Rgs.act_ws a _ _ hs hd E [48, 49, 50, 51, 52, 53, 54, 55, 56, 57, 58, 59, 60, 61, 62, 63, 64, 65, 66, 67, 68, 69, 70, 71, 72, 73, 74, 75, 76, 77, 78, 79, 80, 81, 82, 83, 84, 85, 86, 87, 88, 89, 90, 91, 92, 93, 94, 95, 96, 97, 98, 99, 100, 101, 102, 103, 6] (by kernel_rfl)]
          simp only [List.foldl, List.setIfInBounds_toArray, List.set_cons_succ, List.set_cons_zero, x6]
          have HZ9 := HB5.out.trans (hW.mono HB5.out.size)
          have HW9 := Lib.hid hW
          clear E D Hl hW x6 
          generalize a.eval = ρ
          clear a hs hd
          go_wp2_with fail
          go_ret
          exact Ans.mk rfl HZ9
end Go.Proofs.YtomaommamjhmmaaDoor
