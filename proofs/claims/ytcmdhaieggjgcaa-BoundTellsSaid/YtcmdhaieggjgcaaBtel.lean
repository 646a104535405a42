/- BoundTells: what a frame gives is what the document says, for any rows that may be, any configuration (the walk; what package bound answers is a premise). -/
import Derived.Test.YtcmdhaieggjgcaaLow2
import Derived.Test.YtcmdhaieggjgcaaLow7
import Derived.Test.YtcmdhaieggjgcaaCfg
import Derived.Test.YtcmdhaieggjgcaaLow6
import Derived.Test.YtcmdhaieggjgcaaRegs
namespace Go.Proofs.Ytcmdhaieggjgcaa.boundTells
open Go.ChangeShapes Go.WideShapes Go.ChangeAt Go.RowKit Tab
set_option linter.unusedSimpArgs false
set_option linter.unusedVariables false

/-- A row of runs, a configuration, a tape in memory, each apart. -/
structure TelS (w0 : World) (b : Nat) (A0 : Option Addr) (n0 k0 : Nat) (f0 : Nat → Int) (BA : Nat) (AL : Option Addr) (nl cl : Nat) (L : List Rn) (BP gq : Nat) (A1 A2 A3 : Option Addr) (n1 n2 n3 c1 c2 c3 : Nat) (P : List PtV) (C : List ChV) (w : World) : Prop where
  row : OwnV 44 2 w BA AL nl cl (rs L)
  bx : Vec w gq 3 fun j => if j = 0 then .slice A1 n1 c1 else if j = 1 then .slice A2 n2 c2 else .slice A3 n3 c3
  pp : OwnB 52 11 pcl w BP A1 n1 c1 P
  ch : OwnB 48 6 cc w BP A2 n2 c2 C
  tp : ∃ at_, TapeW w b b A0 n0 k0 f0 at_
  bl : Below w0.heap.size w0 w
  l1 : w0.heap.size ≤ b
  l2 : b < BA
  l3 : BA ≤ BP
  l4 : BP ≤ gq
  al : ∀ k, obk AL = some k → k < BP
  d1 : ∀ k, obk A1 = some k → k ≠ gq
  d2 : ∀ k, obk A2 = some k → k ≠ gq
  d12 : ∀ k, obk A1 = some k → obk A2 ≠ some k
section
variable {w0 w w' : World} {b : Nat} {A0 : Option Addr} {n0 k0 : Nat} {f0 : Nat → Int} {BA : Nat} {AL : Option Addr} {nl cl : Nat} {L : List Rn} {BP gq : Nat} {A1 A2 A3 : Option Addr} {n1 n2 n3 c1 c2 c3 : Nat} {P : List PtV} {C : List ChV}
theorem TelS.bel (h : TelS w0 b A0 n0 k0 f0 BA AL nl cl L BP gq A1 A2 A3 n1 n2 n3 c1 c2 c3 P C w) (hb : Below w.heap.size w w') : TelS w0 b A0 n0 k0 f0 BA AL nl cl L BP gq A1 A2 A3 n1 n2 n3 c1 c2 c3 P C w' := by
  obtain ⟨at_, T⟩ := h.tp
  exact ⟨h.row.below rfl hb, h.bx.on hb, h.pp.below hb, h.ch.below hb, ⟨at_, T.below hb T.lt⟩, h.bl.trans (hb.mono h.bl.size), h.l1, h.l2, h.l3, h.l4, h.al, h.d1, h.d2, h.d12⟩
theorem TelS.gb (h : TelS w0 b A0 n0 k0 f0 BA AL nl cl L BP gq A1 A2 A3 n1 n2 n3 c1 c2 c3 P C w) (hg : w.grownBy w' (some b)) {at_ : Nat} (T : TapeW w' b b A0 n0 k0 f0 at_) : TelS w0 b A0 n0 k0 f0 BA AL nl cl L BP gq A1 A2 A3 n1 n2 n3 c1 c2 c3 P C w' := by
  have h1 := h.l1
  have h2 := h.l2
  have h3 := h.l3
  have h4 := h.l4
  exact ⟨h.row.gb hg h2, h.bx.keep (hg.block gq h.bx.lt (fun e => by injection e with e; omega)) hg.size, h.pp.gb hg (by omega), h.ch.gb hg (by omega), ⟨at_, T⟩, h.bl.trans ⟨hg.os, hg.tape, hg.output, hg.size, fun k hk => hg.block k (Nat.lt_of_lt_of_le hk h.bl.size) (fun e => by injection e with e; omega)⟩, h.l1, h.l2, h.l3, h.l4, h.al, h.d1, h.d2, h.d12⟩
theorem TelS.late {g2 : Nat} (h : TelS w0 b A0 n0 k0 f0 BA AL nl cl L BP gq A1 (some ⟨g2, 0, none⟩) A3 n1 n2 n3 c1 c2 c3 P C w) {i : Nat} {x : ChV} (hx : C[i]? = some x) (z : Int) : TelS w0 b A0 n0 k0 f0 BA AL nl cl L BP gq A1 (some ⟨g2, 0, none⟩) A3 n1 n2 n3 c1 c2 c3 P (C.set i { x with late := z }) (w.setCell ⟨g2, i * 6 + 5, none⟩ (.int .i64 z)) := by
  have h1 := h.l1
  have h2 := h.l2
  have h3 := h.l3
  have h4 := h.l4
  have hg : BP ≤ g2 := (h.ch.own.obk_ge (b := g2) rfl).1
  obtain ⟨at_, T⟩ := h.tp
  refine ⟨h.row.other ⟨g2, i * 6 + 5, none⟩ _ (fun g e => ?_), h.bx.other ⟨g2, i * 6 + 5, none⟩ _ (fun e => h.d2 g2 rfl e.symm), h.pp.other ⟨g2, i * 6 + 5, none⟩ _ (fun g e e2 => ?_), h.ch.put cc_len hx (by omega) (cc_late x z), ⟨at_, T.below (Bs := BP) ((Below.refl _ _).setCell (p := ⟨g2, i * 6 + 5, none⟩) hg _) (by omega)⟩, h.bl.setCell (p := ⟨g2, i * 6 + 5, none⟩) (show w0.heap.size ≤ g2 by omega) _, h.l1, h.l2, h.l3, h.l4, h.al, h.d1, h.d2, h.d12⟩
  · have := h.al g (by rw [e]; rfl)
    show g ≠ g2
    omega
  · have e2 : g = g2 := e2
    exact h.d12 g (by rw [e]; rfl) (by rw [e2]; rfl)
theorem TelS.ask {g1 : Nat} (h : TelS w0 b A0 n0 k0 f0 BA AL nl cl L BP gq (some ⟨g1, 0, none⟩) A2 A3 n1 n2 n3 c1 c2 c3 P C w) {x : PtV} (hx : P[0]? = some x) (y z : Int) : TelS w0 b A0 n0 k0 f0 BA AL nl cl L BP gq (some ⟨g1, 0, none⟩) A2 A3 n1 n2 n3 c1 c2 c3 (P.set 0 { x with bud := y, per := z }) C ((w.setCell ⟨g1, 1, none⟩ (.int .i64 y)).setCell ⟨g1, 2, none⟩ (.int .i64 z)) := by
  have h1 := h.l1
  have h2 := h.l2
  have h3 := h.l3
  have h4 := h.l4
  have hg : BP ≤ g1 := (h.pp.own.obk_ge (b := g1) rfl).1
  obtain ⟨at_, T⟩ := h.tp
  have p1 := h.pp.put pcl_len (i := 0) (k := 1) hx (by omega) (pcl_bud x y)
  have p2 := p1.put pcl_len (i := 0) (k := 2) (List.getElem?_set_self (List.getElem?_eq_some_iff.1 hx).1) (by omega) (pcl_per { x with bud := y } z)
  rw [List.set_set] at p2
  have ne : ∀ g, AL = some ⟨g, 0, none⟩ → g ≠ g1 := fun g e => by have := h.al g (by rw [e]; rfl); omega
  have nc : ∀ g, A2 = some ⟨g, 0, none⟩ → g ≠ g1 := fun g e e2 => h.d12 g1 rfl (by rw [e, e2]; rfl)
  have nb : gq ≠ g1 := fun e => h.d1 g1 rfl e.symm
  refine ⟨(h.row.other ⟨g1, 1, none⟩ _ ne).other ⟨g1, 2, none⟩ _ ne, (h.bx.other ⟨g1, 1, none⟩ _ nb).other ⟨g1, 2, none⟩ _ nb, p2, (h.ch.other ⟨g1, 1, none⟩ _ nc).other ⟨g1, 2, none⟩ _ nc, ⟨at_, T.below (Bs := BP) (((Below.refl _ _).setCell (p := ⟨g1, 1, none⟩) hg _).setCell (p := ⟨g1, 2, none⟩) hg _) (by omega)⟩, (h.bl.setCell (p := ⟨g1, 1, none⟩) (show w0.heap.size ≤ g1 by omega) _).setCell (p := ⟨g1, 2, none⟩) (show w0.heap.size ≤ g1 by omega) _, h.l1, h.l2, h.l3, h.l4, h.al, h.d1, h.d2, h.d12⟩
end
set_option maxRecDepth 100000 in
set_option maxHeartbeats 8000000 in
theorem walk (Hb : BoundW) (A0 : Option Addr) (n0 k0 : Nat) (f0 : Nat → Int) (a1 a2 a3 a4 a5 : Int) (w : World) (r0 : RdC w w.heap.size A0 n0 fun j => .int .i64 (f0 j)) (hc0 : n0 ≤ k0) (b0 : k0 ≤ 140737488351232) (z3 : In64 a3) :
    Calls Try.prog 4 #[.slice A0 n0 k0, .int .i64 a1, .int .i64 a2, .int .i64 a3, .int .i64 a4, .int .i64 a5] w (Ans (.bool true) w) := by
  have HT0 := Lib.hid (tape_boxed A0 n0 k0 f0 w r0)
  have HBT := Lib.hid (bl1 w (.cells #[.slice A0 n0 k0, .int .i64 0] 26))
  have HZ3 := Lib.hid z3
  clear r0 z3
  go_enter Try.func4, Try.ntmps4
  go_upto_region 2 with fail
  obtain ⟨b, hbb⟩ : ∃ b, b = w.heap.size := ⟨_, rfl⟩
  rw [← hbb] at HT0 ⊢
  generalize w.alloc (.cells #[.slice A0 n0 k0, .int .i64 0] 26) = wA at HT0 HBT ⊢
  have hlw : w.heap.size ≤ b := by omega
  clear hbb
  have hbA : b < wA.heap.size := HT0.out.lt
  go_wp2_with fail
  refine (row_any b b A0 n0 k0 f0 (by omega) 4 14 (by omega) (by omega) (by omega) (by omega) 0 wA HT0.out).mono ?_
  rintro e w2 ⟨L, AL, nl, cl, at1, rfl, hL, hown, h1a, h1b, T1, G1⟩
  have htk : ticks L ≤ 56 := by
    have := fair_ticks hL
    rw [hown.rdr.len] at this
    omega
  have hcl := hown.cap
  have HOW := Lib.hid hown
  have HT1 := Lib.hid T1
  have HB2 : Hid (Below w.heap.size w w2) := Lib.hid (HBT.out.trans ⟨G1.os, G1.tape, G1.output, G1.size, fun q hq => G1.block q (Nat.lt_of_lt_of_le hq HBT.out.size) (fun e => by injection e with e; omega)⟩)
  have hs2 : wA.heap.size ≤ w2.heap.size := G1.size
  clear hown T1 G1 hL HT0 HBT
  go_wp2_with fail
  refine (config_anyx b b A0 n0 k0 f0 (by omega) at1 w2 HT1.out).mono ?_
  rintro e w3 ⟨A1, A2, A3, n1, n2, n3, c1, c2, c3, P, C, T3, at2, rfl, hCf, q1, q2, q3, q4, q5, hco, hTb, hTt, q6, q7, q8, T6, G6, hper, _, _, hPo, hCo, hd12⟩
  have HPER := Lib.hid hper
  have hS4 : TelS w b A0 n0 k0 f0 wA.heap.size AL nl cl L w2.heap.size w3.heap.size A1 A2 A3 n1 n2 n3 c1 c2 c3 P C (w3.alloc (.cells #[.slice A1 n1 c1, .slice A2 n2 c2, .slice A3 n3 c3] 36)) := by
    have hbl := bl1 w3 (.cells #[.slice A1 n1 c1, .slice A2 n2 c2, .slice A3 n3 c3] 36)
    have h3 : Below w.heap.size w w3 := HB2.out.trans ⟨G6.os, G6.tape, G6.output, G6.size, fun q hq => G6.block q (Nat.lt_of_lt_of_le hq HB2.out.size) (fun e => by injection e with e; omega)⟩
    exact ⟨(HOW.out.gb G6 hbA).below rfl hbl, box_vec w3 (.slice A1 n1 c1) (.slice A2 n2 c2) (.slice A3 n3 c3) 36, hPo.below hbl, hCo.below hbl, ⟨at2, T6.below hbl T6.lt⟩, h3.trans (hbl.mono h3.size), hlw, hbA, hs2, G6.size,
      fun k e => (HOW.out.obk_ge e).2, fun k e e2 => by have := (hPo.own.obk_ge e).2; omega, fun k e e2 => by have := (hCo.own.obk_ge e).2; omega, hd12⟩
  have HS4 := Lib.hid hS4
  clear hCf hTb hTt hco T6 G6 hper hPo hCo hd12 hS4 HT1 HOW HB2
  go_upto_region 4 with fail
  generalize w3.alloc (.cells #[.slice A1 n1 c1, .slice A2 n2 c2, .slice A3 n3 c3] 36) = w4 at HS4 ⊢
  generalize w3.heap.size = gq at HS4 ⊢
  obtain ⟨T, hT⟩ : ∃ T, T = ticks L := ⟨_, rfl⟩
  have CT := Lib.hid (total_any AL nl cl L w4 HS4.out.row.rdr hcl (by omega) (by omega))
  rw [← hT] at CT
  have htT : T ≤ 56 := by omega
  clear hT
  go_wp2_with fail
  refine CT.out.mono ?_
  rintro e w5 ⟨rfl, hb5⟩
  have HS5 := Lib.hid (HS4.out.bel hb5)
  clear hb5 CT HS4
  obtain ⟨m0, m1, m2⟩ := HS5.out.bx.three
  go_wp2_with fail
  clear m0 m1 m2
  obtain ⟨zl, hzl, hzl'⟩ := and_mask a4 31 (by omega)
  have hzl : bits .and .i64 a4 31 = (zl : Int) := hzl
  go_loopw [17, 34] (fun _ s wx => ∃ (i : Nat) (C' : List ChV), i ≤ n2 ∧ s = .int .i64 i ∧ TelS w b A0 n0 k0 f0 wA.heap.size AL nl cl L w2.heap.size gq A1 A2 A3 n1 n2 n3 c1 c2 c3 P C' wx) (fun _ s _ => n2 - (intOf s).toNat)
  case atStart => exact ⟨0, C, by omega, rfl, HS5.out⟩
  case round =>
    obtain ⟨i, C', hi, rfl, hS⟩ := hrel
    have HSi := Lib.hid hS
    clear hS HS5
    by_cases hin : i < n2
    · have hini : (i : Int) < (n2 : Int) := by omega
      obtain ⟨g2, rfl, _, _⟩ := HSi.out.ch.block (by omega)
      obtain ⟨x, hx⟩ : ∃ x, C'[i]? = some x := ⟨_, List.getElem?_eq_getElem (by have := HSi.out.ch.len; omega)⟩
      obtain ⟨f5, f6⟩ := HSi.out.ch.cell cc_len (k := 5) hx (by omega) rfl
      obtain ⟨m0, m1, m2⟩ := HSi.out.bx.three
      have HX := Lib.hid hx
      clear hx
      go_wp2_with fail
      go_roundw
      case rel => exact ⟨i + 1, _, by omega, by go_num, HSi.out.late HX.out _⟩
      case measure => simp [intOf]; omega
    · have hini : ¬ (i : Int) < (n2 : Int) := by omega
      obtain ⟨wq, hwq⟩ : ∃ wq, wq = wr := ⟨_, rfl⟩
      subst hwq
      obtain ⟨g1, rfl, _, _⟩ := HSi.out.pp.block (by omega)
      obtain ⟨x0, hx0⟩ : ∃ x, P[0]? = some x := ⟨_, List.getElem?_eq_getElem (by have := HSi.out.pp.len; omega)⟩
      obtain ⟨z1, hz1, hz1'⟩ := and_mask a5 7 (by omega)
      obtain ⟨M5, hM5, hM5'⟩ := and_mask a3 15 (by omega)
      have HMK : Hid (bits .and .i64 a5 7 = (z1 : Int) ∧ bits .and .i64 a3 15 = (M5 : Int) ∧ IntKind.i64.wrap (1 + (M5 : Int)) = 1 + (M5 : Int)) := Lib.hid ⟨hz1, hM5, IntWalk.i64_in _ (by omega)⟩
      have hSq := HSi.out.bel (w' := wq.drew) (Below.refl _ _).drew
      have HSQ := Lib.hid hSq
      have e1 : wq.drew.cell? ⟨g1, 1, none⟩ = some (.int .i64 x0.bud) := (hSq.pp.cell pcl_len (i := 0) (k := 1) hx0 (by omega) rfl).1
      have e2 : wq.drew.frozen? ⟨g1, 1, none⟩ = false := (hSq.pp.cell pcl_len (i := 0) (k := 1) hx0 (by omega) rfl).2
      have hm1 := hSq.pp.put pcl_len (i := 0) (k := 1) hx0 (by omega) (pcl_bud x0 (z1 : Int))
      have k1 : (wq.drew.setCell ⟨g1, 1, none⟩ (.int .i64 (z1 : Int))).cell? ⟨g1, 2, none⟩ = some (.int .i64 x0.per) := (hm1.cell pcl_len (i := 0) (k := 2) (List.getElem?_set_self (List.getElem?_eq_some_iff.1 hx0).1) (by omega) rfl).1
      have k2 : (wq.drew.setCell ⟨g1, 1, none⟩ (.int .i64 (z1 : Int))).frozen? ⟨g1, 2, none⟩ = false := (hm1.cell pcl_len (i := 0) (k := 2) (List.getElem?_set_self (List.getElem?_eq_some_iff.1 hx0).1) (by omega) rfl).2
      have nb : gq ≠ g1 := fun e => hSq.d1 g1 rfl e.symm
      have HFA : Hid (∀ wx, (wx = wq.drew ∨ wx = wq.drew.setCell ⟨g1, 1, none⟩ (.int .i64 (z1 : Int)) ∨ wx = (wq.drew.setCell ⟨g1, 1, none⟩ (.int .i64 (z1 : Int))).setCell ⟨g1, 2, none⟩ (.int .i64 (1 + (M5 : Int)))) → wx.cell? ⟨gq, 0, none⟩ = some (.slice (some ⟨g1, 0, none⟩) n1 c1)) := Lib.hid fun wx hx => by
        rcases hx with rfl | rfl | rfl
        · exact hSq.bx.three.1
        · exact (hSq.bx.other ⟨g1, 1, none⟩ _ nb).three.1
        · exact ((hSq.bx.other ⟨g1, 1, none⟩ _ nb).other ⟨g1, 2, none⟩ _ nb).three.1
      have HLT : Hid ((0 : Int) < (n1 : Int) ∧ 0 < n1) := Lib.hid ⟨by omega, by omega⟩
      generalize x0.bud = ob at e1
      generalize x0.per = op at k1
      clear hSq hm1 nb hz1 hM5 HSi hzl
      go_wp2_with fail
      refine Rgs.region (by kernel_rfl) (by kernel_rfl) (fun (opn : Nat) (vl : Value) (_ : World) => match opn with | 0 => vl = .pointer (some ⟨gq, 0, none⟩) | 1 => vl = .slice (some ⟨g1, 0, none⟩) n1 c1 | 2 => vl = .pointer (some ⟨gq, 0, none⟩) | 3 => vl = .slice (some ⟨g1, 0, none⟩) n1 c1 | 4 => vl = .int .i64 a5 | 5 => vl = .int .i64 (z1 : Int) | 6 => vl = .int .i64 a3 | 7 => vl = .int .i64 (M5 : Int) | 8 => vl = .int .i64 (1 + (M5 : Int)) | 9 => vl = .pointer (some ⟨g1, 0, none⟩) | 10 => vl = .pointer (some ⟨g1, 1, none⟩) | 11 => vl = undef | 12 => vl = .pointer (some ⟨g1, 0, none⟩) | 13 => vl = .pointer (some ⟨g1, 2, none⟩) | 14 => vl = undef | _ => True) (fun live _ w' => Rgs.StW2 wq.drew 11 14 ⟨g1, 1, none⟩ ⟨g1, 2, none⟩ (.int .i64 (z1 : Int)) (.int .i64 (1 + (M5 : Int))) live w') rfl (Rgs.steps_of ?_) ?_
      · refine ⟨?_, ?_, ?_, ?_, ?_, ?_, ?_, ?_, ?_, ?_, ?_, ?_, ?_, ?_, ?_, trivial⟩
        · intro a w1 live S E D C h0 hk hW
          have e15 : a.eval (.tmp 15) = .pointer (some ⟨gq, 0, none⟩) := E 15 rfl
          exact Rgs.val rfl (Reg.wanted_free rfl) (.pointer (some ⟨gq, 0, none⟩)) (by have c := Reg.consts a; generalize a.eval = ρ at *; simp [execOp, go_sem, c.1, c.2, e15]) rfl (hW.upd (by decide) (by decide))
        · intro a w1 live S E D C h0 hk hW
          have d0 : a.eval (.tmp 45) = .pointer (some ⟨gq, 0, none⟩) := D 0 rfl _ _ rfl rfl
          have hc0 := HFA.out w1 hW.any
          exact Rgs.val rfl (Reg.wanted_free rfl) (.slice (some ⟨g1, 0, none⟩) n1 c1) (by have c := Reg.consts a; generalize a.eval = ρ at *; simp [execOp, go_sem, c.1, c.2, d0, hc0]) rfl (hW.upd (by decide) (by decide))
        · intro a w1 live S E D C h0 hk hW
          have e15 : a.eval (.tmp 15) = .pointer (some ⟨gq, 0, none⟩) := E 15 rfl
          exact Rgs.val rfl (Reg.wanted_free rfl) (.pointer (some ⟨gq, 0, none⟩)) (by have c := Reg.consts a; generalize a.eval = ρ at *; simp [execOp, go_sem, c.1, c.2, e15]) rfl (hW.upd (by decide) (by decide))
        · intro a w1 live S E D C h0 hk hW
          have d2 : a.eval (.tmp 47) = .pointer (some ⟨gq, 0, none⟩) := D 2 rfl _ _ rfl rfl
          have hc0 := HFA.out w1 hW.any
          exact Rgs.val rfl (Reg.wanted_free rfl) (.slice (some ⟨g1, 0, none⟩) n1 c1) (by have c := Reg.consts a; generalize a.eval = ρ at *; simp [execOp, go_sem, c.1, c.2, d2, hc0]) rfl (hW.upd (by decide) (by decide))
        · intro a w1 live S E D C h0 hk hW
          have e5 : a.eval (.tmp 5) = .int .i64 a5 := E 5 rfl
          exact Rgs.val rfl (Reg.wanted_free rfl) (.int .i64 a5) (by have c := Reg.consts a; generalize a.eval = ρ at *; simp [execOp, go_sem, c.1, c.2, e5]) rfl (hW.upd (by decide) (by decide))
        · intro a w1 live S E D C h0 hk hW
          have d4 : a.eval (.tmp 49) = .int .i64 a5 := D 4 rfl _ _ rfl rfl
          have hm := HMK.out.1
          exact Rgs.val rfl (Reg.wanted_free rfl) (.int .i64 (z1 : Int)) (by have c := Reg.consts a; generalize a.eval = ρ at *; simp [execOp, go_sem, c.1, c.2, d4, hm]) rfl (hW.upd (by decide) (by decide))
        · intro a w1 live S E D C h0 hk hW
          have e3 : a.eval (.tmp 3) = .int .i64 a3 := E 3 rfl
          exact Rgs.val rfl (Reg.wanted_free rfl) (.int .i64 a3) (by have c := Reg.consts a; generalize a.eval = ρ at *; simp [execOp, go_sem, c.1, c.2, e3]) rfl (hW.upd (by decide) (by decide))
        · intro a w1 live S E D C h0 hk hW
          have d6 : a.eval (.tmp 51) = .int .i64 a3 := D 6 rfl _ _ rfl rfl
          have hm := HMK.out.2.1
          exact Rgs.val rfl (Reg.wanted_free rfl) (.int .i64 (M5 : Int)) (by have c := Reg.consts a; generalize a.eval = ρ at *; simp [execOp, go_sem, c.1, c.2, d6, hm]) rfl (hW.upd (by decide) (by decide))
        · intro a w1 live S E D C h0 hk hW
          have d7 : a.eval (.tmp 52) = .int .i64 (M5 : Int) := D 7 rfl _ _ rfl rfl
          have hm := HMK.out.2.2
          exact Rgs.val rfl (Reg.wanted_free rfl) (.int .i64 (1 + (M5 : Int))) (by have c := Reg.consts a; generalize a.eval = ρ at *; simp [execOp, go_sem, c.1, c.2, d7, hm]) rfl (hW.upd (by decide) (by decide))
        · intro a w1 live S E D C h0 hk hW
          have d1 : a.eval (.tmp 46) = .slice (some ⟨g1, 0, none⟩) n1 c1 := D 1 rfl _ _ rfl rfl
          have i1 := HLT.out
          obtain ⟨i1, i2⟩ := i1
          exact Rgs.val rfl (Reg.wanted_free rfl) (.pointer (some ⟨g1, 0, none⟩)) (by have c := Reg.consts a; generalize a.eval = ρ at *; simp [execOp, go_sem, c.1, c.2, d1, i1, i2]) rfl (hW.upd (by decide) (by decide))
        · intro a w1 live S E D C h0 hk hW
          have d9 : a.eval (.tmp 54) = .pointer (some ⟨g1, 0, none⟩) := D 9 rfl _ _ rfl rfl
          exact Rgs.val rfl (Reg.wanted_free rfl) (.pointer (some ⟨g1, 1, none⟩)) (by have c := Reg.consts a; generalize a.eval = ρ at *; simp [execOp, go_sem, c.1, c.2, d9]) rfl (hW.upd (by decide) (by decide))
        · intro a w1 live S E D C h0 hk hW
          have d10 : a.eval (.tmp 55) = .pointer (some ⟨g1, 1, none⟩) := D 10 rfl _ _ rfl rfl
          have d5 : a.eval (.tmp 50) = .int .i64 (z1 : Int) := D 5 rfl _ _ rfl rfl
          have l14 := Reg.not_live C h0 (j := 14) rfl rfl
          have hw := hW.off h0 l14
          subst hw
          refine Rgs.store rfl (Reg.wanted_free rfl) _ (by have c := Reg.consts a; generalize a.eval = ρ at *; simp [execOp, go_sem, c.1, c.2, d10, d5, e1, e2]) rfl (Rgs.StW2.put1 _ (by decide) _ _ _ _ _ l14) (fun j v _ h => h)
        · intro a w1 live S E D C h0 hk hW
          have d3 : a.eval (.tmp 48) = .slice (some ⟨g1, 0, none⟩) n1 c1 := D 3 rfl _ _ rfl rfl
          have i1 := HLT.out
          obtain ⟨i1, i2⟩ := i1
          exact Rgs.val rfl (Reg.wanted_free rfl) (.pointer (some ⟨g1, 0, none⟩)) (by have c := Reg.consts a; generalize a.eval = ρ at *; simp [execOp, go_sem, c.1, c.2, d3, i1, i2]) rfl (hW.upd (by decide) (by decide))
        · intro a w1 live S E D C h0 hk hW
          have d12 : a.eval (.tmp 56) = .pointer (some ⟨g1, 0, none⟩) := D 12 rfl _ _ rfl rfl
          exact Rgs.val rfl (Reg.wanted_free rfl) (.pointer (some ⟨g1, 2, none⟩)) (by have c := Reg.consts a; generalize a.eval = ρ at *; simp [execOp, go_sem, c.1, c.2, d12]) rfl (hW.upd (by decide) (by decide))
        · intro a w1 live S E D C h0 hk hW
          have d13 : a.eval (.tmp 57) = .pointer (some ⟨g1, 2, none⟩) := D 13 rfl _ _ rfl rfl
          have d8 : a.eval (.tmp 53) = .int .i64 (1 + (M5 : Int)) := D 8 rfl _ _ rfl rfl
          have hw := hW.mid (hk 11 rfl) h0
          subst hw
          refine Rgs.store rfl (Reg.wanted_free rfl) ((wq.drew.setCell ⟨g1, 1, none⟩ (.int .i64 (z1 : Int))).setCell ⟨g1, 2, none⟩ (.int .i64 (1 + (M5 : Int)))) ?_ rfl (Rgs.StW2.put2 _ _ _ _ _ _ _ _) (fun j v _ h => h)
          obtain ⟨wz, hwz⟩ : ∃ wz, wz = wq.drew.setCell ⟨g1, 1, none⟩ (.int .i64 (z1 : Int)) := ⟨_, rfl⟩
          rw [← hwz] at k1 k2 ⊢
          clear hwz
          have c := Reg.consts a
          generalize a.eval = ρ at *
          simp [execOp, go_sem, c.1, c.2, d13, d8, k1, k2]
      · intro a w3 live hs hd E D' Hl hW
        rw [Rgs.act_ws a _ _ hs hd E [45, 46, 47, 48, 49, 50, 51, 52, 53, 54, 55, 56, 57] (by kernel_rfl)]
        simp only [List.foldl, List.setIfInBounds_toArray, List.set_cons_succ, List.set_cons_zero]
        have hw := hW.on (Hl 14 (by decide))
        subst hw
        clear E D' Hl hW e1 e2 k1 k2 HFA
        generalize a.eval = ρ
        clear a hs hd
        have HS11 := Lib.hid (HSQ.out.ask hx0 (z1 : Int) (1 + (M5 : Int)))
        generalize (wq.drew.setCell ⟨g1, 1, none⟩ (.int .i64 (z1 : Int))).setCell ⟨g1, 2, none⟩ (.int .i64 (1 + (M5 : Int))) = w11 at HS11 ⊢
        obtain ⟨P', hP'⟩ : ∃ P', P' = P.set 0 { x0 with bud := (z1 : Int), per := 1 + (M5 : Int) } := ⟨_, rfl⟩
        rw [← hP'] at HS11
        have HPER' : Hid (∀ x ∈ P', In64 x.per) := Lib.hid fun x hx => by
          rw [hP'] at hx
          rcases List.mem_or_eq_of_mem_set hx with hx | rfl
          · exact HPER.out x hx
          · unfold In64
            dsimp only
            omega
        clear hP' HSQ HPER HMK HLT
        obtain ⟨at3, T3⟩ := HS11.out.tp
        go_wp2_with fail
        refine (config_anyx b b A0 n0 k0 f0 (by omega) at3 w11 T3).mono ?_
        rintro e w12 ⟨B1, B2, B3, j1, j2, j3, e1, e2, e3, PY, CY, TY, at4, rfl, hCf, q1, q2, q3, q4, q5, hco, hTb, hTt, q6, q7, q8, T4, G4, hpery, hloy, hsoy, _, _, _⟩
        have hS12 := HS11.out.gb G4 T4
        have hbl := bl1 w12 (.cells #[.slice B1 j1 e1, .slice B2 j2 e2, .slice B3 j3 e3] 36)
        have hboy := box_vec w12 (.slice B1 j1 e1) (.slice B2 j2 e2) (.slice B3 j3 e3) 36
        have HS13 := Lib.hid (hS12.bel hbl)
        have HBY := Lib.hid hboy
        have HCY := Lib.hid (hCf.on hbl)
        have HTY := Lib.hid (hTb.on hbl)
        obtain ⟨ad3, t0, hB3, _, ht0, hc0, _⟩ := (hTb.on hbl).at_ tcl_len (by omega) (i := 0) (by omega)
        subst hB3
        have hd0 := hc0 _ rfl
        have ha0 : ad3.add 0 = ad3 := by simp [Addr.add]
        rw [Nat.zero_mul, ha0] at hd0
        obtain ⟨htt, hfr⟩ := hTt t0 (List.mem_of_getElem? ht0)
        have HOF := Lib.hid (rof_new t0 _ (htt.on hbl) hfr)
        have HHY : Hid (holdsF (wordsL (rowF t0)) PY CY = 0) := Lib.hid (holdsF_ok (by
          rw [List.any_eq_false]
          intro x hx
          rw [hloy x hx t0 (List.mem_of_getElem? ht0)]
          decide) (shortF_iff.2 fun k x hx => hsoy k x hx t0 (List.mem_of_getElem? ht0)))
        have HPY := Lib.hid hpery
        clear hCf hTb hTt hpery hloy hsoy hS12 hbl hboy T4 G4 T3 HS11 htt hfr ht0 hc0 hco
        generalize hrow : rowF t0 = rt at HOF HHY
        clear hrow
        go_upto_region 12 with fail
        generalize w12.alloc (.cells #[.slice B1 j1 e1, .slice B2 j2 e2, .slice (some ad3) j3 e3] 36) = w13 at HS13 HBY HCY HTY HOF hd0 ⊢
        generalize w12.heap.size = gy at HBY ⊢
        obtain ⟨tA, tn, tc, tx, tk⟩ := t0
        dsimp only at hd0 HOF
        obtain ⟨y0, y1, y2⟩ := HBY.out.three
        have hj0 : (0 : Int) < (j3 : Int) := by omega
        have hj0' : 0 < j3 := by omega
        go_wp2_with fail
        refine HOF.out.mono ?_
        rintro e w14 ⟨r, rfl, hr, hb14, _, hrl⟩
        have hrd := hr.rd
        have hrc := hr.cap
        have hrf := hr.few
        have hrt := hr.tk
        obtain ⟨ra, rn, rc, rl⟩ := r
        unfold Rw.v
        dsimp only at hrd hrc hrf hrt hrl ⊢
        subst hrl
        obtain ⟨wv, hwv⟩ : ∃ wv, wv = w14 := ⟨_, rfl⟩
        subst hwv
        have HSV := Lib.hid (HS13.out.bel hb14)
        have HYV := Lib.hid (HBY.out.on hb14)
        have HBV := Lib.hid HSV.out.bl
        obtain ⟨M1, hM1, hM1'⟩ := and_mask a1 7 (by omega)
        obtain ⟨M2, hM2, hM2'⟩ := and_mask a2 7 (by omega)
        obtain ⟨M3, hM3, hM3'⟩ := and_mask a1 3 (by omega)
        obtain ⟨M4, hM4, hM4'⟩ := and_mask a2 3 (by omega)
        obtain ⟨M6, hM6, hM6'⟩ := and_mask a3 63 (by omega)
        have HMS : Hid (bits .and .i64 a1 7 = (M1 : Int) ∧ bits .and .i64 a2 7 = (M2 : Int) ∧ bits .and .i64 a1 3 = (M3 : Int) ∧ bits .and .i64 a2 3 = (M4 : Int) ∧ IntKind.i64.wrap ((M1 : Int) - 1) = (M1 : Int) - 1 ∧ IntKind.i64.wrap ((M2 : Int) - 1) = (M2 : Int) - 1) :=
          Lib.hid ⟨hM1, hM2, hM3, hM4, IntWalk.i64_in _ (by omega), IntWalk.i64_in _ (by omega)⟩
        have hM6 : bits .and .i64 a3 63 = (M6 : Int) := hM6
        have CS1 := Lib.hid fun W (hb : Below wv.heap.size wv W) => same9_any Hb AL nl cl L ((M1 : Int) - 1) ((M2 : Int) - 1) a3 W ((HSV.out.bel hb).row.rdr) hcl (by omega) (by omega) HZ3.out
        have CC1 := Lib.hid fun W (hb : Below wv.heap.size wv W) => Hb.holds (some ⟨g1, 0, none⟩) A2 A3 AL n1 n2 n3 nl c1 c2 c3 cl P' C' L W (HSV.out.bel hb).pp.rdb (HSV.out.bel hb).ch.rdb (HSV.out.bel hb).row.rdr (by omega) (by omega) hcl (by omega) (by omega) HPER'.out
        have CC2 := Lib.hid fun W (hb : Below wv.heap.size wv W) => holdsx_any (some ⟨g1, 0, none⟩) A2 A3 AL n1 n2 n3 nl c1 c2 c3 cl P' C' L W (HSV.out.bel hb).pp.rdb (HSV.out.bel hb).ch.rdb (HSV.out.bel hb).row.rdr (by omega) (by omega) hcl (by omega) (by omega) HPER'.out
        have CC3 := Lib.hid fun W (hb : Below wv.heap.size wv W) => Hb.holds (some ⟨g1, 0, none⟩) A2 A3 ra n1 n2 n3 rn c1 c2 c3 rc P' C' rl W (HSV.out.bel hb).pp.rdb (HSV.out.bel hb).ch.rdb (hrd.on hb) (by omega) (by omega) hrc (by omega) (by omega) HPER'.out
        have CC4 := Lib.hid fun W (hb : Below wv.heap.size wv W) => holdsx_any (some ⟨g1, 0, none⟩) A2 A3 ra n1 n2 n3 rn c1 c2 c3 rc P' C' rl W (HSV.out.bel hb).pp.rdb (HSV.out.bel hb).ch.rdb (hrd.on hb) (by omega) (by omega) hrc (by omega) (by omega) HPER'.out
        have CC5 := Lib.hid fun W (hb : Below wv.heap.size wv W) => Hb.holds B1 B2 (some ad3) ra j1 j2 j3 rn e1 e2 e3 rc PY CY rl W (HCY.out.on (hb14.trans (hb.mono hb14.size))).p (HCY.out.on (hb14.trans (hb.mono hb14.size))).c (hrd.on hb) (by omega) (by omega) hrc (by omega) (by omega) HPY.out
        rw [HHY.out] at CC5
        have CKN := Lib.hid fun W (hb : Below wv.heap.size wv W) => known9_any Hb W
        generalize holdsF (wordsL L) P' C' = h1 at CC1 CC2
        generalize holdsF (wordsL rl) P' C' = h2 at CC3 CC4
        have HEQ : Hid ((h1 == h1) = true ∧ (h2 == h2) = true) := Lib.hid ⟨beq_self_eq_true _, beq_self_eq_true _⟩
        clear HS13 HBY hr hrd HOF hM1 hM2 hM3 hM4 y0 y1 y2 hj0 hj0' hd0
        go_wp2_with fail
        clear hM6
        go_loopw [21] (fun s wx => ∃ d : Nat, 1 ≤ d ∧ d ≤ 64 ∧ s = .int .i64 (d : Int) ∧ wx = wv) (fun s _ => (intOf s).toNat)
        case atStart => exact ⟨1 + M6, by omega, by omega, by go_num, rfl⟩
        case round =>
          obtain ⟨d, hd1, hd2, rfl, hwx⟩ := hrel
          have hwx' := hwx.symm
          clear hwx
          subst hwx'
          by_cases h1d : 1 < d
          · have h1i : (1 : Int) < (d : Int) := by omega
            have hdz : ¬ d = 0 := by omega
            by_cases hm : T % d = 0
            · have hz : (T : Int) % (d : Int) = 0 := by rw [← Int.natCast_emod, hm]; rfl
              have hzt : (T : Int).tmod (d : Int) = 0 := by rw [Int.tmod_eq_emod_of_nonneg (Int.natCast_nonneg _)]; exact hz
              have hzb : ((T : Int).tmod (d : Int) != 0) = false := by rw [hzt]; rfl
              have hzc : ((T : Int) % (d : Int) != 0) = false := by rw [hz]; rfl
              clear hz hzt
              have CS2 := Lib.hid fun W (hb : Below wv.heap.size wv W) => same9_any Hb AL nl cl L (M3 : Int) (M4 : Int) (d : Int) W ((HSV.out.bel hb).row.rdr) hcl (by omega) (by omega) (by unfold In64; omega)
              obtain ⟨m0, m1, m2⟩ := HSV.out.bx.three
              obtain ⟨y0, y1, y2⟩ := HYV.out.three
              go_wp2_with fail
              refine Rgs.region (by kernel_rfl) (by kernel_rfl) (fun (opn : Nat) (vl : Value) (_ : World) => match opn with | 0 => vl = .slice AL nl cl | 1 => vl = .int .i64 a1 | 2 => vl = .int .i64 (M1 : Int) | 3 => vl = .int .i64 ((M1 : Int) - 1) | 4 => vl = .int .i64 a2 | 5 => vl = .int .i64 (M2 : Int) | 6 => vl = .int .i64 ((M2 : Int) - 1) | 7 => vl = .int .i64 a3 | 8 => vl = .bool true | 9 => vl = .bool true | 10 => vl = .slice AL nl cl | 11 => vl = .int .i64 a1 | 12 => vl = .int .i64 (M3 : Int) | 13 => vl = .int .i64 a2 | 14 => vl = .int .i64 (M4 : Int) | 15 => vl = .int .i64 (d : Int) | 16 => vl = .bool true | 17 => vl = .bool true | 18 => vl = .bool true | 19 => vl = .agg #[.slice (some ⟨g1, 0, none⟩) n1 c1, .slice A2 n2 c2, .slice A3 n3 c3] | 20 => vl = .slice AL nl cl | 21 => vl = .int .i64 h1 | 22 => vl = .agg #[.slice (some ⟨g1, 0, none⟩) n1 c1, .slice A2 n2 c2, .slice A3 n3 c3] | 23 => vl = .slice AL nl cl | 24 => vl = .int .i64 h1 | 25 => vl = .bool true | 26 => vl = .bool true | 27 => vl = .bool true | 28 => vl = .agg #[.slice (some ⟨g1, 0, none⟩) n1 c1, .slice A2 n2 c2, .slice A3 n3 c3] | 29 => vl = .slice ra rn rc | 30 => vl = .int .i64 h2 | 31 => vl = .agg #[.slice (some ⟨g1, 0, none⟩) n1 c1, .slice A2 n2 c2, .slice A3 n3 c3] | 32 => vl = .slice ra rn rc | 33 => vl = .int .i64 h2 | 34 => vl = .bool true | 35 => vl = .bool true | 36 => vl = .bool true | 37 => vl = .agg #[.slice B1 j1 e1, .slice B2 j2 e2, .slice (some ad3) j3 e3] | 38 => vl = .slice ra rn rc | 39 => vl = .int .i64 0 | 40 => vl = .bool true | 41 => vl = .bool true | 42 => vl = .bool true | 43 => vl = .bool true | 44 => vl = .bool true | 45 => vl = .bool true | _ => True) (fun _ _ w' => Below wv.heap.size wv w') (Below.refl _ _).drew (Rgs.steps_of ?_) ?_
              · refine ⟨?_, ?_, ?_, ?_, ?_, ?_, ?_, ?_, ?_, ?_, ?_, ?_, ?_, ?_, ?_, ?_, ?_, ?_, ?_, ?_, ?_, ?_, ?_, ?_, ?_, ?_, ?_, ?_, ?_, ?_, ?_, ?_, ?_, ?_, ?_, ?_, ?_, ?_, ?_, ?_, ?_, ?_, ?_, ?_, ?_, ?_, trivial⟩
                · intro a w1 live S E D C h0 hk hW
                  have e14 : a.eval (.tmp 14) = .slice AL nl cl := E 14 rfl
                  exact Rgs.val rfl (Reg.wanted_free rfl) (.slice AL nl cl) (by have c := Reg.consts a; generalize a.eval = ρ at *; simp [execOp, go_sem, c.1, c.2, e14]) rfl hW
                · intro a w1 live S E D C h0 hk hW
                  have e1 : a.eval (.tmp 1) = .int .i64 a1 := E 1 rfl
                  exact Rgs.val rfl (Reg.wanted_free rfl) (.int .i64 a1) (by have c := Reg.consts a; generalize a.eval = ρ at *; simp [execOp, go_sem, c.1, c.2, e1]) rfl hW
                · intro a w1 live S E D C h0 hk hW
                  have d1 : a.eval (.tmp 82) = .int .i64 a1 := D 1 rfl _ _ rfl rfl
                  have hm := HMS.out
                  obtain ⟨b1, b2, b3, b4, b5, b6⟩ := hm
                  exact Rgs.val rfl (Reg.wanted_free rfl) (.int .i64 (M1 : Int)) (by have c := Reg.consts a; generalize a.eval = ρ at *; simp [execOp, go_sem, c.1, c.2, d1, b1]) rfl hW
                · intro a w1 live S E D C h0 hk hW
                  have d2 : a.eval (.tmp 83) = .int .i64 (M1 : Int) := D 2 rfl _ _ rfl rfl
                  have hm := HMS.out
                  obtain ⟨b1, b2, b3, b4, b5, b6⟩ := hm
                  exact Rgs.val rfl (Reg.wanted_free rfl) (.int .i64 ((M1 : Int) - 1)) (by have c := Reg.consts a; generalize a.eval = ρ at *; simp [execOp, go_sem, c.1, c.2, d2, b5]) rfl hW
                · intro a w1 live S E D C h0 hk hW
                  have e2 : a.eval (.tmp 2) = .int .i64 a2 := E 2 rfl
                  exact Rgs.val rfl (Reg.wanted_free rfl) (.int .i64 a2) (by have c := Reg.consts a; generalize a.eval = ρ at *; simp [execOp, go_sem, c.1, c.2, e2]) rfl hW
                · intro a w1 live S E D C h0 hk hW
                  have d4 : a.eval (.tmp 85) = .int .i64 a2 := D 4 rfl _ _ rfl rfl
                  have hm := HMS.out
                  obtain ⟨b1, b2, b3, b4, b5, b6⟩ := hm
                  exact Rgs.val rfl (Reg.wanted_free rfl) (.int .i64 (M2 : Int)) (by have c := Reg.consts a; generalize a.eval = ρ at *; simp [execOp, go_sem, c.1, c.2, d4, b2]) rfl hW
                · intro a w1 live S E D C h0 hk hW
                  have d5 : a.eval (.tmp 86) = .int .i64 (M2 : Int) := D 5 rfl _ _ rfl rfl
                  have hm := HMS.out
                  obtain ⟨b1, b2, b3, b4, b5, b6⟩ := hm
                  exact Rgs.val rfl (Reg.wanted_free rfl) (.int .i64 ((M2 : Int) - 1)) (by have c := Reg.consts a; generalize a.eval = ρ at *; simp [execOp, go_sem, c.1, c.2, d5, b6]) rfl hW
                · intro a w1 live S E D C h0 hk hW
                  have e3 : a.eval (.tmp 3) = .int .i64 a3 := E 3 rfl
                  exact Rgs.val rfl (Reg.wanted_free rfl) (.int .i64 a3) (by have c := Reg.consts a; generalize a.eval = ρ at *; simp [execOp, go_sem, c.1, c.2, e3]) rfl hW
                · intro a w1 live S E D C h0 hk hW
                  have d0 : a.eval (.tmp 81) = .slice AL nl cl := D 0 rfl _ _ rfl rfl
                  have d3 : a.eval (.tmp 84) = .int .i64 ((M1 : Int) - 1) := D 3 rfl _ _ rfl rfl
                  have d6 : a.eval (.tmp 87) = .int .i64 ((M2 : Int) - 1) := D 6 rfl _ _ rfl rfl
                  have d7 : a.eval (.tmp 88) = .int .i64 a3 := D 7 rfl _ _ rfl rfl
                  refine Rgs.call rfl (Reg.wanted_free rfl) 11 #[.slice AL nl cl, .int .i64 ((M1 : Int) - 1), .int .i64 ((M2 : Int) - 1), .int .i64 a3] (by have c := Reg.consts a; generalize a.eval = ρ at *; simp [execOp, go_sem, c.1, c.2, d0, d3, d6, d7]) ?_
                  refine (CS1.out w1 hW).mono ?_
                  rintro e w5 ⟨rfl, hb5⟩
                  exact ⟨_, rfl, rfl, hW.trans (hb5.mono hW.size), fun j v _ h => h⟩
                · intro a w1 live S E D C h0 hk hW
                  have d8 : a.eval (.tmp 89) = .bool true := D 8 rfl _ _ rfl rfl
                  exact Rgs.val rfl (Reg.wanted_free rfl) (.bool true) (by have c := Reg.consts a; generalize a.eval = ρ at *; simp [execOp, go_sem, c.1, c.2, d8]) rfl hW
                · intro a w1 live S E D C h0 hk hW
                  have dg : a.eval (.tmp 90) = .bool true := D 9 rfl _ _ rfl rfl
                  have e14 : a.eval (.tmp 14) = .slice AL nl cl := E 14 rfl
                  exact Rgs.val rfl (Reg.wanted_if rfl rfl dg rfl) (.slice AL nl cl) (by have c := Reg.consts a; generalize a.eval = ρ at *; simp [execOp, go_sem, c.1, c.2, e14]) rfl hW
                · intro a w1 live S E D C h0 hk hW
                  have dg : a.eval (.tmp 90) = .bool true := D 9 rfl _ _ rfl rfl
                  have e1 : a.eval (.tmp 1) = .int .i64 a1 := E 1 rfl
                  exact Rgs.val rfl (Reg.wanted_if rfl rfl dg rfl) (.int .i64 a1) (by have c := Reg.consts a; generalize a.eval = ρ at *; simp [execOp, go_sem, c.1, c.2, e1]) rfl hW
                · intro a w1 live S E D C h0 hk hW
                  have dg : a.eval (.tmp 90) = .bool true := D 9 rfl _ _ rfl rfl
                  have d11 : a.eval (.tmp 92) = .int .i64 a1 := D 11 rfl _ _ rfl rfl
                  have hm := HMS.out
                  obtain ⟨b1, b2, b3, b4, b5, b6⟩ := hm
                  exact Rgs.val rfl (Reg.wanted_if rfl rfl dg rfl) (.int .i64 (M3 : Int)) (by have c := Reg.consts a; generalize a.eval = ρ at *; simp [execOp, go_sem, c.1, c.2, d11, b3]) rfl hW
                · intro a w1 live S E D C h0 hk hW
                  have dg : a.eval (.tmp 90) = .bool true := D 9 rfl _ _ rfl rfl
                  have e2 : a.eval (.tmp 2) = .int .i64 a2 := E 2 rfl
                  exact Rgs.val rfl (Reg.wanted_if rfl rfl dg rfl) (.int .i64 a2) (by have c := Reg.consts a; generalize a.eval = ρ at *; simp [execOp, go_sem, c.1, c.2, e2]) rfl hW
                · intro a w1 live S E D C h0 hk hW
                  have dg : a.eval (.tmp 90) = .bool true := D 9 rfl _ _ rfl rfl
                  have d13 : a.eval (.tmp 94) = .int .i64 a2 := D 13 rfl _ _ rfl rfl
                  have hm := HMS.out
                  obtain ⟨b1, b2, b3, b4, b5, b6⟩ := hm
                  exact Rgs.val rfl (Reg.wanted_if rfl rfl dg rfl) (.int .i64 (M4 : Int)) (by have c := Reg.consts a; generalize a.eval = ρ at *; simp [execOp, go_sem, c.1, c.2, d13, b4]) rfl hW
                · intro a w1 live S E D C h0 hk hW
                  have dg : a.eval (.tmp 90) = .bool true := D 9 rfl _ _ rfl rfl
                  have e21 : a.eval (.tmp 21) = .int .i64 (d : Int) := E 21 rfl
                  exact Rgs.val rfl (Reg.wanted_if rfl rfl dg rfl) (.int .i64 (d : Int)) (by have c := Reg.consts a; generalize a.eval = ρ at *; simp [execOp, go_sem, c.1, c.2, e21]) rfl hW
                · intro a w1 live S E D C h0 hk hW
                  have dg : a.eval (.tmp 90) = .bool true := D 9 rfl _ _ rfl rfl
                  have d10 : a.eval (.tmp 91) = .slice AL nl cl := D 10 rfl _ _ rfl rfl
                  have d12 : a.eval (.tmp 93) = .int .i64 (M3 : Int) := D 12 rfl _ _ rfl rfl
                  have d14 : a.eval (.tmp 95) = .int .i64 (M4 : Int) := D 14 rfl _ _ rfl rfl
                  have d15 : a.eval (.tmp 96) = .int .i64 (d : Int) := D 15 rfl _ _ rfl rfl
                  refine Rgs.call rfl (Reg.wanted_if rfl rfl dg rfl) 11 #[.slice AL nl cl, .int .i64 (M3 : Int), .int .i64 (M4 : Int), .int .i64 (d : Int)] (by have c := Reg.consts a; generalize a.eval = ρ at *; simp [execOp, go_sem, c.1, c.2, d10, d12, d14, d15]) ?_
                  refine (CS2.out w1 hW).mono ?_
                  rintro e w5 ⟨rfl, hb5⟩
                  exact ⟨_, rfl, rfl, hW.trans (hb5.mono hW.size), fun j v _ h => h⟩
                · intro a w1 live S E D C h0 hk hW
                  have d9 : a.eval (.tmp 90) = .bool true := D 9 rfl _ _ rfl rfl
                  have d16 : a.eval (.tmp 97) = .bool true := D 16 rfl _ _ rfl rfl
                  exact Rgs.val rfl (Reg.wanted_free rfl) (.bool true) (by have c := Reg.consts a; generalize a.eval = ρ at *; simp [execOp, go_sem, c.1, c.2, d9, d16]) rfl hW
                · intro a w1 live S E D C h0 hk hW
                  have d17 : a.eval (.tmp 98) = .bool true := D 17 rfl _ _ rfl rfl
                  exact Rgs.val rfl (Reg.wanted_free rfl) (.bool true) (by have c := Reg.consts a; generalize a.eval = ρ at *; simp [execOp, go_sem, c.1, c.2, d17]) rfl hW
                · intro a w1 live S E D C h0 hk hW
                  have dg : a.eval (.tmp 99) = .bool true := D 18 rfl _ _ rfl rfl
                  have e15 : a.eval (.tmp 15) = .pointer (some ⟨gq, 0, none⟩) := E 15 rfl
                  have hc0 := (hW.cell (p := ⟨gq, 0, none⟩) (World.block_lt_of_cell? _ _ m0)).trans m0
                  have hc1 := (hW.cell (p := ⟨gq, 1, none⟩) (World.block_lt_of_cell? _ _ m1)).trans m1
                  have hc2 := (hW.cell (p := ⟨gq, 2, none⟩) (World.block_lt_of_cell? _ _ m2)).trans m2
                  exact Rgs.val rfl (Reg.wanted_if rfl rfl dg rfl) (.agg #[.slice (some ⟨g1, 0, none⟩) n1 c1, .slice A2 n2 c2, .slice A3 n3 c3]) (by have c := Reg.consts a; generalize a.eval = ρ at *; simp [execOp, go_sem, c.1, c.2, e15, hc0, hc1, hc2]) rfl hW
                · intro a w1 live S E D C h0 hk hW
                  have dg : a.eval (.tmp 99) = .bool true := D 18 rfl _ _ rfl rfl
                  have e14 : a.eval (.tmp 14) = .slice AL nl cl := E 14 rfl
                  exact Rgs.val rfl (Reg.wanted_if rfl rfl dg rfl) (.slice AL nl cl) (by have c := Reg.consts a; generalize a.eval = ρ at *; simp [execOp, go_sem, c.1, c.2, e14]) rfl hW
                · intro a w1 live S E D C h0 hk hW
                  have dg : a.eval (.tmp 99) = .bool true := D 18 rfl _ _ rfl rfl
                  have d19 : a.eval (.tmp 100) = .agg #[.slice (some ⟨g1, 0, none⟩) n1 c1, .slice A2 n2 c2, .slice A3 n3 c3] := D 19 rfl _ _ rfl rfl
                  have d20 : a.eval (.tmp 101) = .slice AL nl cl := D 20 rfl _ _ rfl rfl
                  refine Rgs.call rfl (Reg.wanted_if rfl rfl dg rfl) 16 #[.agg #[.slice (some ⟨g1, 0, none⟩) n1 c1, .slice A2 n2 c2, .slice A3 n3 c3], .slice AL nl cl] (by have c := Reg.consts a; generalize a.eval = ρ at *; simp [execOp, go_sem, c.1, c.2, d19, d20]) ?_
                  refine (CC1.out w1 hW).mono ?_
                  rintro e w5 ⟨rfl, hb5⟩
                  exact ⟨_, rfl, rfl, hW.trans (hb5.mono hW.size), fun j v _ h => h⟩
                · intro a w1 live S E D C h0 hk hW
                  have dg : a.eval (.tmp 99) = .bool true := D 18 rfl _ _ rfl rfl
                  have e15 : a.eval (.tmp 15) = .pointer (some ⟨gq, 0, none⟩) := E 15 rfl
                  have hc0 := (hW.cell (p := ⟨gq, 0, none⟩) (World.block_lt_of_cell? _ _ m0)).trans m0
                  have hc1 := (hW.cell (p := ⟨gq, 1, none⟩) (World.block_lt_of_cell? _ _ m1)).trans m1
                  have hc2 := (hW.cell (p := ⟨gq, 2, none⟩) (World.block_lt_of_cell? _ _ m2)).trans m2
                  exact Rgs.val rfl (Reg.wanted_if rfl rfl dg rfl) (.agg #[.slice (some ⟨g1, 0, none⟩) n1 c1, .slice A2 n2 c2, .slice A3 n3 c3]) (by have c := Reg.consts a; generalize a.eval = ρ at *; simp [execOp, go_sem, c.1, c.2, e15, hc0, hc1, hc2]) rfl hW
                · intro a w1 live S E D C h0 hk hW
                  have dg : a.eval (.tmp 99) = .bool true := D 18 rfl _ _ rfl rfl
                  have e14 : a.eval (.tmp 14) = .slice AL nl cl := E 14 rfl
                  exact Rgs.val rfl (Reg.wanted_if rfl rfl dg rfl) (.slice AL nl cl) (by have c := Reg.consts a; generalize a.eval = ρ at *; simp [execOp, go_sem, c.1, c.2, e14]) rfl hW
                · intro a w1 live S E D C h0 hk hW
                  have dg : a.eval (.tmp 99) = .bool true := D 18 rfl _ _ rfl rfl
                  have d22 : a.eval (.tmp 103) = .agg #[.slice (some ⟨g1, 0, none⟩) n1 c1, .slice A2 n2 c2, .slice A3 n3 c3] := D 22 rfl _ _ rfl rfl
                  have d23 : a.eval (.tmp 104) = .slice AL nl cl := D 23 rfl _ _ rfl rfl
                  refine Rgs.call rfl (Reg.wanted_if rfl rfl dg rfl) 17 #[.agg #[.slice (some ⟨g1, 0, none⟩) n1 c1, .slice A2 n2 c2, .slice A3 n3 c3], .slice AL nl cl] (by have c := Reg.consts a; generalize a.eval = ρ at *; simp [execOp, go_sem, c.1, c.2, d22, d23]) ?_
                  refine (CC2.out w1 hW).mono ?_
                  rintro e w5 ⟨rfl, hb5⟩
                  exact ⟨_, rfl, rfl, hW.trans (hb5.mono hW.size), fun j v _ h => h⟩
                · intro a w1 live S E D C h0 hk hW
                  have dg : a.eval (.tmp 99) = .bool true := D 18 rfl _ _ rfl rfl
                  have d21 : a.eval (.tmp 102) = .int .i64 h1 := D 21 rfl _ _ rfl rfl
                  have d24 : a.eval (.tmp 105) = .int .i64 h1 := D 24 rfl _ _ rfl rfl
                  have hne := HEQ.out
                  exact Rgs.val rfl (Reg.wanted_if rfl rfl dg rfl) (.bool true) (by have c := Reg.consts a; generalize a.eval = ρ at *; simp [execOp, go_sem, c.1, c.2, d21, d24, hne.1]) rfl hW
                · intro a w1 live S E D C h0 hk hW
                  have d18 : a.eval (.tmp 99) = .bool true := D 18 rfl _ _ rfl rfl
                  have d25 : a.eval (.tmp 106) = .bool true := D 25 rfl _ _ rfl rfl
                  exact Rgs.val rfl (Reg.wanted_free rfl) (.bool true) (by have c := Reg.consts a; generalize a.eval = ρ at *; simp [execOp, go_sem, c.1, c.2, d18, d25]) rfl hW
                · intro a w1 live S E D C h0 hk hW
                  have d26 : a.eval (.tmp 107) = .bool true := D 26 rfl _ _ rfl rfl
                  exact Rgs.val rfl (Reg.wanted_free rfl) (.bool true) (by have c := Reg.consts a; generalize a.eval = ρ at *; simp [execOp, go_sem, c.1, c.2, d26]) rfl hW
                · intro a w1 live S E D C h0 hk hW
                  have dg : a.eval (.tmp 108) = .bool true := D 27 rfl _ _ rfl rfl
                  have e15 : a.eval (.tmp 15) = .pointer (some ⟨gq, 0, none⟩) := E 15 rfl
                  have hc0 := (hW.cell (p := ⟨gq, 0, none⟩) (World.block_lt_of_cell? _ _ m0)).trans m0
                  have hc1 := (hW.cell (p := ⟨gq, 1, none⟩) (World.block_lt_of_cell? _ _ m1)).trans m1
                  have hc2 := (hW.cell (p := ⟨gq, 2, none⟩) (World.block_lt_of_cell? _ _ m2)).trans m2
                  exact Rgs.val rfl (Reg.wanted_if rfl rfl dg rfl) (.agg #[.slice (some ⟨g1, 0, none⟩) n1 c1, .slice A2 n2 c2, .slice A3 n3 c3]) (by have c := Reg.consts a; generalize a.eval = ρ at *; simp [execOp, go_sem, c.1, c.2, e15, hc0, hc1, hc2]) rfl hW
                · intro a w1 live S E D C h0 hk hW
                  have dg : a.eval (.tmp 108) = .bool true := D 27 rfl _ _ rfl rfl
                  have e19 : a.eval (.tmp 19) = .slice ra rn rc := E 19 rfl
                  exact Rgs.val rfl (Reg.wanted_if rfl rfl dg rfl) (.slice ra rn rc) (by have c := Reg.consts a; generalize a.eval = ρ at *; simp [execOp, go_sem, c.1, c.2, e19]) rfl hW
                · intro a w1 live S E D C h0 hk hW
                  have dg : a.eval (.tmp 108) = .bool true := D 27 rfl _ _ rfl rfl
                  have d28 : a.eval (.tmp 109) = .agg #[.slice (some ⟨g1, 0, none⟩) n1 c1, .slice A2 n2 c2, .slice A3 n3 c3] := D 28 rfl _ _ rfl rfl
                  have d29 : a.eval (.tmp 110) = .slice ra rn rc := D 29 rfl _ _ rfl rfl
                  refine Rgs.call rfl (Reg.wanted_if rfl rfl dg rfl) 16 #[.agg #[.slice (some ⟨g1, 0, none⟩) n1 c1, .slice A2 n2 c2, .slice A3 n3 c3], .slice ra rn rc] (by have c := Reg.consts a; generalize a.eval = ρ at *; simp [execOp, go_sem, c.1, c.2, d28, d29]) ?_
                  refine (CC3.out w1 hW).mono ?_
                  rintro e w5 ⟨rfl, hb5⟩
                  exact ⟨_, rfl, rfl, hW.trans (hb5.mono hW.size), fun j v _ h => h⟩
                · intro a w1 live S E D C h0 hk hW
                  have dg : a.eval (.tmp 108) = .bool true := D 27 rfl _ _ rfl rfl
                  have e15 : a.eval (.tmp 15) = .pointer (some ⟨gq, 0, none⟩) := E 15 rfl
                  have hc0 := (hW.cell (p := ⟨gq, 0, none⟩) (World.block_lt_of_cell? _ _ m0)).trans m0
                  have hc1 := (hW.cell (p := ⟨gq, 1, none⟩) (World.block_lt_of_cell? _ _ m1)).trans m1
                  have hc2 := (hW.cell (p := ⟨gq, 2, none⟩) (World.block_lt_of_cell? _ _ m2)).trans m2
                  exact Rgs.val rfl (Reg.wanted_if rfl rfl dg rfl) (.agg #[.slice (some ⟨g1, 0, none⟩) n1 c1, .slice A2 n2 c2, .slice A3 n3 c3]) (by have c := Reg.consts a; generalize a.eval = ρ at *; simp [execOp, go_sem, c.1, c.2, e15, hc0, hc1, hc2]) rfl hW
                · intro a w1 live S E D C h0 hk hW
                  have dg : a.eval (.tmp 108) = .bool true := D 27 rfl _ _ rfl rfl
                  have e19 : a.eval (.tmp 19) = .slice ra rn rc := E 19 rfl
                  exact Rgs.val rfl (Reg.wanted_if rfl rfl dg rfl) (.slice ra rn rc) (by have c := Reg.consts a; generalize a.eval = ρ at *; simp [execOp, go_sem, c.1, c.2, e19]) rfl hW
                · intro a w1 live S E D C h0 hk hW
                  have dg : a.eval (.tmp 108) = .bool true := D 27 rfl _ _ rfl rfl
                  have d31 : a.eval (.tmp 112) = .agg #[.slice (some ⟨g1, 0, none⟩) n1 c1, .slice A2 n2 c2, .slice A3 n3 c3] := D 31 rfl _ _ rfl rfl
                  have d32 : a.eval (.tmp 113) = .slice ra rn rc := D 32 rfl _ _ rfl rfl
                  refine Rgs.call rfl (Reg.wanted_if rfl rfl dg rfl) 17 #[.agg #[.slice (some ⟨g1, 0, none⟩) n1 c1, .slice A2 n2 c2, .slice A3 n3 c3], .slice ra rn rc] (by have c := Reg.consts a; generalize a.eval = ρ at *; simp [execOp, go_sem, c.1, c.2, d31, d32]) ?_
                  refine (CC4.out w1 hW).mono ?_
                  rintro e w5 ⟨rfl, hb5⟩
                  exact ⟨_, rfl, rfl, hW.trans (hb5.mono hW.size), fun j v _ h => h⟩
                · intro a w1 live S E D C h0 hk hW
                  have dg : a.eval (.tmp 108) = .bool true := D 27 rfl _ _ rfl rfl
                  have d30 : a.eval (.tmp 111) = .int .i64 h2 := D 30 rfl _ _ rfl rfl
                  have d33 : a.eval (.tmp 114) = .int .i64 h2 := D 33 rfl _ _ rfl rfl
                  have hne := HEQ.out
                  exact Rgs.val rfl (Reg.wanted_if rfl rfl dg rfl) (.bool true) (by have c := Reg.consts a; generalize a.eval = ρ at *; simp [execOp, go_sem, c.1, c.2, d30, d33, hne.2]) rfl hW
                · intro a w1 live S E D C h0 hk hW
                  have d27 : a.eval (.tmp 108) = .bool true := D 27 rfl _ _ rfl rfl
                  have d34 : a.eval (.tmp 115) = .bool true := D 34 rfl _ _ rfl rfl
                  exact Rgs.val rfl (Reg.wanted_free rfl) (.bool true) (by have c := Reg.consts a; generalize a.eval = ρ at *; simp [execOp, go_sem, c.1, c.2, d27, d34]) rfl hW
                · intro a w1 live S E D C h0 hk hW
                  have d35 : a.eval (.tmp 116) = .bool true := D 35 rfl _ _ rfl rfl
                  exact Rgs.val rfl (Reg.wanted_free rfl) (.bool true) (by have c := Reg.consts a; generalize a.eval = ρ at *; simp [execOp, go_sem, c.1, c.2, d35]) rfl hW
                · intro a w1 live S E D C h0 hk hW
                  have dg : a.eval (.tmp 117) = .bool true := D 36 rfl _ _ rfl rfl
                  have e18 : a.eval (.tmp 18) = .pointer (some ⟨gy, 0, none⟩) := E 18 rfl
                  have hc0 := (hW.cell (p := ⟨gy, 0, none⟩) (World.block_lt_of_cell? _ _ y0)).trans y0
                  have hc1 := (hW.cell (p := ⟨gy, 1, none⟩) (World.block_lt_of_cell? _ _ y1)).trans y1
                  have hc2 := (hW.cell (p := ⟨gy, 2, none⟩) (World.block_lt_of_cell? _ _ y2)).trans y2
                  exact Rgs.val rfl (Reg.wanted_if rfl rfl dg rfl) (.agg #[.slice B1 j1 e1, .slice B2 j2 e2, .slice (some ad3) j3 e3]) (by have c := Reg.consts a; generalize a.eval = ρ at *; simp [execOp, go_sem, c.1, c.2, e18, hc0, hc1, hc2]) rfl hW
                · intro a w1 live S E D C h0 hk hW
                  have dg : a.eval (.tmp 117) = .bool true := D 36 rfl _ _ rfl rfl
                  have e19 : a.eval (.tmp 19) = .slice ra rn rc := E 19 rfl
                  exact Rgs.val rfl (Reg.wanted_if rfl rfl dg rfl) (.slice ra rn rc) (by have c := Reg.consts a; generalize a.eval = ρ at *; simp [execOp, go_sem, c.1, c.2, e19]) rfl hW
                · intro a w1 live S E D C h0 hk hW
                  have dg : a.eval (.tmp 117) = .bool true := D 36 rfl _ _ rfl rfl
                  have d37 : a.eval (.tmp 118) = .agg #[.slice B1 j1 e1, .slice B2 j2 e2, .slice (some ad3) j3 e3] := D 37 rfl _ _ rfl rfl
                  have d38 : a.eval (.tmp 119) = .slice ra rn rc := D 38 rfl _ _ rfl rfl
                  refine Rgs.call rfl (Reg.wanted_if rfl rfl dg rfl) 16 #[.agg #[.slice B1 j1 e1, .slice B2 j2 e2, .slice (some ad3) j3 e3], .slice ra rn rc] (by have c := Reg.consts a; generalize a.eval = ρ at *; simp [execOp, go_sem, c.1, c.2, d37, d38]) ?_
                  refine (CC5.out w1 hW).mono ?_
                  rintro e w5 ⟨rfl, hb5⟩
                  exact ⟨_, rfl, rfl, hW.trans (hb5.mono hW.size), fun j v _ h => h⟩
                · intro a w1 live S E D C h0 hk hW
                  have dg : a.eval (.tmp 117) = .bool true := D 36 rfl _ _ rfl rfl
                  have d39 : a.eval (.tmp 120) = .int .i64 0 := D 39 rfl _ _ rfl rfl
                  exact Rgs.val rfl (Reg.wanted_if rfl rfl dg rfl) (.bool true) (by have c := Reg.consts a; generalize a.eval = ρ at *; simp [execOp, go_sem, c.1, c.2, d39]) rfl hW
                · intro a w1 live S E D C h0 hk hW
                  have d36 : a.eval (.tmp 117) = .bool true := D 36 rfl _ _ rfl rfl
                  have d40 : a.eval (.tmp 121) = .bool true := D 40 rfl _ _ rfl rfl
                  exact Rgs.val rfl (Reg.wanted_free rfl) (.bool true) (by have c := Reg.consts a; generalize a.eval = ρ at *; simp [execOp, go_sem, c.1, c.2, d36, d40]) rfl hW
                · intro a w1 live S E D C h0 hk hW
                  have d41 : a.eval (.tmp 122) = .bool true := D 41 rfl _ _ rfl rfl
                  exact Rgs.val rfl (Reg.wanted_free rfl) (.bool true) (by have c := Reg.consts a; generalize a.eval = ρ at *; simp [execOp, go_sem, c.1, c.2, d41]) rfl hW
                · intro a w1 live S E D C h0 hk hW
                  have dg : a.eval (.tmp 123) = .bool true := D 42 rfl _ _ rfl rfl
                  refine Rgs.call rfl (Reg.wanted_if rfl rfl dg rfl) 18 #[] (by have c := Reg.consts a; generalize a.eval = ρ at *; simp [execOp, go_sem, c.1, c.2, go_sem]) ?_
                  refine (CKN.out w1 hW).mono ?_
                  rintro e w5 ⟨rfl, hb5⟩
                  exact ⟨_, rfl, rfl, hW.trans (hb5.mono hW.size), fun j v _ h => h⟩
                · intro a w1 live S E D C h0 hk hW
                  have d42 : a.eval (.tmp 123) = .bool true := D 42 rfl _ _ rfl rfl
                  have d43 : a.eval (.tmp 124) = .bool true := D 43 rfl _ _ rfl rfl
                  exact Rgs.val rfl (Reg.wanted_free rfl) (.bool true) (by have c := Reg.consts a; generalize a.eval = ρ at *; simp [execOp, go_sem, c.1, c.2, d42, d43]) rfl hW
                · intro a w1 live S E D C h0 hk hW
                  have d44 : a.eval (.tmp 125) = .bool true := D 44 rfl _ _ rfl rfl
                  exact Rgs.val rfl (Reg.wanted_free rfl) (.bool true) (by have c := Reg.consts a; generalize a.eval = ρ at *; simp [execOp, go_sem, c.1, c.2, d44]) rfl hW
              · intro a w4 live hs hd E D Hl hW
                have e12 : a.eval (.tmp 12) = .bool true := by
                  obtain ⟨v, hv, he⟩ := D 45 _ rfl
                  exact (he 12 rfl).trans hv
                rw [Rgs.act_ws a _ _ hs hd E [81, 82, 83, 84, 85, 86, 87, 88, 89, 90, 91, 92, 93, 94, 95, 96, 97, 98, 99, 100, 101, 102, 103, 104, 105, 106, 107, 108, 109, 110, 111, 112, 113, 114, 115, 116, 117, 118, 119, 120, 121, 122, 123, 124, 125, 12] (by kernel_rfl)]
                simp only [List.foldl, List.setIfInBounds_toArray, List.set_cons_succ, List.set_cons_zero, e12]
                have HB9 := Lib.hid (HBV.out.trans (Below.mono hW HBV.out.size))
                clear E D Hl hW e12 CS1 CS2 CC1 CC2 CC3 CC4 CC5 CKN HMS HEQ m0 m1 m2 y0 y1 y2
                generalize a.eval = ρ
                clear a hs hd
                go_wp2_with fail
                go_ret
                exact Ans.mk rfl HB9.out
            · have hz : ¬ (T : Int) % (d : Int) = 0 := by rw [← Int.natCast_emod]; omega
              have hzt : ¬ (T : Int).tmod (d : Int) = 0 := by rw [Int.tmod_eq_emod_of_nonneg (Int.natCast_nonneg _)]; exact hz
              have hzb : ((T : Int).tmod (d : Int) != 0) = true := bne_iff_ne.2 hzt
              have hzc : ((T : Int) % (d : Int) != 0) = true := bne_iff_ne.2 hz
              clear hz hzt
              go_wp2_with fail
              go_roundw
              case rel => exact ⟨d - 1, by omega, by omega, by go_num, by trivial⟩
              case measure => simp [intOf]; omega
          · have h1i : ¬ (1 : Int) < (d : Int) := by omega
            have CS2 := Lib.hid fun W (hb : Below wv.heap.size wv W) => same9_any Hb AL nl cl L (M3 : Int) (M4 : Int) (d : Int) W ((HSV.out.bel hb).row.rdr) hcl (by omega) (by omega) (by unfold In64; omega)
            obtain ⟨m0, m1, m2⟩ := HSV.out.bx.three
            obtain ⟨y0, y1, y2⟩ := HYV.out.three
            go_wp2_with fail
            refine Rgs.region (by kernel_rfl) (by kernel_rfl) (fun (opn : Nat) (vl : Value) (_ : World) => match opn with | 0 => vl = .slice AL nl cl | 1 => vl = .int .i64 a1 | 2 => vl = .int .i64 (M1 : Int) | 3 => vl = .int .i64 ((M1 : Int) - 1) | 4 => vl = .int .i64 a2 | 5 => vl = .int .i64 (M2 : Int) | 6 => vl = .int .i64 ((M2 : Int) - 1) | 7 => vl = .int .i64 a3 | 8 => vl = .bool true | 9 => vl = .bool true | 10 => vl = .slice AL nl cl | 11 => vl = .int .i64 a1 | 12 => vl = .int .i64 (M3 : Int) | 13 => vl = .int .i64 a2 | 14 => vl = .int .i64 (M4 : Int) | 15 => vl = .int .i64 (d : Int) | 16 => vl = .bool true | 17 => vl = .bool true | 18 => vl = .bool true | 19 => vl = .agg #[.slice (some ⟨g1, 0, none⟩) n1 c1, .slice A2 n2 c2, .slice A3 n3 c3] | 20 => vl = .slice AL nl cl | 21 => vl = .int .i64 h1 | 22 => vl = .agg #[.slice (some ⟨g1, 0, none⟩) n1 c1, .slice A2 n2 c2, .slice A3 n3 c3] | 23 => vl = .slice AL nl cl | 24 => vl = .int .i64 h1 | 25 => vl = .bool true | 26 => vl = .bool true | 27 => vl = .bool true | 28 => vl = .agg #[.slice (some ⟨g1, 0, none⟩) n1 c1, .slice A2 n2 c2, .slice A3 n3 c3] | 29 => vl = .slice ra rn rc | 30 => vl = .int .i64 h2 | 31 => vl = .agg #[.slice (some ⟨g1, 0, none⟩) n1 c1, .slice A2 n2 c2, .slice A3 n3 c3] | 32 => vl = .slice ra rn rc | 33 => vl = .int .i64 h2 | 34 => vl = .bool true | 35 => vl = .bool true | 36 => vl = .bool true | 37 => vl = .agg #[.slice B1 j1 e1, .slice B2 j2 e2, .slice (some ad3) j3 e3] | 38 => vl = .slice ra rn rc | 39 => vl = .int .i64 0 | 40 => vl = .bool true | 41 => vl = .bool true | 42 => vl = .bool true | 43 => vl = .bool true | 44 => vl = .bool true | 45 => vl = .bool true | _ => True) (fun _ _ w' => Below wv.heap.size wv w') (Below.refl _ _).drew (Rgs.steps_of ?_) ?_
            · refine ⟨?_, ?_, ?_, ?_, ?_, ?_, ?_, ?_, ?_, ?_, ?_, ?_, ?_, ?_, ?_, ?_, ?_, ?_, ?_, ?_, ?_, ?_, ?_, ?_, ?_, ?_, ?_, ?_, ?_, ?_, ?_, ?_, ?_, ?_, ?_, ?_, ?_, ?_, ?_, ?_, ?_, ?_, ?_, ?_, ?_, ?_, trivial⟩
              · intro a w1 live S E D C h0 hk hW
                have e14 : a.eval (.tmp 14) = .slice AL nl cl := E 14 rfl
                exact Rgs.val rfl (Reg.wanted_free rfl) (.slice AL nl cl) (by have c := Reg.consts a; generalize a.eval = ρ at *; simp [execOp, go_sem, c.1, c.2, e14]) rfl hW
              · intro a w1 live S E D C h0 hk hW
                have e1 : a.eval (.tmp 1) = .int .i64 a1 := E 1 rfl
                exact Rgs.val rfl (Reg.wanted_free rfl) (.int .i64 a1) (by have c := Reg.consts a; generalize a.eval = ρ at *; simp [execOp, go_sem, c.1, c.2, e1]) rfl hW
              · intro a w1 live S E D C h0 hk hW
                have d1 : a.eval (.tmp 82) = .int .i64 a1 := D 1 rfl _ _ rfl rfl
                have hm := HMS.out
                obtain ⟨b1, b2, b3, b4, b5, b6⟩ := hm
                exact Rgs.val rfl (Reg.wanted_free rfl) (.int .i64 (M1 : Int)) (by have c := Reg.consts a; generalize a.eval = ρ at *; simp [execOp, go_sem, c.1, c.2, d1, b1]) rfl hW
              · intro a w1 live S E D C h0 hk hW
                have d2 : a.eval (.tmp 83) = .int .i64 (M1 : Int) := D 2 rfl _ _ rfl rfl
                have hm := HMS.out
                obtain ⟨b1, b2, b3, b4, b5, b6⟩ := hm
                exact Rgs.val rfl (Reg.wanted_free rfl) (.int .i64 ((M1 : Int) - 1)) (by have c := Reg.consts a; generalize a.eval = ρ at *; simp [execOp, go_sem, c.1, c.2, d2, b5]) rfl hW
              · intro a w1 live S E D C h0 hk hW
                have e2 : a.eval (.tmp 2) = .int .i64 a2 := E 2 rfl
                exact Rgs.val rfl (Reg.wanted_free rfl) (.int .i64 a2) (by have c := Reg.consts a; generalize a.eval = ρ at *; simp [execOp, go_sem, c.1, c.2, e2]) rfl hW
              · intro a w1 live S E D C h0 hk hW
                have d4 : a.eval (.tmp 85) = .int .i64 a2 := D 4 rfl _ _ rfl rfl
                have hm := HMS.out
                obtain ⟨b1, b2, b3, b4, b5, b6⟩ := hm
                exact Rgs.val rfl (Reg.wanted_free rfl) (.int .i64 (M2 : Int)) (by have c := Reg.consts a; generalize a.eval = ρ at *; simp [execOp, go_sem, c.1, c.2, d4, b2]) rfl hW
              · intro a w1 live S E D C h0 hk hW
                have d5 : a.eval (.tmp 86) = .int .i64 (M2 : Int) := D 5 rfl _ _ rfl rfl
                have hm := HMS.out
                obtain ⟨b1, b2, b3, b4, b5, b6⟩ := hm
                exact Rgs.val rfl (Reg.wanted_free rfl) (.int .i64 ((M2 : Int) - 1)) (by have c := Reg.consts a; generalize a.eval = ρ at *; simp [execOp, go_sem, c.1, c.2, d5, b6]) rfl hW
              · intro a w1 live S E D C h0 hk hW
                have e3 : a.eval (.tmp 3) = .int .i64 a3 := E 3 rfl
                exact Rgs.val rfl (Reg.wanted_free rfl) (.int .i64 a3) (by have c := Reg.consts a; generalize a.eval = ρ at *; simp [execOp, go_sem, c.1, c.2, e3]) rfl hW
              · intro a w1 live S E D C h0 hk hW
                have d0 : a.eval (.tmp 81) = .slice AL nl cl := D 0 rfl _ _ rfl rfl
                have d3 : a.eval (.tmp 84) = .int .i64 ((M1 : Int) - 1) := D 3 rfl _ _ rfl rfl
                have d6 : a.eval (.tmp 87) = .int .i64 ((M2 : Int) - 1) := D 6 rfl _ _ rfl rfl
                have d7 : a.eval (.tmp 88) = .int .i64 a3 := D 7 rfl _ _ rfl rfl
                refine Rgs.call rfl (Reg.wanted_free rfl) 11 #[.slice AL nl cl, .int .i64 ((M1 : Int) - 1), .int .i64 ((M2 : Int) - 1), .int .i64 a3] (by have c := Reg.consts a; generalize a.eval = ρ at *; simp [execOp, go_sem, c.1, c.2, d0, d3, d6, d7]) ?_
                refine (CS1.out w1 hW).mono ?_
                rintro e w5 ⟨rfl, hb5⟩
                exact ⟨_, rfl, rfl, hW.trans (hb5.mono hW.size), fun j v _ h => h⟩
              · intro a w1 live S E D C h0 hk hW
                have d8 : a.eval (.tmp 89) = .bool true := D 8 rfl _ _ rfl rfl
                exact Rgs.val rfl (Reg.wanted_free rfl) (.bool true) (by have c := Reg.consts a; generalize a.eval = ρ at *; simp [execOp, go_sem, c.1, c.2, d8]) rfl hW
              · intro a w1 live S E D C h0 hk hW
                have dg : a.eval (.tmp 90) = .bool true := D 9 rfl _ _ rfl rfl
                have e14 : a.eval (.tmp 14) = .slice AL nl cl := E 14 rfl
                exact Rgs.val rfl (Reg.wanted_if rfl rfl dg rfl) (.slice AL nl cl) (by have c := Reg.consts a; generalize a.eval = ρ at *; simp [execOp, go_sem, c.1, c.2, e14]) rfl hW
              · intro a w1 live S E D C h0 hk hW
                have dg : a.eval (.tmp 90) = .bool true := D 9 rfl _ _ rfl rfl
                have e1 : a.eval (.tmp 1) = .int .i64 a1 := E 1 rfl
                exact Rgs.val rfl (Reg.wanted_if rfl rfl dg rfl) (.int .i64 a1) (by have c := Reg.consts a; generalize a.eval = ρ at *; simp [execOp, go_sem, c.1, c.2, e1]) rfl hW
              · intro a w1 live S E D C h0 hk hW
                have dg : a.eval (.tmp 90) = .bool true := D 9 rfl _ _ rfl rfl
                have d11 : a.eval (.tmp 92) = .int .i64 a1 := D 11 rfl _ _ rfl rfl
                have hm := HMS.out
                obtain ⟨b1, b2, b3, b4, b5, b6⟩ := hm
                exact Rgs.val rfl (Reg.wanted_if rfl rfl dg rfl) (.int .i64 (M3 : Int)) (by have c := Reg.consts a; generalize a.eval = ρ at *; simp [execOp, go_sem, c.1, c.2, d11, b3]) rfl hW
              · intro a w1 live S E D C h0 hk hW
                have dg : a.eval (.tmp 90) = .bool true := D 9 rfl _ _ rfl rfl
                have e2 : a.eval (.tmp 2) = .int .i64 a2 := E 2 rfl
                exact Rgs.val rfl (Reg.wanted_if rfl rfl dg rfl) (.int .i64 a2) (by have c := Reg.consts a; generalize a.eval = ρ at *; simp [execOp, go_sem, c.1, c.2, e2]) rfl hW
              · intro a w1 live S E D C h0 hk hW
                have dg : a.eval (.tmp 90) = .bool true := D 9 rfl _ _ rfl rfl
                have d13 : a.eval (.tmp 94) = .int .i64 a2 := D 13 rfl _ _ rfl rfl
                have hm := HMS.out
                obtain ⟨b1, b2, b3, b4, b5, b6⟩ := hm
                exact Rgs.val rfl (Reg.wanted_if rfl rfl dg rfl) (.int .i64 (M4 : Int)) (by have c := Reg.consts a; generalize a.eval = ρ at *; simp [execOp, go_sem, c.1, c.2, d13, b4]) rfl hW
              · intro a w1 live S E D C h0 hk hW
                have dg : a.eval (.tmp 90) = .bool true := D 9 rfl _ _ rfl rfl
                have e21 : a.eval (.tmp 21) = .int .i64 (d : Int) := E 21 rfl
                exact Rgs.val rfl (Reg.wanted_if rfl rfl dg rfl) (.int .i64 (d : Int)) (by have c := Reg.consts a; generalize a.eval = ρ at *; simp [execOp, go_sem, c.1, c.2, e21]) rfl hW
              · intro a w1 live S E D C h0 hk hW
                have dg : a.eval (.tmp 90) = .bool true := D 9 rfl _ _ rfl rfl
                have d10 : a.eval (.tmp 91) = .slice AL nl cl := D 10 rfl _ _ rfl rfl
                have d12 : a.eval (.tmp 93) = .int .i64 (M3 : Int) := D 12 rfl _ _ rfl rfl
                have d14 : a.eval (.tmp 95) = .int .i64 (M4 : Int) := D 14 rfl _ _ rfl rfl
                have d15 : a.eval (.tmp 96) = .int .i64 (d : Int) := D 15 rfl _ _ rfl rfl
                refine Rgs.call rfl (Reg.wanted_if rfl rfl dg rfl) 11 #[.slice AL nl cl, .int .i64 (M3 : Int), .int .i64 (M4 : Int), .int .i64 (d : Int)] (by have c := Reg.consts a; generalize a.eval = ρ at *; simp [execOp, go_sem, c.1, c.2, d10, d12, d14, d15]) ?_
                refine (CS2.out w1 hW).mono ?_
                rintro e w5 ⟨rfl, hb5⟩
                exact ⟨_, rfl, rfl, hW.trans (hb5.mono hW.size), fun j v _ h => h⟩
              · intro a w1 live S E D C h0 hk hW
                have d9 : a.eval (.tmp 90) = .bool true := D 9 rfl _ _ rfl rfl
                have d16 : a.eval (.tmp 97) = .bool true := D 16 rfl _ _ rfl rfl
                exact Rgs.val rfl (Reg.wanted_free rfl) (.bool true) (by have c := Reg.consts a; generalize a.eval = ρ at *; simp [execOp, go_sem, c.1, c.2, d9, d16]) rfl hW
              · intro a w1 live S E D C h0 hk hW
                have d17 : a.eval (.tmp 98) = .bool true := D 17 rfl _ _ rfl rfl
                exact Rgs.val rfl (Reg.wanted_free rfl) (.bool true) (by have c := Reg.consts a; generalize a.eval = ρ at *; simp [execOp, go_sem, c.1, c.2, d17]) rfl hW
              · intro a w1 live S E D C h0 hk hW
                have dg : a.eval (.tmp 99) = .bool true := D 18 rfl _ _ rfl rfl
                have e15 : a.eval (.tmp 15) = .pointer (some ⟨gq, 0, none⟩) := E 15 rfl
                have hc0 := (hW.cell (p := ⟨gq, 0, none⟩) (World.block_lt_of_cell? _ _ m0)).trans m0
                have hc1 := (hW.cell (p := ⟨gq, 1, none⟩) (World.block_lt_of_cell? _ _ m1)).trans m1
                have hc2 := (hW.cell (p := ⟨gq, 2, none⟩) (World.block_lt_of_cell? _ _ m2)).trans m2
                exact Rgs.val rfl (Reg.wanted_if rfl rfl dg rfl) (.agg #[.slice (some ⟨g1, 0, none⟩) n1 c1, .slice A2 n2 c2, .slice A3 n3 c3]) (by have c := Reg.consts a; generalize a.eval = ρ at *; simp [execOp, go_sem, c.1, c.2, e15, hc0, hc1, hc2]) rfl hW
              · intro a w1 live S E D C h0 hk hW
                have dg : a.eval (.tmp 99) = .bool true := D 18 rfl _ _ rfl rfl
                have e14 : a.eval (.tmp 14) = .slice AL nl cl := E 14 rfl
                exact Rgs.val rfl (Reg.wanted_if rfl rfl dg rfl) (.slice AL nl cl) (by have c := Reg.consts a; generalize a.eval = ρ at *; simp [execOp, go_sem, c.1, c.2, e14]) rfl hW
              · intro a w1 live S E D C h0 hk hW
                have dg : a.eval (.tmp 99) = .bool true := D 18 rfl _ _ rfl rfl
                have d19 : a.eval (.tmp 100) = .agg #[.slice (some ⟨g1, 0, none⟩) n1 c1, .slice A2 n2 c2, .slice A3 n3 c3] := D 19 rfl _ _ rfl rfl
                have d20 : a.eval (.tmp 101) = .slice AL nl cl := D 20 rfl _ _ rfl rfl
                refine Rgs.call rfl (Reg.wanted_if rfl rfl dg rfl) 16 #[.agg #[.slice (some ⟨g1, 0, none⟩) n1 c1, .slice A2 n2 c2, .slice A3 n3 c3], .slice AL nl cl] (by have c := Reg.consts a; generalize a.eval = ρ at *; simp [execOp, go_sem, c.1, c.2, d19, d20]) ?_
                refine (CC1.out w1 hW).mono ?_
                rintro e w5 ⟨rfl, hb5⟩
                exact ⟨_, rfl, rfl, hW.trans (hb5.mono hW.size), fun j v _ h => h⟩
              · intro a w1 live S E D C h0 hk hW
                have dg : a.eval (.tmp 99) = .bool true := D 18 rfl _ _ rfl rfl
                have e15 : a.eval (.tmp 15) = .pointer (some ⟨gq, 0, none⟩) := E 15 rfl
                have hc0 := (hW.cell (p := ⟨gq, 0, none⟩) (World.block_lt_of_cell? _ _ m0)).trans m0
                have hc1 := (hW.cell (p := ⟨gq, 1, none⟩) (World.block_lt_of_cell? _ _ m1)).trans m1
                have hc2 := (hW.cell (p := ⟨gq, 2, none⟩) (World.block_lt_of_cell? _ _ m2)).trans m2
                exact Rgs.val rfl (Reg.wanted_if rfl rfl dg rfl) (.agg #[.slice (some ⟨g1, 0, none⟩) n1 c1, .slice A2 n2 c2, .slice A3 n3 c3]) (by have c := Reg.consts a; generalize a.eval = ρ at *; simp [execOp, go_sem, c.1, c.2, e15, hc0, hc1, hc2]) rfl hW
              · intro a w1 live S E D C h0 hk hW
                have dg : a.eval (.tmp 99) = .bool true := D 18 rfl _ _ rfl rfl
                have e14 : a.eval (.tmp 14) = .slice AL nl cl := E 14 rfl
                exact Rgs.val rfl (Reg.wanted_if rfl rfl dg rfl) (.slice AL nl cl) (by have c := Reg.consts a; generalize a.eval = ρ at *; simp [execOp, go_sem, c.1, c.2, e14]) rfl hW
              · intro a w1 live S E D C h0 hk hW
                have dg : a.eval (.tmp 99) = .bool true := D 18 rfl _ _ rfl rfl
                have d22 : a.eval (.tmp 103) = .agg #[.slice (some ⟨g1, 0, none⟩) n1 c1, .slice A2 n2 c2, .slice A3 n3 c3] := D 22 rfl _ _ rfl rfl
                have d23 : a.eval (.tmp 104) = .slice AL nl cl := D 23 rfl _ _ rfl rfl
                refine Rgs.call rfl (Reg.wanted_if rfl rfl dg rfl) 17 #[.agg #[.slice (some ⟨g1, 0, none⟩) n1 c1, .slice A2 n2 c2, .slice A3 n3 c3], .slice AL nl cl] (by have c := Reg.consts a; generalize a.eval = ρ at *; simp [execOp, go_sem, c.1, c.2, d22, d23]) ?_
                refine (CC2.out w1 hW).mono ?_
                rintro e w5 ⟨rfl, hb5⟩
                exact ⟨_, rfl, rfl, hW.trans (hb5.mono hW.size), fun j v _ h => h⟩
              · intro a w1 live S E D C h0 hk hW
                have dg : a.eval (.tmp 99) = .bool true := D 18 rfl _ _ rfl rfl
                have d21 : a.eval (.tmp 102) = .int .i64 h1 := D 21 rfl _ _ rfl rfl
                have d24 : a.eval (.tmp 105) = .int .i64 h1 := D 24 rfl _ _ rfl rfl
                have hne := HEQ.out
                exact Rgs.val rfl (Reg.wanted_if rfl rfl dg rfl) (.bool true) (by have c := Reg.consts a; generalize a.eval = ρ at *; simp [execOp, go_sem, c.1, c.2, d21, d24, hne.1]) rfl hW
              · intro a w1 live S E D C h0 hk hW
                have d18 : a.eval (.tmp 99) = .bool true := D 18 rfl _ _ rfl rfl
                have d25 : a.eval (.tmp 106) = .bool true := D 25 rfl _ _ rfl rfl
                exact Rgs.val rfl (Reg.wanted_free rfl) (.bool true) (by have c := Reg.consts a; generalize a.eval = ρ at *; simp [execOp, go_sem, c.1, c.2, d18, d25]) rfl hW
              · intro a w1 live S E D C h0 hk hW
                have d26 : a.eval (.tmp 107) = .bool true := D 26 rfl _ _ rfl rfl
                exact Rgs.val rfl (Reg.wanted_free rfl) (.bool true) (by have c := Reg.consts a; generalize a.eval = ρ at *; simp [execOp, go_sem, c.1, c.2, d26]) rfl hW
              · intro a w1 live S E D C h0 hk hW
                have dg : a.eval (.tmp 108) = .bool true := D 27 rfl _ _ rfl rfl
                have e15 : a.eval (.tmp 15) = .pointer (some ⟨gq, 0, none⟩) := E 15 rfl
                have hc0 := (hW.cell (p := ⟨gq, 0, none⟩) (World.block_lt_of_cell? _ _ m0)).trans m0
                have hc1 := (hW.cell (p := ⟨gq, 1, none⟩) (World.block_lt_of_cell? _ _ m1)).trans m1
                have hc2 := (hW.cell (p := ⟨gq, 2, none⟩) (World.block_lt_of_cell? _ _ m2)).trans m2
                exact Rgs.val rfl (Reg.wanted_if rfl rfl dg rfl) (.agg #[.slice (some ⟨g1, 0, none⟩) n1 c1, .slice A2 n2 c2, .slice A3 n3 c3]) (by have c := Reg.consts a; generalize a.eval = ρ at *; simp [execOp, go_sem, c.1, c.2, e15, hc0, hc1, hc2]) rfl hW
              · intro a w1 live S E D C h0 hk hW
                have dg : a.eval (.tmp 108) = .bool true := D 27 rfl _ _ rfl rfl
                have e19 : a.eval (.tmp 19) = .slice ra rn rc := E 19 rfl
                exact Rgs.val rfl (Reg.wanted_if rfl rfl dg rfl) (.slice ra rn rc) (by have c := Reg.consts a; generalize a.eval = ρ at *; simp [execOp, go_sem, c.1, c.2, e19]) rfl hW
              · intro a w1 live S E D C h0 hk hW
                have dg : a.eval (.tmp 108) = .bool true := D 27 rfl _ _ rfl rfl
                have d28 : a.eval (.tmp 109) = .agg #[.slice (some ⟨g1, 0, none⟩) n1 c1, .slice A2 n2 c2, .slice A3 n3 c3] := D 28 rfl _ _ rfl rfl
                have d29 : a.eval (.tmp 110) = .slice ra rn rc := D 29 rfl _ _ rfl rfl
                refine Rgs.call rfl (Reg.wanted_if rfl rfl dg rfl) 16 #[.agg #[.slice (some ⟨g1, 0, none⟩) n1 c1, .slice A2 n2 c2, .slice A3 n3 c3], .slice ra rn rc] (by have c := Reg.consts a; generalize a.eval = ρ at *; simp [execOp, go_sem, c.1, c.2, d28, d29]) ?_
                refine (CC3.out w1 hW).mono ?_
                rintro e w5 ⟨rfl, hb5⟩
                exact ⟨_, rfl, rfl, hW.trans (hb5.mono hW.size), fun j v _ h => h⟩
              · intro a w1 live S E D C h0 hk hW
                have dg : a.eval (.tmp 108) = .bool true := D 27 rfl _ _ rfl rfl
                have e15 : a.eval (.tmp 15) = .pointer (some ⟨gq, 0, none⟩) := E 15 rfl
                have hc0 := (hW.cell (p := ⟨gq, 0, none⟩) (World.block_lt_of_cell? _ _ m0)).trans m0
                have hc1 := (hW.cell (p := ⟨gq, 1, none⟩) (World.block_lt_of_cell? _ _ m1)).trans m1
                have hc2 := (hW.cell (p := ⟨gq, 2, none⟩) (World.block_lt_of_cell? _ _ m2)).trans m2
                exact Rgs.val rfl (Reg.wanted_if rfl rfl dg rfl) (.agg #[.slice (some ⟨g1, 0, none⟩) n1 c1, .slice A2 n2 c2, .slice A3 n3 c3]) (by have c := Reg.consts a; generalize a.eval = ρ at *; simp [execOp, go_sem, c.1, c.2, e15, hc0, hc1, hc2]) rfl hW
              · intro a w1 live S E D C h0 hk hW
                have dg : a.eval (.tmp 108) = .bool true := D 27 rfl _ _ rfl rfl
                have e19 : a.eval (.tmp 19) = .slice ra rn rc := E 19 rfl
                exact Rgs.val rfl (Reg.wanted_if rfl rfl dg rfl) (.slice ra rn rc) (by have c := Reg.consts a; generalize a.eval = ρ at *; simp [execOp, go_sem, c.1, c.2, e19]) rfl hW
              · intro a w1 live S E D C h0 hk hW
                have dg : a.eval (.tmp 108) = .bool true := D 27 rfl _ _ rfl rfl
                have d31 : a.eval (.tmp 112) = .agg #[.slice (some ⟨g1, 0, none⟩) n1 c1, .slice A2 n2 c2, .slice A3 n3 c3] := D 31 rfl _ _ rfl rfl
                have d32 : a.eval (.tmp 113) = .slice ra rn rc := D 32 rfl _ _ rfl rfl
                refine Rgs.call rfl (Reg.wanted_if rfl rfl dg rfl) 17 #[.agg #[.slice (some ⟨g1, 0, none⟩) n1 c1, .slice A2 n2 c2, .slice A3 n3 c3], .slice ra rn rc] (by have c := Reg.consts a; generalize a.eval = ρ at *; simp [execOp, go_sem, c.1, c.2, d31, d32]) ?_
                refine (CC4.out w1 hW).mono ?_
                rintro e w5 ⟨rfl, hb5⟩
                exact ⟨_, rfl, rfl, hW.trans (hb5.mono hW.size), fun j v _ h => h⟩
              · intro a w1 live S E D C h0 hk hW
                have dg : a.eval (.tmp 108) = .bool true := D 27 rfl _ _ rfl rfl
                have d30 : a.eval (.tmp 111) = .int .i64 h2 := D 30 rfl _ _ rfl rfl
                have d33 : a.eval (.tmp 114) = .int .i64 h2 := D 33 rfl _ _ rfl rfl
                have hne := HEQ.out
                exact Rgs.val rfl (Reg.wanted_if rfl rfl dg rfl) (.bool true) (by have c := Reg.consts a; generalize a.eval = ρ at *; simp [execOp, go_sem, c.1, c.2, d30, d33, hne.2]) rfl hW
              · intro a w1 live S E D C h0 hk hW
                have d27 : a.eval (.tmp 108) = .bool true := D 27 rfl _ _ rfl rfl
                have d34 : a.eval (.tmp 115) = .bool true := D 34 rfl _ _ rfl rfl
                exact Rgs.val rfl (Reg.wanted_free rfl) (.bool true) (by have c := Reg.consts a; generalize a.eval = ρ at *; simp [execOp, go_sem, c.1, c.2, d27, d34]) rfl hW
              · intro a w1 live S E D C h0 hk hW
                have d35 : a.eval (.tmp 116) = .bool true := D 35 rfl _ _ rfl rfl
                exact Rgs.val rfl (Reg.wanted_free rfl) (.bool true) (by have c := Reg.consts a; generalize a.eval = ρ at *; simp [execOp, go_sem, c.1, c.2, d35]) rfl hW
              · intro a w1 live S E D C h0 hk hW
                have dg : a.eval (.tmp 117) = .bool true := D 36 rfl _ _ rfl rfl
                have e18 : a.eval (.tmp 18) = .pointer (some ⟨gy, 0, none⟩) := E 18 rfl
                have hc0 := (hW.cell (p := ⟨gy, 0, none⟩) (World.block_lt_of_cell? _ _ y0)).trans y0
                have hc1 := (hW.cell (p := ⟨gy, 1, none⟩) (World.block_lt_of_cell? _ _ y1)).trans y1
                have hc2 := (hW.cell (p := ⟨gy, 2, none⟩) (World.block_lt_of_cell? _ _ y2)).trans y2
                exact Rgs.val rfl (Reg.wanted_if rfl rfl dg rfl) (.agg #[.slice B1 j1 e1, .slice B2 j2 e2, .slice (some ad3) j3 e3]) (by have c := Reg.consts a; generalize a.eval = ρ at *; simp [execOp, go_sem, c.1, c.2, e18, hc0, hc1, hc2]) rfl hW
              · intro a w1 live S E D C h0 hk hW
                have dg : a.eval (.tmp 117) = .bool true := D 36 rfl _ _ rfl rfl
                have e19 : a.eval (.tmp 19) = .slice ra rn rc := E 19 rfl
                exact Rgs.val rfl (Reg.wanted_if rfl rfl dg rfl) (.slice ra rn rc) (by have c := Reg.consts a; generalize a.eval = ρ at *; simp [execOp, go_sem, c.1, c.2, e19]) rfl hW
              · intro a w1 live S E D C h0 hk hW
                have dg : a.eval (.tmp 117) = .bool true := D 36 rfl _ _ rfl rfl
                have d37 : a.eval (.tmp 118) = .agg #[.slice B1 j1 e1, .slice B2 j2 e2, .slice (some ad3) j3 e3] := D 37 rfl _ _ rfl rfl
                have d38 : a.eval (.tmp 119) = .slice ra rn rc := D 38 rfl _ _ rfl rfl
                refine Rgs.call rfl (Reg.wanted_if rfl rfl dg rfl) 16 #[.agg #[.slice B1 j1 e1, .slice B2 j2 e2, .slice (some ad3) j3 e3], .slice ra rn rc] (by have c := Reg.consts a; generalize a.eval = ρ at *; simp [execOp, go_sem, c.1, c.2, d37, d38]) ?_
                refine (CC5.out w1 hW).mono ?_
                rintro e w5 ⟨rfl, hb5⟩
                exact ⟨_, rfl, rfl, hW.trans (hb5.mono hW.size), fun j v _ h => h⟩
              · intro a w1 live S E D C h0 hk hW
                have dg : a.eval (.tmp 117) = .bool true := D 36 rfl _ _ rfl rfl
                have d39 : a.eval (.tmp 120) = .int .i64 0 := D 39 rfl _ _ rfl rfl
                exact Rgs.val rfl (Reg.wanted_if rfl rfl dg rfl) (.bool true) (by have c := Reg.consts a; generalize a.eval = ρ at *; simp [execOp, go_sem, c.1, c.2, d39]) rfl hW
              · intro a w1 live S E D C h0 hk hW
                have d36 : a.eval (.tmp 117) = .bool true := D 36 rfl _ _ rfl rfl
                have d40 : a.eval (.tmp 121) = .bool true := D 40 rfl _ _ rfl rfl
                exact Rgs.val rfl (Reg.wanted_free rfl) (.bool true) (by have c := Reg.consts a; generalize a.eval = ρ at *; simp [execOp, go_sem, c.1, c.2, d36, d40]) rfl hW
              · intro a w1 live S E D C h0 hk hW
                have d41 : a.eval (.tmp 122) = .bool true := D 41 rfl _ _ rfl rfl
                exact Rgs.val rfl (Reg.wanted_free rfl) (.bool true) (by have c := Reg.consts a; generalize a.eval = ρ at *; simp [execOp, go_sem, c.1, c.2, d41]) rfl hW
              · intro a w1 live S E D C h0 hk hW
                have dg : a.eval (.tmp 123) = .bool true := D 42 rfl _ _ rfl rfl
                refine Rgs.call rfl (Reg.wanted_if rfl rfl dg rfl) 18 #[] (by have c := Reg.consts a; generalize a.eval = ρ at *; simp [execOp, go_sem, c.1, c.2, go_sem]) ?_
                refine (CKN.out w1 hW).mono ?_
                rintro e w5 ⟨rfl, hb5⟩
                exact ⟨_, rfl, rfl, hW.trans (hb5.mono hW.size), fun j v _ h => h⟩
              · intro a w1 live S E D C h0 hk hW
                have d42 : a.eval (.tmp 123) = .bool true := D 42 rfl _ _ rfl rfl
                have d43 : a.eval (.tmp 124) = .bool true := D 43 rfl _ _ rfl rfl
                exact Rgs.val rfl (Reg.wanted_free rfl) (.bool true) (by have c := Reg.consts a; generalize a.eval = ρ at *; simp [execOp, go_sem, c.1, c.2, d42, d43]) rfl hW
              · intro a w1 live S E D C h0 hk hW
                have d44 : a.eval (.tmp 125) = .bool true := D 44 rfl _ _ rfl rfl
                exact Rgs.val rfl (Reg.wanted_free rfl) (.bool true) (by have c := Reg.consts a; generalize a.eval = ρ at *; simp [execOp, go_sem, c.1, c.2, d44]) rfl hW
            · intro a w4 live hs hd E D Hl hW
              have e12 : a.eval (.tmp 12) = .bool true := by
                obtain ⟨v, hv, he⟩ := D 45 _ rfl
                exact (he 12 rfl).trans hv
              rw [Rgs.act_ws a _ _ hs hd E [81, 82, 83, 84, 85, 86, 87, 88, 89, 90, 91, 92, 93, 94, 95, 96, 97, 98, 99, 100, 101, 102, 103, 104, 105, 106, 107, 108, 109, 110, 111, 112, 113, 114, 115, 116, 117, 118, 119, 120, 121, 122, 123, 124, 125, 12] (by kernel_rfl)]
              simp only [List.foldl, List.setIfInBounds_toArray, List.set_cons_succ, List.set_cons_zero, e12]
              have HB9 := Lib.hid (HBV.out.trans (Below.mono hW HBV.out.size))
              clear E D Hl hW e12 CS1 CS2 CC1 CC2 CC3 CC4 CC5 CKN HMS HEQ m0 m1 m2 y0 y1 y2
              generalize a.eval = ρ
              clear a hs hd
              go_wp2_with fail
              go_ret
              exact Ans.mk rfl HB9.out
end Go.Proofs.Ytcmdhaieggjgcaa.boundTells
