/- A move is done in a row of any numbers: by the document's own answer. -/
import Derived.Test.YtoaocdmcjjohgaaLow8
namespace Go.Proofs.Ytoaocdmcjjohgaa
open Go.RowKit Tab
set_option linter.unusedSimpArgs false
set_option linter.unusedVariables false

theorem sumZ_any (a b : Int) (w : World) (h : a.toNat + b.toNat ≤ 4611686018427387904) :
    Calls Try.prog 35 #[.int .i64 a, .int .i64 b] w fun e w' => e = .returned (.int .i64 ((a.toNat + b.toNat : Nat) : Int)) ∧ w' = w := by
  obtain ⟨x, hx⟩ : ∃ x : Nat, x = a.toNat := ⟨_, rfl⟩
  obtain ⟨y, hy⟩ : ∃ y : Nat, y = b.toNat := ⟨_, rfl⟩
  rw [← hx, ← hy] at h ⊢
  have m1 : max a 0 = (x : Int) := by omega
  have m2 : max b 0 = (y : Int) := by omega
  have h1 : ¬ 9223372036854775807 - (y : Int) < (x : Int) := by omega
  have hw1 : IntKind.i64.wrap (9223372036854775807 - (y : Int)) = 9223372036854775807 - (y : Int) := IntWalk.i64_in _ (by omega)
  have hw2 : IntKind.i64.wrap ((x : Int) + (y : Int)) = (x : Int) + (y : Int) := IntWalk.i64_in _ (by omega)
  clear hx hy
  go_enter Try.func35, Try.ntmps35
  go_wp2
  all_goals
    go_ret
    refine ⟨?_, rfl⟩
    show Ending.returned (Value.int IntKind.i64 _) = Ending.returned (Value.int IntKind.i64 _)
    congr 2
    omega
set_option maxRecDepth 100000 in
set_option maxHeartbeats 8000000 in
theorem rdoz_any (A : Option Addr) (n c0 : Nat) (Z : List Zr) (i j : Nat) (rt : Bool) (w : World) (h : RdB zcl w w.heap.size A n Z) (hc : n ≤ c0) (hn : n ≤ 1048576) (ht : ticks (Z.map clp) ≤ 1099511627776) (hij : i < j) (hjn : j < n)
    (hnat : ∀ k r, Z[k]? = some r → k ≠ i → k ≠ j → 0 ≤ r.z) :
    Calls Try.prog 32 #[.slice A n c0, .agg #[.int .i64 (i : Int), .int .i64 (j : Int), .bool rt]] w (RowQ (tidy (mv (Z.map clp) i j rt)) w) := by
  have hlen := h.len
  have hb0 := bl1 w (.cells #[.int .i64 (i : Int), .int .i64 (j : Int), .bool rt] 76)
  have hv0 : Vec (w.alloc (.cells #[.int .i64 (i : Int), .int .i64 (j : Int), .bool rt] 76)) w.heap.size 3 (fun q => if q = 0 then .int .i64 (i : Int) else if q = 1 then .int .i64 (j : Int) else .bool rt) := Vec.lit w _ _ 3 _ fun q hq => by
    rcases (by omega : q = 0 ∨ q = 1 ∨ q = 2) with rfl | rfl | rfl <;> rfl
  have hP0 := h.on hb0
  have HLN := Lib.hid hlen
  obtain ⟨x, hx⟩ : ∃ x, Z[i]? = some x := ⟨_, List.getElem?_eq_getElem (by have := HLN.out; omega)⟩
  obtain ⟨y, hy⟩ : ∃ y, Z[j]? = some y := ⟨_, List.getElem?_eq_getElem (by have := HLN.out; omega)⟩
  obtain ⟨T, hT⟩ : ∃ T, T = y.z.toNat + x.z.toNat := ⟨_, rfl⟩
  have HZM := Lib.hid (zmv hij hx hy hT hnat)
  have ex : (Z.map clp)[i]? = some (clp x) := by rw [List.getElem?_map, hx]; rfl
  have ey : (Z.map clp)[j]? = some (clp y) := by rw [List.getElem?_map, hy]; rfl
  have HTK : Hid (ticks (mv (Z.map clp) i j true) ≤ 1099511627776 ∧ ticks (mv (Z.map clp) i j false) ≤ 1099511627776) := Lib.hid ⟨by rw [mv_ticks hij ex ey]; exact ht, by rw [mv_ticks hij ex ey]; exact ht⟩
  have hxl := mem_ticks (List.mem_of_getElem? ex)
  have hyl := mem_ticks (List.mem_of_getElem? ey)
  have HSM0 := Lib.hid fun W => sumZ_any y.z x.z W (by simp [clp] at hxl hyl; omega)
  rw [← hT] at HSM0
  have HSM := Lib.hid HSM0.out
  have HX := Lib.hid hx
  have HY := Lib.hid hy
  clear h hlen hT hnat ex ey hxl hyl HSM0 hx hy
  go_enter Try.func32, Try.ntmps32
  go_upto_region 1 with fail
  generalize w.alloc (.cells #[.int .i64 (i : Int), .int .i64 (j : Int), .bool rt] 76) = W at hb0 hv0 hP0 ⊢
  obtain ⟨gm, hgm⟩ : ∃ gm, gm = w.heap.size := ⟨_, rfl⟩
  rw [← hgm] at hv0 ⊢
  have hgw : gm < W.heap.size := hv0.lt
  have HGM := Lib.hid hgm
  clear hgm
  have hbe := bl1 W (.cells #[] 39)
  have hown0 : OwnV 39 2 (W.alloc (.cells #[] 39)) W.heap.size (some ⟨W.heap.size, 0, none⟩) 0 0 [] := ownV_lit W _ 2 W.heap.size #[] 0 rfl (Nat.le_refl _) (by unfold maxLen; omega)
  have hrd := (hP0.on hbe).rd
  have hle : W.heap.size ≤ (W.alloc (.cells #[] 39)).heap.size := hbe.size
  go_upto_region 2 with (at_builtin; go_loud (refine wpList_appV elR rfl (.tmp 6) (.tmp 7) rfl rfl W.heap.size (some ⟨W.heap.size, 0, none⟩) 0 0 [] rfl hown0 A n c0 (Z.flatMap zcl) _ rfl hrd (by rw [flat_len zcl_len, HLN.out]) (zcl_one _) (by omega) (by unfold maxLen; omega) hle n (Nat.zero_add _) (Z.flatMap zcl) (List.nil_append _) ?_; intro A4 c4 wq hw4 hb4 hot4))
  have hbq := hbe.trans hb4
  have HBQ := Lib.hid (hb0.trans (hbq.mono hb0.size))
  have HOB : Hid (OwnB 39 2 zcl wq W.heap.size A4 n c4 Z) := Lib.hid ⟨HLN.out, hw4⟩
  have HVM := Lib.hid (hv0.on hbq)
  obtain ⟨c, rfl⟩ : ∃ c, c = c4 := ⟨_, rfl⟩
  have hcap : n ≤ c := HOB.out.cap
  clear hw4 hb4 hot4 hown0 hrd hle hbe hbq hb0 hv0 hP0
  have q0 := HVM.out.cell 0 (by omega)
  have q1 := HVM.out.cell 1 (by omega)
  have q2 := HVM.out.cell 2 (by omega)
  simp only [if_true, if_false, Nat.one_ne_zero, Nat.succ_ne_zero] at q0 q1 q2
  have q0' : wq.cell? ⟨gm, 0, none⟩ = some (.int .i64 (i : Int)) := q0
  have q1' : wq.cell? ⟨gm, 1, none⟩ = some (.int .i64 (j : Int)) := q1
  have q2' : wq.cell? ⟨gm, 2, none⟩ = some (.bool rt) := q2
  clear q0 q1 q2
  have e0 : decide ((i : Int) < 0) = false := decide_eq_false (by omega)
  have e1 : decide ((j : Int) ≤ (i : Int)) = false := decide_eq_false (by omega)
  have e2 : decide ((n : Int) ≤ (j : Int)) = false := decide_eq_false (by omega)
  obtain ⟨g, rfl, hgW, _⟩ := HOB.out.block (by omega)
  have hBg : w.heap.size ≤ g := by have := HGM.out; omega
  have HOUT : Hid (∀ b e w', rt = b → RowQ (tidy (mv (Z.map clp) i j b)) w e w' → RowQ (tidy (mv (Z.map clp) i j rt)) w e w') := Lib.hid fun b e w' hb hq => by
    subst hb
    exact hq
  have HLT : Hid ((i : Int) < (n : Int) ∧ i < n ∧ (j : Int) < (n : Int) ∧ j < n) := Lib.hid ⟨by omega, by omega, by omega, by omega⟩
  have hx := HX.out
  have hy := HY.out
  cases rt with
  | true =>
    go_upto_region 5 with fail
    clear q0' q1' q2'
    have hmm := HOB.out.below (w' := wq.drew) (Below.refl _ _).drew
    have cy : wq.drew.cell? ⟨g, j * 2 + 1, none⟩ = some (.int .i64 y.z) := (OwnB.cellK hmm zcl_len (k := 1) hy (by omega) rfl).1
    have cx : wq.drew.cell? ⟨g, i * 2 + 1, none⟩ = some (.int .i64 x.z) := (OwnB.cellK hmm zcl_len (k := 1) hx (by omega) rfl).1
    have e1 : wq.drew.cell? ⟨g, j * 2 + 1, none⟩ = some (.int .i64 y.z) := (OwnB.cellK hmm zcl_len (k := 1) hy (by omega) rfl).1
    have e2 : wq.drew.frozen? ⟨g, j * 2 + 1, none⟩ = false := (OwnB.cellK hmm zcl_len (k := 1) hy (by omega) rfl).2
    have hm1 := OwnB.putK hmm zcl_len (k := 1) (y := ⟨y.p, (T : Int)⟩) hy (by omega) (v := (.int .i64 (T : Int))) rfl
    have h2x : (Z.set j ⟨y.p, (T : Int)⟩)[i]? = some x := by rw [List.getElem?_set_ne (by omega)]; exact hx
    have k1 : (wq.drew.setCell ⟨g, j * 2 + 1, none⟩ (.int .i64 (T : Int))).cell? ⟨g, i * 2 + 1, none⟩ = some (.int .i64 x.z) := (OwnB.cellK hm1 zcl_len (k := 1) h2x (by omega) rfl).1
    have k2 : (wq.drew.setCell ⟨g, j * 2 + 1, none⟩ (.int .i64 (T : Int))).frozen? ⟨g, i * 2 + 1, none⟩ = false := (OwnB.cellK hm1 zcl_len (k := 1) h2x (by omega) rfl).2
    have hm2 := OwnB.putK hm1 zcl_len (k := 1) (y := ⟨x.p, 0⟩) h2x (by omega) (v := (.int .i64 0)) rfl
    rw [HZM.out.1] at hm2
    have HFIN := Lib.hid hm2
    have HBF : Hid (Below w.heap.size w ((wq.drew.setCell ⟨g, j * 2 + 1, none⟩ (.int .i64 (T : Int))).setCell ⟨g, i * 2 + 1, none⟩ (.int .i64 0))) := Lib.hid ((HBQ.out.drew.setCell (p := ⟨g, j * 2 + 1, none⟩) hBg _).setCell (p := ⟨g, i * 2 + 1, none⟩) hBg _)
    have HFA : Hid (∀ wx, (wx = wq.drew ∨ wx = wq.drew.setCell ⟨g, j * 2 + 1, none⟩ (.int .i64 (T : Int)) ∨ wx = (wq.drew.setCell ⟨g, j * 2 + 1, none⟩ (.int .i64 (T : Int))).setCell ⟨g, i * 2 + 1, none⟩ (.int .i64 0)) → wx.cell? ⟨gm, 0, none⟩ = some (.int .i64 (i : Int)) ∧ wx.cell? ⟨gm, 1, none⟩ = some (.int .i64 (j : Int))) := Lib.hid fun wx hwx => by
      have hvd : Vec wq.drew gm 3 _ := HVM.out.drewN 1
      have hgm : gm ≠ g := by omega
      rcases hwx with rfl | rfl | rfl
      · exact ⟨hvd.cell 0 (by omega), hvd.cell 1 (by omega)⟩
      · exact ⟨(hvd.other ⟨g, j * 2 + 1, none⟩ _ hgm).cell 0 (by omega), (hvd.other ⟨g, j * 2 + 1, none⟩ _ hgm).cell 1 (by omega)⟩
      · exact ⟨((hvd.other ⟨g, j * 2 + 1, none⟩ _ hgm).other ⟨g, i * 2 + 1, none⟩ _ hgm).cell 0 (by omega), ((hvd.other ⟨g, j * 2 + 1, none⟩ _ hgm).other ⟨g, i * 2 + 1, none⟩ _ hgm).cell 1 (by omega)⟩
    clear hmm hm1 hm2 h2x
    go_wp2_with fail
    refine Rgs.region (by kernel_rfl) (by kernel_rfl) (fun (opn : Nat) (vl : Value) (_ : World) => match opn with | 0 => vl = .slice (some ⟨g, 0, none⟩) n c | 1 => vl = .pointer (some ⟨gm, 1, none⟩) | 2 => vl = .int .i64 (j : Int) | 3 => vl = .slice (some ⟨g, 0, none⟩) n c | 4 => vl = .pointer (some ⟨gm, 0, none⟩) | 5 => vl = .int .i64 (i : Int) | 6 => vl = .slice (some ⟨g, 0, none⟩) n c | 7 => vl = .pointer (some ⟨gm, 1, none⟩) | 8 => vl = .int .i64 (j : Int) | 9 => vl = .pointer (some ⟨g, j * 2, none⟩) | 10 => vl = .pointer (some ⟨g, j * 2 + 1, none⟩) | 11 => vl = .int .i64 y.z | 12 => vl = .slice (some ⟨g, 0, none⟩) n c | 13 => vl = .pointer (some ⟨gm, 0, none⟩) | 14 => vl = .int .i64 (i : Int) | 15 => vl = .pointer (some ⟨g, i * 2, none⟩) | 16 => vl = .pointer (some ⟨g, i * 2 + 1, none⟩) | 17 => vl = .int .i64 x.z | 18 => vl = .int .i64 (T : Int) | 19 => vl = .pointer (some ⟨g, j * 2, none⟩) | 20 => vl = .pointer (some ⟨g, j * 2 + 1, none⟩) | 21 => vl = undef | 22 => vl = .pointer (some ⟨g, i * 2, none⟩) | 23 => vl = .pointer (some ⟨g, i * 2 + 1, none⟩) | 24 => vl = undef | _ => True) (fun live _ w' => Rgs.StW2 wq.drew 21 24 ⟨g, j * 2 + 1, none⟩ ⟨g, i * 2 + 1, none⟩ (.int .i64 (T : Int)) (.int .i64 0) live w') rfl (Rgs.steps_of ?_) ?_
    · refine ⟨?_, ?_, ?_, ?_, ?_, ?_, ?_, ?_, ?_, ?_, ?_, ?_, ?_, ?_, ?_, ?_, ?_, ?_, ?_, ?_, ?_, ?_, ?_, ?_, ?_, trivial⟩
      · intro a w1 live S E D C h0 hk hW
        have e5 : a.eval (.tmp 5) = .slice (some ⟨g, 0, none⟩) n c := E 5 rfl
        exact Rgs.val rfl (Reg.wanted_free rfl) (.slice (some ⟨g, 0, none⟩) n c) (by have c := Reg.consts a; generalize a.eval = ρ at *; simp [execOp, go_sem, c.1, c.2, e5]) rfl (hW.upd (by decide) (by decide))
      · intro a w1 live S E D C h0 hk hW
        have e3 : a.eval (.tmp 3) = .pointer (some ⟨gm, 0, none⟩) := E 3 rfl
        exact Rgs.val rfl (Reg.wanted_free rfl) (.pointer (some ⟨gm, 1, none⟩)) (by have c := Reg.consts a; generalize a.eval = ρ at *; simp [execOp, go_sem, c.1, c.2, e3]) rfl (hW.upd (by decide) (by decide))
      · intro a w1 live S E D C h0 hk hW
        have d1 : a.eval (.tmp 30) = .pointer (some ⟨gm, 1, none⟩) := D 1 rfl _ _ rfl rfl
        have hc0 := (HFA.out w1 hW.any).2
        exact Rgs.val rfl (Reg.wanted_free rfl) (.int .i64 (j : Int)) (by have c := Reg.consts a; generalize a.eval = ρ at *; simp [execOp, go_sem, c.1, c.2, d1, hc0]) rfl (hW.upd (by decide) (by decide))
      · intro a w1 live S E D C h0 hk hW
        have e5 : a.eval (.tmp 5) = .slice (some ⟨g, 0, none⟩) n c := E 5 rfl
        exact Rgs.val rfl (Reg.wanted_free rfl) (.slice (some ⟨g, 0, none⟩) n c) (by have c := Reg.consts a; generalize a.eval = ρ at *; simp [execOp, go_sem, c.1, c.2, e5]) rfl (hW.upd (by decide) (by decide))
      · intro a w1 live S E D C h0 hk hW
        have e3 : a.eval (.tmp 3) = .pointer (some ⟨gm, 0, none⟩) := E 3 rfl
        exact Rgs.val rfl (Reg.wanted_free rfl) (.pointer (some ⟨gm, 0, none⟩)) (by have c := Reg.consts a; generalize a.eval = ρ at *; simp [execOp, go_sem, c.1, c.2, e3]) rfl (hW.upd (by decide) (by decide))
      · intro a w1 live S E D C h0 hk hW
        have d4 : a.eval (.tmp 33) = .pointer (some ⟨gm, 0, none⟩) := D 4 rfl _ _ rfl rfl
        have hc0 := (HFA.out w1 hW.any).1
        exact Rgs.val rfl (Reg.wanted_free rfl) (.int .i64 (i : Int)) (by have c := Reg.consts a; generalize a.eval = ρ at *; simp [execOp, go_sem, c.1, c.2, d4, hc0]) rfl (hW.upd (by decide) (by decide))
      · intro a w1 live S E D C h0 hk hW
        have e5 : a.eval (.tmp 5) = .slice (some ⟨g, 0, none⟩) n c := E 5 rfl
        exact Rgs.val rfl (Reg.wanted_free rfl) (.slice (some ⟨g, 0, none⟩) n c) (by have c := Reg.consts a; generalize a.eval = ρ at *; simp [execOp, go_sem, c.1, c.2, e5]) rfl (hW.upd (by decide) (by decide))
      · intro a w1 live S E D C h0 hk hW
        have e3 : a.eval (.tmp 3) = .pointer (some ⟨gm, 0, none⟩) := E 3 rfl
        exact Rgs.val rfl (Reg.wanted_free rfl) (.pointer (some ⟨gm, 1, none⟩)) (by have c := Reg.consts a; generalize a.eval = ρ at *; simp [execOp, go_sem, c.1, c.2, e3]) rfl (hW.upd (by decide) (by decide))
      · intro a w1 live S E D C h0 hk hW
        have d7 : a.eval (.tmp 36) = .pointer (some ⟨gm, 1, none⟩) := D 7 rfl _ _ rfl rfl
        have hc0 := (HFA.out w1 hW.any).2
        exact Rgs.val rfl (Reg.wanted_free rfl) (.int .i64 (j : Int)) (by have c := Reg.consts a; generalize a.eval = ρ at *; simp [execOp, go_sem, c.1, c.2, d7, hc0]) rfl (hW.upd (by decide) (by decide))
      · intro a w1 live S E D C h0 hk hW
        have d6 : a.eval (.tmp 35) = .slice (some ⟨g, 0, none⟩) n c := D 6 rfl _ _ rfl rfl
        have d8 : a.eval (.tmp 37) = .int .i64 (j : Int) := D 8 rfl _ _ rfl rfl
        have i1 := HLT.out
        obtain ⟨i1, i2, i3, i4⟩ := i1
        have ead := mk_add (g) (j * 2)
        exact Rgs.val rfl (Reg.wanted_free rfl) (.pointer (some ⟨g, j * 2, none⟩)) (by have c := Reg.consts a; generalize a.eval = ρ at *; simp [execOp, go_sem, c.1, c.2, d6, d8, i1, i2, i3, i4, ead]) rfl (hW.upd (by decide) (by decide))
      · intro a w1 live S E D C h0 hk hW
        have d9 : a.eval (.tmp 38) = .pointer (some ⟨g, j * 2, none⟩) := D 9 rfl _ _ rfl rfl
        exact Rgs.val rfl (Reg.wanted_free rfl) (.pointer (some ⟨g, j * 2 + 1, none⟩)) (by have c := Reg.consts a; generalize a.eval = ρ at *; simp [execOp, go_sem, c.1, c.2, d9]) rfl (hW.upd (by decide) (by decide))
      · intro a w1 live S E D C h0 hk hW
        have d10 : a.eval (.tmp 39) = .pointer (some ⟨g, j * 2 + 1, none⟩) := D 10 rfl _ _ rfl rfl
        have l18 := Reg.not_live C h0 (j := 18) rfl rfl
        have l21 := Reg.not_live C l18 (j := 21) rfl rfl
        have l24 := Reg.not_live C l21 (j := 24) rfl rfl
        have hw := hW.off l21 l24
        subst hw
        exact Rgs.val rfl (Reg.wanted_free rfl) (.int .i64 y.z) (by have c := Reg.consts a; generalize a.eval = ρ at *; simp [execOp, go_sem, c.1, c.2, d10, cy]) rfl (hW.upd (by decide) (by decide))
      · intro a w1 live S E D C h0 hk hW
        have e5 : a.eval (.tmp 5) = .slice (some ⟨g, 0, none⟩) n c := E 5 rfl
        exact Rgs.val rfl (Reg.wanted_free rfl) (.slice (some ⟨g, 0, none⟩) n c) (by have c := Reg.consts a; generalize a.eval = ρ at *; simp [execOp, go_sem, c.1, c.2, e5]) rfl (hW.upd (by decide) (by decide))
      · intro a w1 live S E D C h0 hk hW
        have e3 : a.eval (.tmp 3) = .pointer (some ⟨gm, 0, none⟩) := E 3 rfl
        exact Rgs.val rfl (Reg.wanted_free rfl) (.pointer (some ⟨gm, 0, none⟩)) (by have c := Reg.consts a; generalize a.eval = ρ at *; simp [execOp, go_sem, c.1, c.2, e3]) rfl (hW.upd (by decide) (by decide))
      · intro a w1 live S E D C h0 hk hW
        have d13 : a.eval (.tmp 42) = .pointer (some ⟨gm, 0, none⟩) := D 13 rfl _ _ rfl rfl
        have hc0 := (HFA.out w1 hW.any).1
        exact Rgs.val rfl (Reg.wanted_free rfl) (.int .i64 (i : Int)) (by have c := Reg.consts a; generalize a.eval = ρ at *; simp [execOp, go_sem, c.1, c.2, d13, hc0]) rfl (hW.upd (by decide) (by decide))
      · intro a w1 live S E D C h0 hk hW
        have d12 : a.eval (.tmp 41) = .slice (some ⟨g, 0, none⟩) n c := D 12 rfl _ _ rfl rfl
        have d14 : a.eval (.tmp 43) = .int .i64 (i : Int) := D 14 rfl _ _ rfl rfl
        have i1 := HLT.out
        obtain ⟨i1, i2, i3, i4⟩ := i1
        have ead := mk_add (g) (i * 2)
        exact Rgs.val rfl (Reg.wanted_free rfl) (.pointer (some ⟨g, i * 2, none⟩)) (by have c := Reg.consts a; generalize a.eval = ρ at *; simp [execOp, go_sem, c.1, c.2, d12, d14, i1, i2, i3, i4, ead]) rfl (hW.upd (by decide) (by decide))
      · intro a w1 live S E D C h0 hk hW
        have d15 : a.eval (.tmp 44) = .pointer (some ⟨g, i * 2, none⟩) := D 15 rfl _ _ rfl rfl
        exact Rgs.val rfl (Reg.wanted_free rfl) (.pointer (some ⟨g, i * 2 + 1, none⟩)) (by have c := Reg.consts a; generalize a.eval = ρ at *; simp [execOp, go_sem, c.1, c.2, d15]) rfl (hW.upd (by decide) (by decide))
      · intro a w1 live S E D C h0 hk hW
        have d16 : a.eval (.tmp 45) = .pointer (some ⟨g, i * 2 + 1, none⟩) := D 16 rfl _ _ rfl rfl
        have l18 := Reg.not_live C h0 (j := 18) rfl rfl
        have l21 := Reg.not_live C l18 (j := 21) rfl rfl
        have l24 := Reg.not_live C l21 (j := 24) rfl rfl
        have hw := hW.off l21 l24
        subst hw
        exact Rgs.val rfl (Reg.wanted_free rfl) (.int .i64 x.z) (by have c := Reg.consts a; generalize a.eval = ρ at *; simp [execOp, go_sem, c.1, c.2, d16, cx]) rfl (hW.upd (by decide) (by decide))
      · intro a w1 live S E D C h0 hk hW
        have d11 : a.eval (.tmp 40) = .int .i64 y.z := D 11 rfl _ _ rfl rfl
        have d17 : a.eval (.tmp 46) = .int .i64 x.z := D 17 rfl _ _ rfl rfl
        have l21 := Reg.not_live C h0 (j := 21) rfl rfl
        have l24 := Reg.not_live C l21 (j := 24) rfl rfl
        have hw := hW.off l21 l24
        subst hw
        refine Rgs.call rfl (Reg.wanted_free rfl) 35 #[.int .i64 y.z, .int .i64 x.z] (by have c := Reg.consts a; generalize a.eval = ρ at *; simp [execOp, go_sem, c.1, c.2, d11, d17]) ?_
        refine (HSM.out _).mono ?_
        rintro e w5 ⟨rfl, rfl⟩
        exact ⟨_, rfl, rfl, (hW.upd (by decide) (by decide)), fun j v _ h => h⟩
      · intro a w1 live S E D C h0 hk hW
        have d0 : a.eval (.tmp 29) = .slice (some ⟨g, 0, none⟩) n c := D 0 rfl _ _ rfl rfl
        have d2 : a.eval (.tmp 31) = .int .i64 (j : Int) := D 2 rfl _ _ rfl rfl
        have i1 := HLT.out
        obtain ⟨i1, i2, i3, i4⟩ := i1
        have ead := mk_add (g) (j * 2)
        exact Rgs.val rfl (Reg.wanted_free rfl) (.pointer (some ⟨g, j * 2, none⟩)) (by have c := Reg.consts a; generalize a.eval = ρ at *; simp [execOp, go_sem, c.1, c.2, d0, d2, i1, i2, i3, i4, ead]) rfl (hW.upd (by decide) (by decide))
      · intro a w1 live S E D C h0 hk hW
        have d19 : a.eval (.tmp 48) = .pointer (some ⟨g, j * 2, none⟩) := D 19 rfl _ _ rfl rfl
        exact Rgs.val rfl (Reg.wanted_free rfl) (.pointer (some ⟨g, j * 2 + 1, none⟩)) (by have c := Reg.consts a; generalize a.eval = ρ at *; simp [execOp, go_sem, c.1, c.2, d19]) rfl (hW.upd (by decide) (by decide))
      · intro a w1 live S E D C h0 hk hW
        have d20 : a.eval (.tmp 49) = .pointer (some ⟨g, j * 2 + 1, none⟩) := D 20 rfl _ _ rfl rfl
        have d18 : a.eval (.tmp 47) = .int .i64 (T : Int) := D 18 rfl _ _ rfl rfl
        have l24 := Reg.not_live C h0 (j := 24) rfl rfl
        have hw := hW.off h0 l24
        subst hw
        refine Rgs.store rfl (Reg.wanted_free rfl) _ (by have c := Reg.consts a; generalize a.eval = ρ at *; simp [execOp, go_sem, c.1, c.2, d20, d18, e1, e2]) rfl (Rgs.StW2.put1 _ (by decide) _ _ _ _ _ l24) (fun j v _ h => h)
      · intro a w1 live S E D C h0 hk hW
        have d3 : a.eval (.tmp 32) = .slice (some ⟨g, 0, none⟩) n c := D 3 rfl _ _ rfl rfl
        have d5 : a.eval (.tmp 34) = .int .i64 (i : Int) := D 5 rfl _ _ rfl rfl
        have i1 := HLT.out
        obtain ⟨i1, i2, i3, i4⟩ := i1
        have ead := mk_add (g) (i * 2)
        exact Rgs.val rfl (Reg.wanted_free rfl) (.pointer (some ⟨g, i * 2, none⟩)) (by have c := Reg.consts a; generalize a.eval = ρ at *; simp [execOp, go_sem, c.1, c.2, d3, d5, i1, i2, i3, i4, ead]) rfl (hW.upd (by decide) (by decide))
      · intro a w1 live S E D C h0 hk hW
        have d22 : a.eval (.tmp 50) = .pointer (some ⟨g, i * 2, none⟩) := D 22 rfl _ _ rfl rfl
        exact Rgs.val rfl (Reg.wanted_free rfl) (.pointer (some ⟨g, i * 2 + 1, none⟩)) (by have c := Reg.consts a; generalize a.eval = ρ at *; simp [execOp, go_sem, c.1, c.2, d22]) rfl (hW.upd (by decide) (by decide))
      · intro a w1 live S E D C h0 hk hW
        have d23 : a.eval (.tmp 51) = .pointer (some ⟨g, i * 2 + 1, none⟩) := D 23 rfl _ _ rfl rfl
        have hw := hW.mid (hk 21 rfl) h0
        subst hw
        refine Rgs.store rfl (Reg.wanted_free rfl) ((wq.drew.setCell ⟨g, j * 2 + 1, none⟩ (.int .i64 (T : Int))).setCell ⟨g, i * 2 + 1, none⟩ (.int .i64 0)) ?_ rfl (Rgs.StW2.put2 _ _ _ _ _ _ _ _) (fun j v _ h => h)
        obtain ⟨wz, hwz⟩ : ∃ wz, wz = wq.drew.setCell ⟨g, j * 2 + 1, none⟩ (.int .i64 (T : Int)) := ⟨_, rfl⟩
        rw [← hwz] at k1 k2 ⊢
        clear hwz
        have c := Reg.consts a
        generalize a.eval = ρ at *
        simp [execOp, go_sem, c.1, c.2, d23, k1, k2]
    · intro a w3 live hs hd E D' Hl hW
      rw [Rgs.act_ws a _ _ hs hd E [29, 30, 31, 32, 33, 34, 35, 36, 37, 38, 39, 40, 41, 42, 43, 44, 45, 46, 47, 48, 49, 50, 51] (by kernel_rfl)]
      simp only [List.foldl, List.setIfInBounds_toArray, List.set_cons_succ, List.set_cons_zero]
      have hw := hW.on (Hl 24 (by decide))
      subst hw
      clear E D' Hl hW e1 e2 k1 k2 cx cy HFA
      generalize a.eval = ρ
      clear a hs hd
      generalize (wq.drew.setCell ⟨g, j * 2 + 1, none⟩ (.int .i64 (T : Int))).setCell ⟨g, i * 2 + 1, none⟩ (.int .i64 0) = w9 at HFIN HBF ⊢
      have hT := rtidy_any (some ⟨g, 0, none⟩) n c (mv (Z.map clp) i j true) w9 (zmv_row HFIN.out.rdb) HFIN.out.cap (by omega) HTK.out.1
      have HT := Lib.hid hT
      clear hT
      go_wp2_with fail
      refine HT.out.mono ?_
      rintro e w10 ⟨A10, c10, rfl, hr10, hc10, hb10, _⟩
      have HR10 := Lib.hid (And.intro hr10 (HBF.out.trans (hb10.mono HBF.out.size)))
      clear hr10 hb10 HT
      go_wp2_with fail
      go_ret
      exact HOUT.out _ _ _ rfl ⟨A10, c10, rfl, HR10.out.1, hc10, HR10.out.2⟩
  | false =>
    go_upto_region 6 with fail
    clear q0' q1' q2'
    have hmm := HOB.out.below (w' := wq.drew) (Below.refl _ _).drew
    have cy : wq.drew.cell? ⟨g, j * 2 + 1, none⟩ = some (.int .i64 y.z) := (OwnB.cellK hmm zcl_len (k := 1) hy (by omega) rfl).1
    have cx : wq.drew.cell? ⟨g, i * 2 + 1, none⟩ = some (.int .i64 x.z) := (OwnB.cellK hmm zcl_len (k := 1) hx (by omega) rfl).1
    have e1 : wq.drew.cell? ⟨g, i * 2 + 1, none⟩ = some (.int .i64 x.z) := (OwnB.cellK hmm zcl_len (k := 1) hx (by omega) rfl).1
    have e2 : wq.drew.frozen? ⟨g, i * 2 + 1, none⟩ = false := (OwnB.cellK hmm zcl_len (k := 1) hx (by omega) rfl).2
    have hm1 := OwnB.putK hmm zcl_len (k := 1) (y := ⟨x.p, (T : Int)⟩) hx (by omega) (v := (.int .i64 (T : Int))) rfl
    have h2x : (Z.set i ⟨x.p, (T : Int)⟩)[j]? = some y := by rw [List.getElem?_set_ne (by omega)]; exact hy
    have k1 : (wq.drew.setCell ⟨g, i * 2 + 1, none⟩ (.int .i64 (T : Int))).cell? ⟨g, j * 2 + 1, none⟩ = some (.int .i64 y.z) := (OwnB.cellK hm1 zcl_len (k := 1) h2x (by omega) rfl).1
    have k2 : (wq.drew.setCell ⟨g, i * 2 + 1, none⟩ (.int .i64 (T : Int))).frozen? ⟨g, j * 2 + 1, none⟩ = false := (OwnB.cellK hm1 zcl_len (k := 1) h2x (by omega) rfl).2
    have hm2 := OwnB.putK hm1 zcl_len (k := 1) (y := ⟨y.p, 0⟩) h2x (by omega) (v := (.int .i64 0)) rfl
    rw [HZM.out.2] at hm2
    have HFIN := Lib.hid hm2
    have HBF : Hid (Below w.heap.size w ((wq.drew.setCell ⟨g, i * 2 + 1, none⟩ (.int .i64 (T : Int))).setCell ⟨g, j * 2 + 1, none⟩ (.int .i64 0))) := Lib.hid ((HBQ.out.drew.setCell (p := ⟨g, i * 2 + 1, none⟩) hBg _).setCell (p := ⟨g, j * 2 + 1, none⟩) hBg _)
    have HFA : Hid (∀ wx, (wx = wq.drew ∨ wx = wq.drew.setCell ⟨g, i * 2 + 1, none⟩ (.int .i64 (T : Int)) ∨ wx = (wq.drew.setCell ⟨g, i * 2 + 1, none⟩ (.int .i64 (T : Int))).setCell ⟨g, j * 2 + 1, none⟩ (.int .i64 0)) → wx.cell? ⟨gm, 0, none⟩ = some (.int .i64 (i : Int)) ∧ wx.cell? ⟨gm, 1, none⟩ = some (.int .i64 (j : Int))) := Lib.hid fun wx hwx => by
      have hvd : Vec wq.drew gm 3 _ := HVM.out.drewN 1
      have hgm : gm ≠ g := by omega
      rcases hwx with rfl | rfl | rfl
      · exact ⟨hvd.cell 0 (by omega), hvd.cell 1 (by omega)⟩
      · exact ⟨(hvd.other ⟨g, i * 2 + 1, none⟩ _ hgm).cell 0 (by omega), (hvd.other ⟨g, i * 2 + 1, none⟩ _ hgm).cell 1 (by omega)⟩
      · exact ⟨((hvd.other ⟨g, i * 2 + 1, none⟩ _ hgm).other ⟨g, j * 2 + 1, none⟩ _ hgm).cell 0 (by omega), ((hvd.other ⟨g, i * 2 + 1, none⟩ _ hgm).other ⟨g, j * 2 + 1, none⟩ _ hgm).cell 1 (by omega)⟩
    clear hmm hm1 hm2 h2x
    go_wp2_with fail
    refine Rgs.region (by kernel_rfl) (by kernel_rfl) (fun (opn : Nat) (vl : Value) (_ : World) => match opn with | 0 => vl = .slice (some ⟨g, 0, none⟩) n c | 1 => vl = .pointer (some ⟨gm, 0, none⟩) | 2 => vl = .int .i64 (i : Int) | 3 => vl = .slice (some ⟨g, 0, none⟩) n c | 4 => vl = .pointer (some ⟨gm, 1, none⟩) | 5 => vl = .int .i64 (j : Int) | 6 => vl = .slice (some ⟨g, 0, none⟩) n c | 7 => vl = .pointer (some ⟨gm, 1, none⟩) | 8 => vl = .int .i64 (j : Int) | 9 => vl = .pointer (some ⟨g, j * 2, none⟩) | 10 => vl = .pointer (some ⟨g, j * 2 + 1, none⟩) | 11 => vl = .int .i64 y.z | 12 => vl = .slice (some ⟨g, 0, none⟩) n c | 13 => vl = .pointer (some ⟨gm, 0, none⟩) | 14 => vl = .int .i64 (i : Int) | 15 => vl = .pointer (some ⟨g, i * 2, none⟩) | 16 => vl = .pointer (some ⟨g, i * 2 + 1, none⟩) | 17 => vl = .int .i64 x.z | 18 => vl = .int .i64 (T : Int) | 19 => vl = .pointer (some ⟨g, i * 2, none⟩) | 20 => vl = .pointer (some ⟨g, i * 2 + 1, none⟩) | 21 => vl = undef | 22 => vl = .pointer (some ⟨g, j * 2, none⟩) | 23 => vl = .pointer (some ⟨g, j * 2 + 1, none⟩) | 24 => vl = undef | _ => True) (fun live _ w' => Rgs.StW2 wq.drew 21 24 ⟨g, i * 2 + 1, none⟩ ⟨g, j * 2 + 1, none⟩ (.int .i64 (T : Int)) (.int .i64 0) live w') rfl (Rgs.steps_of ?_) ?_
    · refine ⟨?_, ?_, ?_, ?_, ?_, ?_, ?_, ?_, ?_, ?_, ?_, ?_, ?_, ?_, ?_, ?_, ?_, ?_, ?_, ?_, ?_, ?_, ?_, ?_, ?_, trivial⟩
      · intro a w1 live S E D C h0 hk hW
        have e5 : a.eval (.tmp 5) = .slice (some ⟨g, 0, none⟩) n c := E 5 rfl
        exact Rgs.val rfl (Reg.wanted_free rfl) (.slice (some ⟨g, 0, none⟩) n c) (by have c := Reg.consts a; generalize a.eval = ρ at *; simp [execOp, go_sem, c.1, c.2, e5]) rfl (hW.upd (by decide) (by decide))
      · intro a w1 live S E D C h0 hk hW
        have e3 : a.eval (.tmp 3) = .pointer (some ⟨gm, 0, none⟩) := E 3 rfl
        exact Rgs.val rfl (Reg.wanted_free rfl) (.pointer (some ⟨gm, 0, none⟩)) (by have c := Reg.consts a; generalize a.eval = ρ at *; simp [execOp, go_sem, c.1, c.2, e3]) rfl (hW.upd (by decide) (by decide))
      · intro a w1 live S E D C h0 hk hW
        have d1 : a.eval (.tmp 53) = .pointer (some ⟨gm, 0, none⟩) := D 1 rfl _ _ rfl rfl
        have hc0 := (HFA.out w1 hW.any).1
        exact Rgs.val rfl (Reg.wanted_free rfl) (.int .i64 (i : Int)) (by have c := Reg.consts a; generalize a.eval = ρ at *; simp [execOp, go_sem, c.1, c.2, d1, hc0]) rfl (hW.upd (by decide) (by decide))
      · intro a w1 live S E D C h0 hk hW
        have e5 : a.eval (.tmp 5) = .slice (some ⟨g, 0, none⟩) n c := E 5 rfl
        exact Rgs.val rfl (Reg.wanted_free rfl) (.slice (some ⟨g, 0, none⟩) n c) (by have c := Reg.consts a; generalize a.eval = ρ at *; simp [execOp, go_sem, c.1, c.2, e5]) rfl (hW.upd (by decide) (by decide))
      · intro a w1 live S E D C h0 hk hW
        have e3 : a.eval (.tmp 3) = .pointer (some ⟨gm, 0, none⟩) := E 3 rfl
        exact Rgs.val rfl (Reg.wanted_free rfl) (.pointer (some ⟨gm, 1, none⟩)) (by have c := Reg.consts a; generalize a.eval = ρ at *; simp [execOp, go_sem, c.1, c.2, e3]) rfl (hW.upd (by decide) (by decide))
      · intro a w1 live S E D C h0 hk hW
        have d4 : a.eval (.tmp 56) = .pointer (some ⟨gm, 1, none⟩) := D 4 rfl _ _ rfl rfl
        have hc0 := (HFA.out w1 hW.any).2
        exact Rgs.val rfl (Reg.wanted_free rfl) (.int .i64 (j : Int)) (by have c := Reg.consts a; generalize a.eval = ρ at *; simp [execOp, go_sem, c.1, c.2, d4, hc0]) rfl (hW.upd (by decide) (by decide))
      · intro a w1 live S E D C h0 hk hW
        have e5 : a.eval (.tmp 5) = .slice (some ⟨g, 0, none⟩) n c := E 5 rfl
        exact Rgs.val rfl (Reg.wanted_free rfl) (.slice (some ⟨g, 0, none⟩) n c) (by have c := Reg.consts a; generalize a.eval = ρ at *; simp [execOp, go_sem, c.1, c.2, e5]) rfl (hW.upd (by decide) (by decide))
      · intro a w1 live S E D C h0 hk hW
        have e3 : a.eval (.tmp 3) = .pointer (some ⟨gm, 0, none⟩) := E 3 rfl
        exact Rgs.val rfl (Reg.wanted_free rfl) (.pointer (some ⟨gm, 1, none⟩)) (by have c := Reg.consts a; generalize a.eval = ρ at *; simp [execOp, go_sem, c.1, c.2, e3]) rfl (hW.upd (by decide) (by decide))
      · intro a w1 live S E D C h0 hk hW
        have d7 : a.eval (.tmp 59) = .pointer (some ⟨gm, 1, none⟩) := D 7 rfl _ _ rfl rfl
        have hc0 := (HFA.out w1 hW.any).2
        exact Rgs.val rfl (Reg.wanted_free rfl) (.int .i64 (j : Int)) (by have c := Reg.consts a; generalize a.eval = ρ at *; simp [execOp, go_sem, c.1, c.2, d7, hc0]) rfl (hW.upd (by decide) (by decide))
      · intro a w1 live S E D C h0 hk hW
        have d6 : a.eval (.tmp 58) = .slice (some ⟨g, 0, none⟩) n c := D 6 rfl _ _ rfl rfl
        have d8 : a.eval (.tmp 60) = .int .i64 (j : Int) := D 8 rfl _ _ rfl rfl
        have i1 := HLT.out
        obtain ⟨i1, i2, i3, i4⟩ := i1
        have ead := mk_add (g) (j * 2)
        exact Rgs.val rfl (Reg.wanted_free rfl) (.pointer (some ⟨g, j * 2, none⟩)) (by have c := Reg.consts a; generalize a.eval = ρ at *; simp [execOp, go_sem, c.1, c.2, d6, d8, i1, i2, i3, i4, ead]) rfl (hW.upd (by decide) (by decide))
      · intro a w1 live S E D C h0 hk hW
        have d9 : a.eval (.tmp 61) = .pointer (some ⟨g, j * 2, none⟩) := D 9 rfl _ _ rfl rfl
        exact Rgs.val rfl (Reg.wanted_free rfl) (.pointer (some ⟨g, j * 2 + 1, none⟩)) (by have c := Reg.consts a; generalize a.eval = ρ at *; simp [execOp, go_sem, c.1, c.2, d9]) rfl (hW.upd (by decide) (by decide))
      · intro a w1 live S E D C h0 hk hW
        have d10 : a.eval (.tmp 62) = .pointer (some ⟨g, j * 2 + 1, none⟩) := D 10 rfl _ _ rfl rfl
        have l18 := Reg.not_live C h0 (j := 18) rfl rfl
        have l21 := Reg.not_live C l18 (j := 21) rfl rfl
        have l24 := Reg.not_live C l21 (j := 24) rfl rfl
        have hw := hW.off l21 l24
        subst hw
        exact Rgs.val rfl (Reg.wanted_free rfl) (.int .i64 y.z) (by have c := Reg.consts a; generalize a.eval = ρ at *; simp [execOp, go_sem, c.1, c.2, d10, cy]) rfl (hW.upd (by decide) (by decide))
      · intro a w1 live S E D C h0 hk hW
        have e5 : a.eval (.tmp 5) = .slice (some ⟨g, 0, none⟩) n c := E 5 rfl
        exact Rgs.val rfl (Reg.wanted_free rfl) (.slice (some ⟨g, 0, none⟩) n c) (by have c := Reg.consts a; generalize a.eval = ρ at *; simp [execOp, go_sem, c.1, c.2, e5]) rfl (hW.upd (by decide) (by decide))
      · intro a w1 live S E D C h0 hk hW
        have e3 : a.eval (.tmp 3) = .pointer (some ⟨gm, 0, none⟩) := E 3 rfl
        exact Rgs.val rfl (Reg.wanted_free rfl) (.pointer (some ⟨gm, 0, none⟩)) (by have c := Reg.consts a; generalize a.eval = ρ at *; simp [execOp, go_sem, c.1, c.2, e3]) rfl (hW.upd (by decide) (by decide))
      · intro a w1 live S E D C h0 hk hW
        have d13 : a.eval (.tmp 65) = .pointer (some ⟨gm, 0, none⟩) := D 13 rfl _ _ rfl rfl
        have hc0 := (HFA.out w1 hW.any).1
        exact Rgs.val rfl (Reg.wanted_free rfl) (.int .i64 (i : Int)) (by have c := Reg.consts a; generalize a.eval = ρ at *; simp [execOp, go_sem, c.1, c.2, d13, hc0]) rfl (hW.upd (by decide) (by decide))
      · intro a w1 live S E D C h0 hk hW
        have d12 : a.eval (.tmp 64) = .slice (some ⟨g, 0, none⟩) n c := D 12 rfl _ _ rfl rfl
        have d14 : a.eval (.tmp 66) = .int .i64 (i : Int) := D 14 rfl _ _ rfl rfl
        have i1 := HLT.out
        obtain ⟨i1, i2, i3, i4⟩ := i1
        have ead := mk_add (g) (i * 2)
        exact Rgs.val rfl (Reg.wanted_free rfl) (.pointer (some ⟨g, i * 2, none⟩)) (by have c := Reg.consts a; generalize a.eval = ρ at *; simp [execOp, go_sem, c.1, c.2, d12, d14, i1, i2, i3, i4, ead]) rfl (hW.upd (by decide) (by decide))
      · intro a w1 live S E D C h0 hk hW
        have d15 : a.eval (.tmp 67) = .pointer (some ⟨g, i * 2, none⟩) := D 15 rfl _ _ rfl rfl
        exact Rgs.val rfl (Reg.wanted_free rfl) (.pointer (some ⟨g, i * 2 + 1, none⟩)) (by have c := Reg.consts a; generalize a.eval = ρ at *; simp [execOp, go_sem, c.1, c.2, d15]) rfl (hW.upd (by decide) (by decide))
      · intro a w1 live S E D C h0 hk hW
        have d16 : a.eval (.tmp 68) = .pointer (some ⟨g, i * 2 + 1, none⟩) := D 16 rfl _ _ rfl rfl
        have l18 := Reg.not_live C h0 (j := 18) rfl rfl
        have l21 := Reg.not_live C l18 (j := 21) rfl rfl
        have l24 := Reg.not_live C l21 (j := 24) rfl rfl
        have hw := hW.off l21 l24
        subst hw
        exact Rgs.val rfl (Reg.wanted_free rfl) (.int .i64 x.z) (by have c := Reg.consts a; generalize a.eval = ρ at *; simp [execOp, go_sem, c.1, c.2, d16, cx]) rfl (hW.upd (by decide) (by decide))
      · intro a w1 live S E D C h0 hk hW
        have d11 : a.eval (.tmp 63) = .int .i64 y.z := D 11 rfl _ _ rfl rfl
        have d17 : a.eval (.tmp 69) = .int .i64 x.z := D 17 rfl _ _ rfl rfl
        have l21 := Reg.not_live C h0 (j := 21) rfl rfl
        have l24 := Reg.not_live C l21 (j := 24) rfl rfl
        have hw := hW.off l21 l24
        subst hw
        refine Rgs.call rfl (Reg.wanted_free rfl) 35 #[.int .i64 y.z, .int .i64 x.z] (by have c := Reg.consts a; generalize a.eval = ρ at *; simp [execOp, go_sem, c.1, c.2, d11, d17]) ?_
        refine (HSM.out _).mono ?_
        rintro e w5 ⟨rfl, rfl⟩
        exact ⟨_, rfl, rfl, (hW.upd (by decide) (by decide)), fun j v _ h => h⟩
      · intro a w1 live S E D C h0 hk hW
        have d0 : a.eval (.tmp 52) = .slice (some ⟨g, 0, none⟩) n c := D 0 rfl _ _ rfl rfl
        have d2 : a.eval (.tmp 54) = .int .i64 (i : Int) := D 2 rfl _ _ rfl rfl
        have i1 := HLT.out
        obtain ⟨i1, i2, i3, i4⟩ := i1
        have ead := mk_add (g) (i * 2)
        exact Rgs.val rfl (Reg.wanted_free rfl) (.pointer (some ⟨g, i * 2, none⟩)) (by have c := Reg.consts a; generalize a.eval = ρ at *; simp [execOp, go_sem, c.1, c.2, d0, d2, i1, i2, i3, i4, ead]) rfl (hW.upd (by decide) (by decide))
      · intro a w1 live S E D C h0 hk hW
        have d19 : a.eval (.tmp 71) = .pointer (some ⟨g, i * 2, none⟩) := D 19 rfl _ _ rfl rfl
        exact Rgs.val rfl (Reg.wanted_free rfl) (.pointer (some ⟨g, i * 2 + 1, none⟩)) (by have c := Reg.consts a; generalize a.eval = ρ at *; simp [execOp, go_sem, c.1, c.2, d19]) rfl (hW.upd (by decide) (by decide))
      · intro a w1 live S E D C h0 hk hW
        have d20 : a.eval (.tmp 72) = .pointer (some ⟨g, i * 2 + 1, none⟩) := D 20 rfl _ _ rfl rfl
        have d18 : a.eval (.tmp 70) = .int .i64 (T : Int) := D 18 rfl _ _ rfl rfl
        have l24 := Reg.not_live C h0 (j := 24) rfl rfl
        have hw := hW.off h0 l24
        subst hw
        refine Rgs.store rfl (Reg.wanted_free rfl) _ (by have c := Reg.consts a; generalize a.eval = ρ at *; simp [execOp, go_sem, c.1, c.2, d20, d18, e1, e2]) rfl (Rgs.StW2.put1 _ (by decide) _ _ _ _ _ l24) (fun j v _ h => h)
      · intro a w1 live S E D C h0 hk hW
        have d3 : a.eval (.tmp 55) = .slice (some ⟨g, 0, none⟩) n c := D 3 rfl _ _ rfl rfl
        have d5 : a.eval (.tmp 57) = .int .i64 (j : Int) := D 5 rfl _ _ rfl rfl
        have i1 := HLT.out
        obtain ⟨i1, i2, i3, i4⟩ := i1
        have ead := mk_add (g) (j * 2)
        exact Rgs.val rfl (Reg.wanted_free rfl) (.pointer (some ⟨g, j * 2, none⟩)) (by have c := Reg.consts a; generalize a.eval = ρ at *; simp [execOp, go_sem, c.1, c.2, d3, d5, i1, i2, i3, i4, ead]) rfl (hW.upd (by decide) (by decide))
      · intro a w1 live S E D C h0 hk hW
        have d22 : a.eval (.tmp 73) = .pointer (some ⟨g, j * 2, none⟩) := D 22 rfl _ _ rfl rfl
        exact Rgs.val rfl (Reg.wanted_free rfl) (.pointer (some ⟨g, j * 2 + 1, none⟩)) (by have c := Reg.consts a; generalize a.eval = ρ at *; simp [execOp, go_sem, c.1, c.2, d22]) rfl (hW.upd (by decide) (by decide))
      · intro a w1 live S E D C h0 hk hW
        have d23 : a.eval (.tmp 74) = .pointer (some ⟨g, j * 2 + 1, none⟩) := D 23 rfl _ _ rfl rfl
        have hw := hW.mid (hk 21 rfl) h0
        subst hw
        refine Rgs.store rfl (Reg.wanted_free rfl) ((wq.drew.setCell ⟨g, i * 2 + 1, none⟩ (.int .i64 (T : Int))).setCell ⟨g, j * 2 + 1, none⟩ (.int .i64 0)) ?_ rfl (Rgs.StW2.put2 _ _ _ _ _ _ _ _) (fun j v _ h => h)
        obtain ⟨wz, hwz⟩ : ∃ wz, wz = wq.drew.setCell ⟨g, i * 2 + 1, none⟩ (.int .i64 (T : Int)) := ⟨_, rfl⟩
        rw [← hwz] at k1 k2 ⊢
        clear hwz
        have c := Reg.consts a
        generalize a.eval = ρ at *
        simp [execOp, go_sem, c.1, c.2, d23, k1, k2]
    · intro a w3 live hs hd E D' Hl hW
      rw [Rgs.act_ws a _ _ hs hd E [52, 53, 54, 55, 56, 57, 58, 59, 60, 61, 62, 63, 64, 65, 66, 67, 68, 69, 70, 71, 72, 73, 74] (by kernel_rfl)]
      simp only [List.foldl, List.setIfInBounds_toArray, List.set_cons_succ, List.set_cons_zero]
      have hw := hW.on (Hl 24 (by decide))
      subst hw
      clear E D' Hl hW e1 e2 k1 k2 cx cy HFA
      generalize a.eval = ρ
      clear a hs hd
      generalize (wq.drew.setCell ⟨g, i * 2 + 1, none⟩ (.int .i64 (T : Int))).setCell ⟨g, j * 2 + 1, none⟩ (.int .i64 0) = w9 at HFIN HBF ⊢
      have hT := rtidy_any (some ⟨g, 0, none⟩) n c (mv (Z.map clp) i j false) w9 (zmv_row HFIN.out.rdb) HFIN.out.cap (by omega) HTK.out.2
      have HT := Lib.hid hT
      clear hT
      go_wp2_with fail
      refine HT.out.mono ?_
      rintro e w10 ⟨A10, c10, rfl, hr10, hc10, hb10, _⟩
      have HR10 := Lib.hid (And.intro hr10 (HBF.out.trans (hb10.mono HBF.out.size)))
      clear hr10 hb10 HT
      go_wp2_with fail
      go_ret
      exact HOUT.out _ _ _ rfl ⟨A10, c10, rfl, HR10.out.1, hc10, HR10.out.2⟩
end Go.Proofs.Ytoaocdmcjjohgaa
