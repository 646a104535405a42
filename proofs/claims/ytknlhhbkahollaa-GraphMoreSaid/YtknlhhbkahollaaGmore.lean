/- GraphMore: for any tape of numbers, any two numbers, whether it is a queue or not: of the configuration that is made of the tape, with a channel more nobody is reached by fewer, each by itself; who sends sways who takes out, by a queue the other way round too; both depend; an idle tick is free; chapter 7's runs are as they must be. -/
import Derived.Test.YtknlhhbkahollaaLow2
import Derived.Test.YtknlhhbkahollaaCbox
import Derived.Test.YtknlhhbkahollaaGswa
import Derived.Test.YtknlhhbkahollaaGfre
import Derived.Test.YtknlhhbkahollaaGrea
import Derived.Test.YtknlhhbkahollaaGkno
namespace Go.Proofs.Ytknlhhbkahollaa.graphMore
open Go.ChangeShapes Go.WideShapes Go.ChangeAt Go.RowKit Tab
set_option linter.unusedSimpArgs false
set_option linter.unusedVariables false

/-- What region 9's operations yield: who reaches p, by fewer channels, by more. -/
def MorV (ag ad : Value) (p : Nat) (L1 L2 : List Nat) (j : Nat) (v : Value) (w : World) : Prop :=
  match j with
  | 0 => v = ag
  | 1 => v = .int .i64 (p : Int)
  | 2 => ∃ B A c, v = .slice A L1.length c ∧ OwnV 3 1 w B A L1.length c (is (L1.map fun x : Nat => (x : Int)))
  | 3 => v = ad
  | 4 => v = .int .i64 (p : Int)
  | 5 => ∃ B A c, v = .slice A L2.length c ∧ OwnV 3 1 w B A L2.length c (is (L2.map fun x : Nat => (x : Int)))
  | 6 => ∃ B A c, v = .slice A L1.length c ∧ OwnV 3 1 w B A L1.length c (is (L1.map fun x : Nat => (x : Int)))
  | 7 => ∃ B A c, v = .slice A L2.length c ∧ OwnV 3 1 w B A L2.length c (is (L2.map fun x : Nat => (x : Int)))
  | _ => True
theorem MorV.on {ag ad : Value} {p : Nat} {L1 L2 : List Nat} {w w' : World} (hb : Below w.heap.size w w') (j : Nat) (v : Value) (h : MorV ag ad p L1 L2 j v w) : MorV ag ad p L1 L2 j v w' := by
  unfold MorV at h ⊢
  split at h
  case h_3 => obtain ⟨B, A, c, h1, h2⟩ := h; exact ⟨B, A, c, h1, h2.below rfl hb⟩
  case h_6 => obtain ⟨B, A, c, h1, h2⟩ := h; exact ⟨B, A, c, h1, h2.below rfl hb⟩
  case h_7 => obtain ⟨B, A, c, h1, h2⟩ := h; exact ⟨B, A, c, h1, h2.below rfl hb⟩
  case h_8 => obtain ⟨B, A, c, h1, h2⟩ := h; exact ⟨B, A, c, h1, h2.below rfl hb⟩
  all_goals exact h
theorem sub_hit {L1 L2 : List Nat} {z i k : Nat} (h : (L1.drop z).Sublist (L2.drop i)) (h1 : L1[z]? = some k) (h2 : L2[i]? = some k) : (L1.drop (z + 1)).Sublist (L2.drop (i + 1)) := by
  obtain ⟨a1, e1⟩ := List.getElem?_eq_some_iff.1 h1
  obtain ⟨a2, e2⟩ := List.getElem?_eq_some_iff.1 h2
  rw [List.drop_eq_getElem_cons a1, List.drop_eq_getElem_cons a2, e1, e2] at h
  exact List.cons_sublist_cons.1 h
theorem sub_miss {L1 L2 : List Nat} {z i u k : Nat} (h : (L1.drop z).Sublist (L2.drop i)) (h1 : L1[z]? = some u) (h2 : L2[i]? = some k) (hne : u ≠ k) : (L1.drop z).Sublist (L2.drop (i + 1)) := by
  obtain ⟨a1, e1⟩ := List.getElem?_eq_some_iff.1 h1
  obtain ⟨a2, e2⟩ := List.getElem?_eq_some_iff.1 h2
  rw [List.drop_eq_getElem_cons a1, List.drop_eq_getElem_cons a2, e1, e2] at h
  rw [List.drop_eq_getElem_cons a1, e1]
  cases h with
  | cons _ h => exact h
  | cons_cons _ h => exact absurd rfl hne
theorem sub_end {L1 L2 : List Nat} {z i : Nat} (hz : L1.length ≤ z) : (L1.drop z).Sublist (L2.drop i) := by
  rw [List.drop_eq_nil_of_le hz]
  exact List.nil_sublist _
theorem any_step {L : List Nat} {i k p : Nat} (h : L[i]? = some k) : (L.take (i + 1)).any (fun u => u == p) = ((L.take i).any (fun u => u == p) || (k == p)) := by
  obtain ⟨a1, e1⟩ := List.getElem?_eq_some_iff.1 h
  rw [List.take_succ_eq_append_getElem a1, e1, List.any_append]
  simp
theorem reachL_len (P : List Pt) (C : List Ch) (p : Nat) : (reachL P C p).length ≤ P.length := by
  unfold reachL
  have := List.length_filter_le (fun a => War (swayF P C) P.length a p) (List.range P.length)
  rwa [List.length_range] at this
theorem row_at {w : World} {B n c : Nat} {A : Option Addr} {L : List Nat} (h : OwnV 3 1 w B A n c (is (L.map fun x : Nat => (x : Int)))) {i : Nat} (hi : i < L.length) : ∃ (ad : Addr) (k : Nat), A = some ad ∧ L[i]? = some k ∧ w.cell? (ad.add i) = some (.int .i64 (k : Int)) := by
  obtain ⟨ad, e, _, hc⟩ := h.rd (by rw [is_length, List.length_map]; omega)
  refine ⟨ad, L[i], e, List.getElem?_eq_getElem hi, hc i _ ?_⟩
  simp [is, hi]
theorem row_at' {w : World} {B n c : Nat} {A : Option Addr} {L : List Nat} (h : OwnV 3 1 w B A n c (is (L.map fun x : Nat => (x : Int)))) (hn : n = L.length) {i : Nat} (hi : i < n) : ∃ (ad : Addr) (k : Nat), A = some ad ∧ L[i]? = some k ∧ w.cell? (ad.add i) = some (.int .i64 (k : Int)) := by
  subst hn
  exact row_at h hi
set_option maxRecDepth 100000 in
set_option maxHeartbeats 8000000 in
theorem walk (A0 : Option Addr) (n0 k0 : Nat) (f0 : Nat → Int) (a1 : Int) (a2 : Int) (q3 : Bool) (w : World) (r0 : RdC w w.heap.size A0 n0 fun j => .int .i64 (f0 j)) (c0 : n0 ≤ k0) (b0 : k0 ≤ 140737488351232) (w0 : ∀ j, j < n0 → (Lit.int .i64 (f0 j)).wf = true) (w1 : (Lit.int .i64 a1).wf = true) (w2 : (Lit.int .i64 a2).wf = true) :
    Calls Try.prog 6 #[.slice A0 n0 k0, .int .i64 a1, .int .i64 a2, .bool q3] w (Ans (.bool true) w) := by
  have R0 := Lib.hid r0
  clear r0 w0
  go_enter Try.func6, Try.ntmps6
  go_wp2_with fail
  refine (config_box A0 n0 k0 f0 w R0.out (by omega)).mono ?_
  rintro e wc ⟨A1, A2, A3, n1, n2, n3, c1, c2, c3, P, C, T, rfl, hCf, q1, q2, qn2, q4, q5, hco, _, _, _, _, _, hb1⟩
  have hbl := bl1 wc (.cells #[.slice A1 n1 c1, .slice A2 n2 c2, .slice A3 n3 c3] 26)
  have hbox := box_vec wc (.slice A1 n1 c1) (.slice A2 n2 c2) (.slice A3 n3 c3) 26
  have HCF := Lib.hid (hCf.on hbl)
  have HBW := Lib.hid (hb1.trans (hbl.mono hb1.size))
  have HBX := Lib.hid hbox
  have hlen : P.length = n1 := hCf.p.len
  clear hCf hb1 hbl hbox hco R0
  go_upto_region 2 with fail
  generalize wc.alloc (.cells #[.slice A1 n1 c1, .slice A2 n2 c2, .slice A3 n3 c3] 26) = W at HCF HBW HBX ⊢
  obtain ⟨gq, hgq⟩ : ∃ gq, gq = wc.heap.size := ⟨_, rfl⟩
  rw [← hgq] at HBX ⊢
  clear hgq
  obtain ⟨m0, m1, m2⟩ := HBX.out.three
  go_wp2_with fail
  refine (within_at a1 _ (n1 - 1) W (by omega) (by omega)).mono ?_
  rintro e _ ⟨x, hx1, rfl, rfl⟩
  go_wp2_with fail
  refine (within_at a2 _ (n1 - 1) W (by omega) (by omega)).mono ?_
  rintro e _ ⟨y, hy1, rfl, rfl⟩
  have hx : x < n1 := by omega
  have hy : y < n1 := by omega
  clear hx1 hy1 w1 w2
  go_upto_region 5 with fail
  have hbd := bl1 W (.cells #[.slice A1 n1 c1, .slice A2 n2 c2, .slice A3 n3 c3] 26)
  have hvd := box_vec W (.slice A1 n1 c1) (.slice A2 n2 c2) (.slice A3 n3 c3) 26
  have hvq := HBX.out.on hbd
  have hszd : W.heap.size < (W.alloc (.cells #[.slice A1 n1 c1, .slice A2 n2 c2, .slice A3 n3 c3] 26)).heap.size := by simp
  generalize hWd : W.alloc (.cells #[.slice A1 n1 c1, .slice A2 n2 c2, .slice A3 n3 c3] 26) = Wd at hbd hvd hvq hszd ⊢
  clear hWd
  have hbe := bl1 Wd (.cells #[] 36)
  have hle : Wd.heap.size ≤ (Wd.alloc (.cells #[] 36)).heap.size := hbe.size
  have m1e := (hvq.on hbe).three.2.1
  have hown0 : OwnV 36 6 (Wd.alloc (.cells #[] 36)) Wd.heap.size (some ⟨Wd.heap.size, 0, none⟩) 0 0 [] := ownV_lit Wd _ 6 Wd.heap.size #[] 0 rfl (Nat.le_refl _) (by unfold maxLen; omega)
  have hrd2 := ((HCF.out.on hbd).on hbe).c.rd
  have hl2 : (C.flatMap cc).length = n2 * 6 := by rw [flat_len cc_len, HCF.out.c.len]
  have HFIN : Hid (∀ A5 c5 w5, OwnV 36 6 w5 Wd.heap.size A5 (n2 + 1) c5 ((C ++ [(⟨(x : Int), (y : Int), q3, 0, 0, 0⟩ : ChV)]).flatMap cc) → Below Wd.heap.size Wd w5 →
      (w5.cell? ⟨W.heap.size, 1, none⟩ = some (.slice A2 n2 c2) ∧ w5.frozen? ⟨W.heap.size, 1, none⟩ = false) ∧
      CfW (w5.setCell ⟨W.heap.size, 1, none⟩ (.slice A5 (n2 + 1 : Nat) c5)) (w5.setCell ⟨W.heap.size, 1, none⟩ (.slice A5 (n2 + 1 : Nat) c5)).heap.size A1 A2 n1 n2 P C ∧
      CfW (w5.setCell ⟨W.heap.size, 1, none⟩ (.slice A5 (n2 + 1 : Nat) c5)) (w5.setCell ⟨W.heap.size, 1, none⟩ (.slice A5 (n2 + 1 : Nat) c5)).heap.size A1 A5 n1 (n2 + 1) P (C ++ [(⟨(x : Int), (y : Int), q3, 0, 0, 0⟩ : ChV)]) ∧
      Vec (w5.setCell ⟨W.heap.size, 1, none⟩ (.slice A5 (n2 + 1 : Nat) c5)) gq 3 (fun j => if j = 0 then .slice A1 n1 c1 else if j = 1 then .slice A2 n2 c2 else .slice A3 n3 c3) ∧
      Vec (w5.setCell ⟨W.heap.size, 1, none⟩ (.slice A5 (n2 + 1 : Nat) c5)) W.heap.size 3 (fun j => if j = 0 then .slice A1 n1 c1 else if j = 1 then .slice A5 (n2 + 1 : Nat) c5 else .slice A3 n3 c3) ∧
      Below w.heap.size w (w5.setCell ⟨W.heap.size, 1, none⟩ (.slice A5 (n2 + 1 : Nat) c5))) := Lib.hid fun A5 c5 w5 ho hb => by
    have hbW : Below W.heap.size W (w5.setCell ⟨W.heap.size, 1, none⟩ (.slice A5 (n2 + 1 : Nat) c5)) := (hbd.trans (hb.mono hbd.size)).setCell (p := ⟨W.heap.size, 1, none⟩) (Nat.le_refl _) _
    have hv5 := hvd.below hb hszd
    have hcW := HCF.out.on hbW
    have hA5 : ∀ g, A5 = some ⟨g, 0, none⟩ → g ≠ W.heap.size := fun g e => by
      have := (ho.obk_ge (b := g) (by rw [e]; rfl)).1
      omega
    have ho' := ho.other ⟨W.heap.size, 1, none⟩ (.slice A5 (n2 + 1 : Nat) c5) hA5
    refine ⟨⟨hv5.cell 1 (by omega), hv5.thaw 1⟩, hcW, ⟨hcW.p, ⟨by rw [List.length_append, HCF.out.c.len]; rfl, ho'.rd⟩⟩, HBX.out.on hbW, (hv5.set 1 _).congr fun j hj => ?_, HBW.out.trans (hbW.mono HBW.out.size)⟩
    rcases (by omega : j = 0 ∨ j = 1 ∨ j = 2) with rfl | rfl | rfl <;> rfl
  generalize hgd : W.heap.size = gd at HFIN hszd hvd ⊢
  clear hgd hvd hvq hbd m0 m1 m2 HCF HBX HBW
  go_upto_region 6 with (first
    | (at_builtin; go_loud (refine wpList_appV elCh rfl (.tmp 38) (.tmp 40) rfl rfl Wd.heap.size (some ⟨Wd.heap.size, 0, none⟩) 0 0 [] rfl hown0 A2 n2 c2 (C.flatMap cc) _ rfl hrd2 hl2 (cc_one C) (by omega) (by unfold maxLen; omega) hle n2 (Nat.zero_add _) (C.flatMap cc) (List.nil_append _) ?_; intro A4 c4 w4 hw4 hb4 hot4; have hbl4 := bl1 w4 (.cells #[.int .i64 (x : Int), .int .i64 (y : Int), .bool q3, .int .i64 0, .int .u32 0, .int .i64 0] 36); have how5 := hw4.below rfl hbl4; have hrd5 := rdV_new w4 #[.int .i64 (x : Int), .int .i64 (y : Int), .bool q3, .int .i64 0, .int .u32 0, .int .i64 0] 36 ([(⟨(x : Int), (y : Int), q3, 0, 0, 0⟩ : ChV)].flatMap cc) rfl; have hbe4 := hbe.trans hb4; have hs4 : Wd.heap.size ≤ (w4.alloc (.cells #[.int .i64 (x : Int), .int .i64 (y : Int), .bool q3, .int .i64 0, .int .u32 0, .int .i64 0] 36)).heap.size := Nat.le_trans hbe4.size hbl4.size; have HB4 := Lib.hid (hbe4.trans (hbl4.mono hbe4.size)); clear hw4 hb4 hot4 hbl4 hbe4))
    | (at_builtin; go_loud (refine wpList_appX elCh rfl (.tmp 41) (.tmp 46) rfl rfl Wd.heap.size A4 n2 c4 _ rfl how5 _ 1 1 _ _ rfl hrd5 rfl Nat.one_pos (cc_one [(⟨(x : Int), (y : Int), q3, 0, 0, 0⟩ : ChV)]) (by omega) (by unfold maxLen; omega) hs4 (n2 + 1) rfl ((C ++ [(⟨(x : Int), (y : Int), q3, 0, 0, 0⟩ : ChV)]).flatMap cc) (by rw [List.flatMap_append]) ?_; intro A5 c5 w5 hw5 hb5 hg5; have hF := HFIN.out A5 c5 w5 hw5 (HB4.out.trans hb5); obtain ⟨⟨z0, z1⟩, hFr⟩ := hF; have HFR := Lib.hid hFr; clear hFr hw5 hb5 hg5)))
  generalize w5.setCell ⟨gd, 1, none⟩ (.slice A5 (n2 + 1 : Nat) c5) = V at HFR ⊢
  obtain ⟨hc1, hc2, hvc, hvd, hbV⟩ := HFR.out
  have HC1 := Lib.hid hc1
  have HC2 := Lib.hid hc2
  have HVC := Lib.hid hvc
  have HVD := Lib.hid hvd
  have HBV := Lib.hid hbV
  clear HFR HFIN hc1 hc2 hvc hvd hbV z0 z1 hown0 hrd2 m1e hbe hle how5 hrd5 hs4 HB4 hl2
  go_wp2_with fail
  go_loopw [14, 15, 16, 17, 18, 20, 62] (fun s _ _ _ _ _ _ wx => ∃ p : Nat, p ≤ n1 ∧ s = .int .i64 p ∧ Below V.heap.size V wx) (fun s _ _ _ _ _ _ _ => n1 - (intOf s).toNat)
  case atStart => exact ⟨0, by omega, rfl, Below.refl _ _⟩
  case round =>
    obtain ⟨p, hp, rfl, hb⟩ := hrel
    obtain ⟨m0, m1, m2⟩ := (HVC.out.on hb).three
    obtain ⟨k0', k1', k2'⟩ := (HVD.out.on hb).three
    have HC1r := Lib.hid (HC1.out.on hb)
    have HC2r := Lib.hid (HC2.out.on hb)
    have HBr := Lib.hid hb
    clear hb
    by_cases hp : p < n1
    · have hpi : (p : Int) < (n1 : Int) := by omega
      obtain ⟨L1, hL1⟩ : ∃ L1, L1 = reachL (P.map ptOf) (C.map chOf) p := ⟨_, rfl⟩
      obtain ⟨L2, hL2⟩ : ∃ L2, L2 = reachL (P.map ptOf) ((C ++ [(⟨(x : Int), (y : Int), q3, 0, 0, 0⟩ : ChV)]).map chOf) p := ⟨_, rfl⟩
      have HLN : Hid (L1.length ≤ n1 ∧ L2.length ≤ n1) := Lib.hid (by
        have h1 := reachL_len (P.map ptOf) (C.map chOf) p
        have h2 := reachL_len (P.map ptOf) ((C ++ [(⟨(x : Int), (y : Int), q3, 0, 0, 0⟩ : ChV)]).map chOf) p
        rw [List.length_map, hlen, ← hL1] at h1
        rw [List.length_map, hlen, ← hL2] at h2
        exact ⟨h1, h2⟩)
      have HSUB : Hid (L1.Sublist L2) := Lib.hid (by rw [hL1, hL2, List.map_append]; exact reachL_more _ _ _ p (by rw [List.length_map, hlen]; exact hp))
      have HSELF : Hid (L2.any (fun u => u == p) = true) := Lib.hid (by rw [hL2]; exact List.any_eq_true.2 ⟨p, reachL_self _ _ p (by rw [List.length_map, hlen]; exact hp), beq_self_eq_true p⟩)
      go_wp2_with fail
      refine Rgs.region (by kernel_rfl) (by kernel_rfl) (MorV (.agg #[.slice A1 n1 c1, .slice A2 n2 c2, .slice A3 n3 c3]) (.agg #[.slice A1 n1 c1, .slice A5 (n2 + 1 : Nat) c5, .slice A3 n3 c3]) p L1 L2) (fun _ _ w' => Below wr.heap.size wr w') (Below.refl _ _).drew (Rgs.steps_of ?_) ?_
      · refine ⟨?_, ?_, ?_, ?_, ?_, ?_, ?_, ?_, trivial⟩
        · intro a w1 live S' E D C' h0 hk hW
          have e3 : a.eval (.tmp 9) = .pointer (some ⟨gq, 0, none⟩) := E 9 rfl
          have l0 := (hW.cell (p := ⟨gq, 0, none⟩) (World.block_lt_of_cell? _ _ m0)).trans m0
          have l1 := (hW.cell (p := ⟨gq, 1, none⟩) (World.block_lt_of_cell? _ _ m1)).trans m1
          have l2 := (hW.cell (p := ⟨gq, 2, none⟩) (World.block_lt_of_cell? _ _ m2)).trans m2
          exact Rgs.val rfl (Reg.wanted_free rfl) (.agg #[.slice A1 n1 c1, .slice A2 n2 c2, .slice A3 n3 c3]) (by have c := Reg.consts a; generalize a.eval = ρ at *; simp [execOp, go_sem, c.1, c.2, e3, l0, l1, l2]) rfl hW
        · intro a w1 live S' E D C' h0 hk hW
          have e14 : a.eval (.tmp 14) = .int .i64 (p : Int) := E 14 rfl
          exact Rgs.val rfl (Reg.wanted_free rfl) (.int .i64 (p : Int)) (by have c := Reg.consts a; generalize a.eval = ρ at *; simp [execOp, go_sem, c.1, c.2, e14]) rfl hW
        · intro a w1 live S' E D C' h0 hk hW
          have d0 : a.eval (.tmp 54) = .agg #[.slice A1 n1 c1, .slice A2 n2 c2, .slice A3 n3 c3] := D 0 rfl _ _ rfl rfl
          have d1 : a.eval (.tmp 55) = .int .i64 (p : Int) := D 1 rfl _ _ rfl rfl
          refine Rgs.call rfl (Reg.wanted_free rfl) 20 #[.agg #[.slice A1 n1 c1, .slice A2 n2 c2, .slice A3 n3 c3], .int .i64 (p : Int)] (by have c := Reg.consts a; generalize a.eval = ρ at *; simp [execOp, go_sem, c.1, c.2, d0, d1]) ?_
          have hre := reach_any A1 A2 A3 n1 n2 n3 c1 c2 c3 P C p w1 (HC1r.out.on hW) (by omega) (by omega) hp
          rw [← hL1] at hre
          refine hre.mono ?_
          rintro e w5 ⟨A, cc, rfl, ho, hb5⟩
          exact ⟨_, rfl, ⟨_, A, cc, rfl, ho⟩, hW.trans (hb5.mono hW.size), fun j v _ h => h.on hb5 j v⟩
        · intro a w1 live S' E D C' h0 hk hW
          have e3 : a.eval (.tmp 13) = .pointer (some ⟨gd, 0, none⟩) := E 13 rfl
          have l0 := (hW.cell (p := ⟨gd, 0, none⟩) (World.block_lt_of_cell? _ _ k0')).trans k0'
          have l1 := (hW.cell (p := ⟨gd, 1, none⟩) (World.block_lt_of_cell? _ _ k1')).trans k1'
          have l2 := (hW.cell (p := ⟨gd, 2, none⟩) (World.block_lt_of_cell? _ _ k2')).trans k2'
          exact Rgs.val rfl (Reg.wanted_free rfl) (.agg #[.slice A1 n1 c1, .slice A5 (n2 + 1 : Nat) c5, .slice A3 n3 c3]) (by have c := Reg.consts a; generalize a.eval = ρ at *; simp [execOp, go_sem, c.1, c.2, e3, l0, l1, l2]) rfl hW
        · intro a w1 live S' E D C' h0 hk hW
          have e14 : a.eval (.tmp 14) = .int .i64 (p : Int) := E 14 rfl
          exact Rgs.val rfl (Reg.wanted_free rfl) (.int .i64 (p : Int)) (by have c := Reg.consts a; generalize a.eval = ρ at *; simp [execOp, go_sem, c.1, c.2, e14]) rfl hW
        · intro a w1 live S' E D C' h0 hk hW
          have d0 : a.eval (.tmp 57) = .agg #[.slice A1 n1 c1, .slice A5 (n2 + 1 : Nat) c5, .slice A3 n3 c3] := D 3 rfl _ _ rfl rfl
          have d1 : a.eval (.tmp 58) = .int .i64 (p : Int) := D 4 rfl _ _ rfl rfl
          refine Rgs.call rfl (Reg.wanted_free rfl) 20 #[.agg #[.slice A1 n1 c1, .slice A5 (n2 + 1 : Nat) c5, .slice A3 n3 c3], .int .i64 (p : Int)] (by have c := Reg.consts a; generalize a.eval = ρ at *; simp [execOp, go_sem, c.1, c.2, d0, d1]) ?_
          have hre := reach_any A1 A5 A3 n1 (n2 + 1) n3 c1 c5 c3 P (C ++ [(⟨(x : Int), (y : Int), q3, 0, 0, 0⟩ : ChV)]) p w1 (HC2r.out.on hW) (by omega) (by omega) hp
          rw [← hL2] at hre
          refine hre.mono ?_
          rintro e w5 ⟨A, cc, rfl, ho, hb5⟩
          exact ⟨_, rfl, ⟨_, A, cc, rfl, ho⟩, hW.trans (hb5.mono hW.size), fun j v _ h => h.on hb5 j v⟩
        · intro a w1 live S' E D C' h0 hk hW
          obtain ⟨B, A, cc, d1, ho⟩ : MorV (.agg #[.slice A1 n1 c1, .slice A2 n2 c2, .slice A3 n3 c3]) (.agg #[.slice A1 n1 c1, .slice A5 (n2 + 1 : Nat) c5, .slice A3 n3 c3]) p L1 L2 2 (a.eval (.tmp 56)) w1 := D 2 rfl _ _ rfl rfl
          exact Rgs.val rfl (Reg.wanted_free rfl) (.slice A _ cc) (by have c := Reg.consts a; generalize a.eval = ρ at *; simp [execOp, go_sem, c.1, c.2, d1]) ⟨B, A, cc, rfl, ho⟩ hW
        · intro a w1 live S' E D C' h0 hk hW
          obtain ⟨B, A, cc, d1, ho⟩ : MorV (.agg #[.slice A1 n1 c1, .slice A2 n2 c2, .slice A3 n3 c3]) (.agg #[.slice A1 n1 c1, .slice A5 (n2 + 1 : Nat) c5, .slice A3 n3 c3]) p L1 L2 5 (a.eval (.tmp 59)) w1 := D 5 rfl _ _ rfl rfl
          exact Rgs.val rfl (Reg.wanted_free rfl) (.slice A _ cc) (by have c := Reg.consts a; generalize a.eval = ρ at *; simp [execOp, go_sem, c.1, c.2, d1]) ⟨B, A, cc, rfl, ho⟩ hW
      · intro a w3 live hs hd E D Hl hW
        obtain ⟨_, ⟨B6, A6, c6, rfl, ho6⟩, e6⟩ := D 6 _ rfl
        obtain ⟨_, ⟨B7, A7, c7, rfl, ho7⟩, e7⟩ := D 7 _ rfl
        replace e6 := e6 15 rfl
        replace e7 := e7 16 rfl
        rw [Rgs.act_ws a _ _ hs hd E [54, 55, 56, 57, 58, 59, 15, 16] (by kernel_rfl)]
        simp only [List.foldl, List.setIfInBounds_toArray, List.set_cons_succ, List.set_cons_zero, e6, e7]
        have HO6 := Lib.hid ho6
        have HO7 := Lib.hid ho7
        have HB3 := Lib.hid (HBr.out.trans (Below.mono hW HBr.out.size))
        obtain ⟨l1, hl1⟩ : ∃ l1, l1 = L1.length := ⟨_, rfl⟩
        obtain ⟨l2, hl2⟩ : ∃ l2, l2 = L2.length := ⟨_, rfl⟩
        rw [← hl1] at HO6 ⊢
        rw [← hl2] at HO7 ⊢
        have hln1 : l1 ≤ n1 := by have := HLN.out.1; omega
        have hln2 : l2 ≤ n1 := by have := HLN.out.2; omega
        have HL1 := Lib.hid hl1
        have HL2 := Lib.hid hl2
        clear hl1 hl2
        clear E D Hl hW e6 e7 ho6 ho7 m0 m1 m2 k0' k1' k2' HBr HC1r HC2r hL1 hL2
        generalize a.eval = ρ
        clear a hs hd
        go_wp2_with fail
        generalize hwv : w3 = wv at HO6 HO7 HB3 ⊢
        clear hwv
        go_loopw [17, 18, 20, 62] (fun az sf _ ix wx => ∃ (i z : Nat) (q : Bool), i ≤ l2 ∧ z ≤ l1 ∧ ix = .int .i64 i ∧ az = .int .i64 z ∧ sf = .bool q ∧ q = (L2.take i).any (fun u => u == p) ∧ (L1.drop z).Sublist (L2.drop i) ∧ wx = wv) (fun _ _ _ ix _ => l2 - (intOf ix).toNat)
        case atStart => exact ⟨0, 0, false, by omega, by omega, rfl, rfl, rfl, rfl, HSUB.out, rfl⟩
        case round =>
          obtain ⟨i, z, q, hi, hz, rfl, rfl, rfl, hq, hsub, rfl⟩ := hrel
          by_cases hil : i < l2
          · have hili : (i : Int) < (l2 : Int) := by omega
            obtain ⟨ad, k, hA7, hk, ck⟩ := row_at' HO7.out HL2.out (i := i) hil
            subst hA7
            have hany := any_step (p := p) hk
            rw [← hq] at hany
            have HSU := Lib.hid hsub
            clear hq hsub
            by_cases hzl : z < l1
            · have hzli : (z : Int) < (l1 : Int) := by omega
              obtain ⟨ad6, u, hA6, hu, cu⟩ := row_at' HO6.out HL1.out (i := z) hzl
              subst hA6
              by_cases huk : u = k
              · replace huk := huk.symm
                subst huk
                have heq : ((k : Int) == (k : Int)) = true := beq_self_eq_true _
                have HN := Lib.hid (sub_hit HSU.out hu hk)
                clear hu hk
                cases q with
                  | true =>
                    go_wp2_with fail
                    go_roundw
                    case rel => exact ⟨i + 1, z + 1, true, by omega, by omega, by go_num, by go_num, rfl, by rw [hany]; rfl, HN.out, by trivial⟩
                    case measure => simp [intOf]; omega
                  | false =>
                    by_cases hkp : k = p
                    · have hkp' : ((k : Int) == (p : Int)) = true := beq_iff_eq.2 (by omega)
                      have hkp2 : (k == p) = true := beq_iff_eq.2 hkp
                      rw [hkp2] at hany
                      clear hkp hkp2
                      go_wp2_with fail
                      go_roundw
                      case rel => exact ⟨i + 1, z + 1, true, by omega, by omega, by go_num, by go_num, rfl, by rw [hany]; rfl, HN.out, by trivial⟩
                      case measure => simp [intOf]; omega
                    · have hkp' : ((k : Int) == (p : Int)) = false := beq_eq_false_iff_ne.2 (by omega)
                      have hkp2 : (k == p) = false := beq_eq_false_iff_ne.2 hkp
                      rw [hkp2] at hany
                      clear hkp hkp2
                      go_wp2_with fail
                      go_roundw
                      case rel => exact ⟨i + 1, z + 1, false, by omega, by omega, by go_num, by go_num, rfl, by rw [hany]; rfl, HN.out, by trivial⟩
                      case measure => simp [intOf]; omega
              · have heq : ((u : Int) == (k : Int)) = false := beq_eq_false_iff_ne.2 (by omega)
                have HN := Lib.hid (sub_miss HSU.out hu hk huk)
                clear hu hk
                cases q with
                  | true =>
                    go_wp2_with fail
                    go_roundw
                    case rel => exact ⟨i + 1, z, true, by omega, by omega, by go_num, by go_num, rfl, by rw [hany]; rfl, HN.out, by trivial⟩
                    case measure => simp [intOf]; omega
                  | false =>
                    by_cases hkp : k = p
                    · have hkp' : ((k : Int) == (p : Int)) = true := beq_iff_eq.2 (by omega)
                      have hkp2 : (k == p) = true := beq_iff_eq.2 hkp
                      rw [hkp2] at hany
                      clear hkp hkp2
                      go_wp2_with fail
                      go_roundw
                      case rel => exact ⟨i + 1, z, true, by omega, by omega, by go_num, by go_num, rfl, by rw [hany]; rfl, HN.out, by trivial⟩
                      case measure => simp [intOf]; omega
                    · have hkp' : ((k : Int) == (p : Int)) = false := beq_eq_false_iff_ne.2 (by omega)
                      have hkp2 : (k == p) = false := beq_eq_false_iff_ne.2 hkp
                      rw [hkp2] at hany
                      clear hkp hkp2
                      go_wp2_with fail
                      go_roundw
                      case rel => exact ⟨i + 1, z, false, by omega, by omega, by go_num, by go_num, rfl, by rw [hany]; rfl, HN.out, by trivial⟩
                      case measure => simp [intOf]; omega
            · have hzli : ¬ (z : Int) < (l1 : Int) := by omega
              have HN : Hid ((L1.drop z).Sublist (L2.drop (i + 1))) := Lib.hid (sub_end (by have := HL1.out; omega))
              clear hk
              cases q with
                | true =>
                  go_wp2_with fail
                  go_roundw
                  case rel => exact ⟨i + 1, z, true, by omega, by omega, by go_num, by go_num, rfl, by rw [hany]; rfl, HN.out, by trivial⟩
                  case measure => simp [intOf]; omega
                | false =>
                  by_cases hkp : k = p
                  · have hkp' : ((k : Int) == (p : Int)) = true := beq_iff_eq.2 (by omega)
                    have hkp2 : (k == p) = true := beq_iff_eq.2 hkp
                    rw [hkp2] at hany
                    clear hkp hkp2
                    go_wp2_with fail
                    go_roundw
                    case rel => exact ⟨i + 1, z, true, by omega, by omega, by go_num, by go_num, rfl, by rw [hany]; rfl, HN.out, by trivial⟩
                    case measure => simp [intOf]; omega
                  · have hkp' : ((k : Int) == (p : Int)) = false := beq_eq_false_iff_ne.2 (by omega)
                    have hkp2 : (k == p) = false := beq_eq_false_iff_ne.2 hkp
                    rw [hkp2] at hany
                    clear hkp hkp2
                    go_wp2_with fail
                    go_roundw
                    case rel => exact ⟨i + 1, z, false, by omega, by omega, by go_num, by go_num, rfl, by rw [hany]; rfl, HN.out, by trivial⟩
                    case measure => simp [intOf]; omega
          · have hili : ¬ (i : Int) < (l2 : Int) := by omega
            have hz1 : z = l1 := by
              have h2 := hsub.length_le
              rw [List.length_drop, List.length_drop] at h2
              have e1 := HL1.out
              have e2 := HL2.out
              omega
            have hqt : q = true := by
              rw [hq, List.take_of_length_le (by have := HL2.out; omega)]
              exact HSELF.out
            subst hqt
            have HB4 := Lib.hid HB3.out
            clear hq hsub HB3
            subst hz1
            go_wp2_with fail
            go_roundw
            case rel => exact ⟨p + 1, by omega, by go_num, HB4.out⟩
            case measure => simp [intOf]; omega
    · have hpi : ¬ (p : Int) < (n1 : Int) := by omega
      clear m0 m1 m2
      have HSW := Lib.hid (sways_any A1 A5 A3 n1 (n2 + 1) n3 c1 c5 c3 P (C ++ [(⟨(x : Int), (y : Int), q3, 0, 0, 0⟩ : ChV)]) wr HC2r.out (by omega) (by omega))
      obtain ⟨S, hS0⟩ : ∃ S, S = swayF (P.map ptOf) ((C ++ [(⟨(x : Int), (y : Int), q3, 0, 0, 0⟩ : ChV)]).map chOf) := ⟨_, rfl⟩
      rw [← hS0] at HSW
      have hjo : joins (P.map ptOf).length (chOf (⟨(x : Int), (y : Int), q3, 0, 0, 0⟩ : ChV)) x y = true := by
        rw [joins_iff, List.length_map, hlen, inP_iff, inP_iff]
        exact ⟨⟨⟨by show (0 : Int) ≤ (x : Int); omega, by show (x : Int) < (n1 : Int); omega⟩, by show (0 : Int) ≤ (y : Int); omega, by show (y : Int) < (n1 : Int); omega⟩, rfl, rfl⟩
      have hmem : chOf (⟨(x : Int), (y : Int), q3, 0, 0, 0⟩ : ChV) ∈ (C ++ [(⟨(x : Int), (y : Int), q3, 0, 0, 0⟩ : ChV)]).map chOf := List.mem_map_of_mem (by simp)
      have hs1 := swayF_chan (P := P.map ptOf) hmem hjo
      rw [← hS0] at hs1
      have hsq : q3 = true → S y x = true := hs1.2
      have hs1 : S x y = true := hs1.1
      have hd1 := (depF_chan (P := P.map ptOf) hmem hjo).1
      have hf1 : freeF (P.map ptOf) ((C ++ [(⟨(x : Int), (y : Int), q3, 0, 0, 0⟩ : ChV)]).map chOf) (x : Int) (y : Int) = false := by
        unfold freeF
        rw [show decide ((x : Int) = -1) = false from decide_eq_false (by omega), show decide ((y : Int) = -1) = false from decide_eq_false (by omega), Int.toNat_natCast, Int.toNat_natCast, hd1]
        simp
      have hf2 : freeF (P.map ptOf) ((C ++ [(⟨(x : Int), (y : Int), q3, 0, 0, 0⟩ : ChV)]).map chOf) (-1) (x : Int) = true := by
        unfold freeF
        rw [show inP (P.map ptOf).length (x : Int) = true from inP_iff.2 ⟨by omega, by rw [List.length_map, hlen]; omega⟩]
        simp
      have HF1 := Lib.hid (fun w' (hw : Below wr.heap.size wr w') => (hf1 ▸ free_any A1 A5 A3 n1 (n2 + 1) n3 c1 c5 c3 P (C ++ [(⟨(x : Int), (y : Int), q3, 0, 0, 0⟩ : ChV)]) (x : Int) (y : Int) w' (HC2r.out.on hw) (by omega) (by omega) : Calls Try.prog 18 #[.agg #[.slice A1 n1 c1, .slice A5 (n2 + 1 : Nat) c5, .slice A3 n3 c3], .int .i64 (x : Int), .int .i64 (y : Int)] w' (Ans (.bool false) w')))
      have HF2 := Lib.hid (fun w' (hw : Below wr.heap.size wr w') => (hf2 ▸ free_any A1 A5 A3 n1 (n2 + 1) n3 c1 c5 c3 P (C ++ [(⟨(x : Int), (y : Int), q3, 0, 0, 0⟩ : ChV)]) (-1) (x : Int) w' (HC2r.out.on hw) (by omega) (by omega) : Calls Try.prog 18 #[.agg #[.slice A1 n1 c1, .slice A5 (n2 + 1 : Nat) c5, .slice A3 n3 c3], .int .i64 (-1), .int .i64 (x : Int)] w' (Ans (.bool true) w')))
      have HVDr := Lib.hid (HVD.out.on HBr.out)
      clear hjo hmem hd1 hf1 hf2 hS0
      go_wp2_with fail
      refine HSW.out.mono ?_
      rintro e w6 ⟨gs, Gs, rfl, hM, hb6⟩
      obtain ⟨xa, _, _, p4, v4⟩ := hM.row hx (Nat.le_refl _)
      obtain ⟨xb, _, _, p5, v5⟩ := hM.row hy (Nat.le_refl _)
      have u4 := v4.cell y hy
      have u5 := v5.cell x hx
      rw [hs1] at u4
      have hxi : (x : Int) < (n1 : Int) := by omega
      have hyi : (y : Int) < (n1 : Int) := by omega
      have HB6 := Lib.hid hb6
      obtain ⟨j0, j1, j2⟩ := (HVDr.out.on hb6).three
      clear v4 v5 hM hb6 k0' k1' k2' HSW
      cases q3 with
      | false =>
        clear hsq
        go_wp2_with fail
        refine (HF1.out w6 HB6.out).mono ?_
        rintro e w7 ⟨rfl, hb7⟩
        have hb67 := HB6.out.trans (hb7.mono HB6.out.size)
        obtain ⟨i0, i1, i2⟩ := (HVDr.out.on hb67).three
        have HB7 := Lib.hid hb67
        clear j0 j1 j2 p4 p5 u4 u5 hb7 hb67
        go_wp2_with fail
        refine (HF2.out w7 HB7.out).mono ?_
        rintro e w8 ⟨rfl, hb8⟩
        have hb78 := HB7.out.trans (hb8.mono HB7.out.size)
        clear i0 i1 i2 hb8
        go_wp2_with fail
        refine (known7_any w8).mono ?_
        rintro e w9 ⟨rfl, hb9⟩
        go_wp2_with fail
        go_ret
        have h9 := hb78.trans (hb9.mono hb78.size)
        have h10 := HBr.out.trans (h9.mono HBr.out.size)
        exact Ans.mk rfl (HBV.out.trans (h10.mono HBV.out.size))
      | true =>
        rw [hsq rfl] at u5
        clear hsq
        go_wp2_with fail
        refine (HF1.out w6 HB6.out).mono ?_
        rintro e w7 ⟨rfl, hb7⟩
        have hb67 := HB6.out.trans (hb7.mono HB6.out.size)
        obtain ⟨i0, i1, i2⟩ := (HVDr.out.on hb67).three
        have HB7 := Lib.hid hb67
        clear j0 j1 j2 p4 p5 u4 u5 hb7 hb67
        go_wp2_with fail
        refine (HF2.out w7 HB7.out).mono ?_
        rintro e w8 ⟨rfl, hb8⟩
        have hb78 := HB7.out.trans (hb8.mono HB7.out.size)
        clear i0 i1 i2 hb8
        go_wp2_with fail
        refine (known7_any w8).mono ?_
        rintro e w9 ⟨rfl, hb9⟩
        go_wp2_with fail
        go_ret
        have h9 := hb78.trans (hb9.mono hb78.size)
        have h10 := HBr.out.trans (h9.mono HBr.out.size)
        exact Ans.mk rfl (HBV.out.trans (h10.mono HBV.out.size))

set_option maxRecDepth 100000 in
theorem lifted (os : Os) (started : os.Started) (H : Type) (enc : TypeId × Value → H) :
    ReturnsInHanded {} Try.checked os 6 .any (Rows.graphMoreSpec.pre6 enc Try.prog Try.f6 Rows.graphMoreRow.domain false) (Rows.graphMoreSpec.post enc Try.prog Try.f6 false true false false) := by
  refine returnsInHanded_of_change_sized (C := Try.checked) own started (by kernel_rfl) Try.func6
    (ChangeSpec.witness6 (enc := enc) (C := Try.checked) false ⟨#[], #[.slice none 0 0, .int .i64 0, .int .i64 0, .bool false], []⟩ 8 (by kernel_rfl) (by kernel_rfl) (by kernel_rfl) (by kernel_rfl)) ?_
  intro W base args ds gs before hval0 hW hcnd hsz0 _
  have hval : ∀ (j : Nat) t v, Try.f6.params[j]? = some t → args[j]? = some v → Value.okWide Try.prog W .any base t v := hval0
  have hW' := hW
  obtain ⟨p, q, hA0, hV, rfl, hfz, hnd⟩ := hW
  have hA : DataW.TrodAll enc Try.prog W 0 (fun _ => true) true Try.f6.params.toList args.toList ds p := hA0
  have hsz : (DataW.weightsEach Try.prog (Try.f6.params.toList ++ Rows.graphMoreSpec.plain.varTypes Try.prog) (ds ++ gs)).all (· ≤ reachBytes) = true := hsz0
  rw [Try.params6] at hA hval hsz
  obtain ⟨v0, vs0, d0, ds0, p0, q0, hargs, rfl, rfl, h0, r0⟩ := trodAll_cons hA
  obtain ⟨v1, vs1, d1, ds1, p1, q1, rfl, rfl, rfl, h1, r1⟩ := trodAll_cons r0
  obtain ⟨v2, vs2, d2, ds2, p2, q2, rfl, rfl, rfl, h2, r2⟩ := trodAll_cons r1
  obtain ⟨v3, vs3, d3, ds3, p3, q3, rfl, rfl, rfl, h3, r3⟩ := trodAll_cons r2
  obtain ⟨rfl, rfl, rfl⟩ := trodAll_nil r3
  obtain rfl : args = #[v0, v1, v2, v3] := by cases args; simp_all
  obtain ⟨rfl, rfl⟩ := trodVars_none hV
  obtain ⟨A0, n0, k0, rfl⟩ := okWide_slice Try.underlying28 (hval 0 28 v0 rfl rfl)
  have t0 := h0
  have lt0 : ∀ x ∈ p0, x.block < W.heap.size := by obtain ⟨m, hm⟩ := t0; exact DataW.trod_lt m _ _ _ hm
  obtain ⟨f0, u0, c0, b0, w0⟩ := ints_sized h0 (fun elems spare e => sized_slice hsz (j := 0) (t := 28) (e := 3) rfl (by rw [← e]; rfl) Try.underlying28)
  obtain ⟨a1, rfl, rfl, rfl, w1⟩ := open_int Try.underlying3 (hval 1 3 v1 rfl rfl) h1
  obtain ⟨a2, rfl, rfl, rfl, w2⟩ := open_int Try.underlying3 (hval 2 3 v2 rfl rfl) h2
  obtain ⟨q3, rfl, rfl, rfl⟩ := open_bool Try.underlying4 (hval 3 4 v3 rfl rfl) h3
  clear hA0 hval0
  refine (walk A0 n0 k0 f0 a1 a2 q3 W u0 c0 b0 w0 w1 w2).mono fun e W' ⟨he, bel⟩ => ?_
  subst he
  exact ⟨_, rfl, _, _, _, [], _, [], hW', trodAll_mk1 (shut_bool Try.underlying4 _), (trodAll_cons_mk (Below.trod laidOut (by kernel_rfl) (of_decide_eq_true (by kernel_rfl)) t0 bel lt0) (trodAll_cons_mk (shut_int Try.underlying3 w1) (trodAll_cons_mk (shut_int Try.underlying3 w2) (trodAll_cons_mk (shut_bool Try.underlying4 q3) trodAll_mk0)))), rfl, bel.frame _, fun h => by cases h⟩

theorem proved : Rows.GraphMoreSaid :=
  OpenClaim.holds_of_wide 6 Try.f6 rfl rfl rfl rfl rfl rfl rfl ⟨rfl, rfl, rfl, rfl, rfl⟩ rfl rfl rfl rfl rfl (by kernel_rfl) Try.func6 (by kernel_rfl)
    (of_decide_eq_true (by kernel_rfl)) (by unfold Func.isWrapper; first | (rw [if_pos (by decide +kernel)]; kernel_rfl) | (rw [if_neg (by decide +kernel)]; exact ⟨rfl, rfl⟩))
    (fun os started H enc _ => lifted os started H enc)

end Go.Proofs.Ytknlhhbkahollaa.graphMore
