/- BoundHolds: what a frame gives may be asked of it, and no more (the walk; what package bound answers is a premise). -/
import Derived.Test.YtcmdhaieggjgcaaLow2
import Derived.Test.YtcmdhaieggjgcaaBfra
import Derived.Test.YtcmdhaieggjgcaaRegs
import Derived.Test.YtcmdhaieggjgcaaAsk
import Derived.Test.YtcmdhaieggjgcaaGkno
namespace Go.Proofs.Ytcmdhaieggjgcaa.boundHolds
open Go.ChangeShapes Go.WideShapes Go.ChangeAt Go.RowKit Tab
open boundFrames (ticks_pos)
set_option linter.unusedSimpArgs false
set_option linter.unusedVariables false

/-- A configuration of three partitions and a channel, in memory of the call's own. -/
structure HoldS (w0 : World) (gc gp gh : Nat) (cs : Value) (P : List PtV) (x : ChV) (w : World) : Prop where
  bx : Vec w gc 3 fun j => if j = 0 then .slice (some ⟨gp, 0, none⟩) 3 3 else if j = 1 then cs else .slice none 0 0
  pp : OwnB 52 11 pcl w w0.heap.size (some ⟨gp, 0, none⟩) 3 3 P
  ch : OwnB 48 6 cc w w0.heap.size (some ⟨gh, 0, none⟩) 1 1 [x]
  n1 : gc ≠ gp
  n2 : gc ≠ gh
  n3 : gp ≠ gh
  lc : w0.heap.size ≤ gc
  lp : w0.heap.size ≤ gp
  lh : w0.heap.size ≤ gh
  bl : Below w0.heap.size w0 w
section
variable {w0 w w' : World} {gc gp gh : Nat} {cs : Value} {P : List PtV} {x : ChV}
theorem HoldS.bel (h : HoldS w0 gc gp gh cs P x w) (hb : Below w.heap.size w w') : HoldS w0 gc gp gh cs P x w' :=
  ⟨h.bx.on hb, h.pp.below hb, h.ch.below hb, h.n1, h.n2, h.n3, h.lc, h.lp, h.lh, h.bl.trans (hb.mono h.bl.size)⟩
theorem HoldS.late (h : HoldS w0 gc gp gh cs P x w) (z : Int) : HoldS w0 gc gp gh cs P { x with late := z } (w.setCell ⟨gh, 5, none⟩ (.int .i64 z)) := by
  have h1 := h.ch.put cc_len (i := 0) (k := 5) (x := x) rfl (by omega) (cc_late x z)
  exact ⟨h.bx.other ⟨gh, 5, none⟩ _ h.n2, h.pp.other ⟨gh, 5, none⟩ _ (fun g e => by injection e with e; injection e with e; have := h.n3; show g ≠ gh; omega), h1, h.n1, h.n2, h.n3, h.lc, h.lp, h.lh, h.bl.setCell (p := ⟨gh, 5, none⟩) h.lh _⟩
theorem HoldS.chs (h : HoldS w0 gc gp gh cs P x w) (v : Value) : HoldS w0 gc gp gh v P x (w.setCell ⟨gc, 1, none⟩ v) := by
  refine ⟨(h.bx.set 1 v).congr fun j hj => ?_, h.pp.other ⟨gc, 1, none⟩ _ (fun g e => by injection e with e; injection e with e; have := h.n1; show g ≠ gc; omega), h.ch.other ⟨gc, 1, none⟩ _ (fun g e => by injection e with e; injection e with e; have := h.n2; show g ≠ gc; omega), h.n1, h.n2, h.n3, h.lc, h.lp, h.lh, h.bl.setCell (p := ⟨gc, 1, none⟩) h.lc _⟩
  rcases (by omega : j = 0 ∨ j = 1 ∨ j = 2) with rfl | rfl | rfl <;> rfl
theorem HoldS.put (h : HoldS w0 gc gp gh cs P x w) {i k : Nat} {y z : PtV} {v : Value} (hy : P[i]? = some y) (hk : k < 11) (hz : pcl z = (pcl y).set k v) : HoldS w0 gc gp gh cs (P.set i z) x (w.setCell ⟨gp, i * 11 + k, none⟩ v) :=
  ⟨h.bx.other ⟨gp, i * 11 + k, none⟩ _ h.n1, h.pp.put pcl_len hy hk hz, h.ch.other ⟨gp, i * 11 + k, none⟩ _ (fun g e => by injection e with e; injection e with e; have := h.n3; show g ≠ gp; omega), h.n1, h.n2, h.n3, h.lc, h.lp, h.lh, h.bl.setCell (p := ⟨gp, i * 11 + k, none⟩) h.lp _⟩
theorem HoldS.ask (h : HoldS w0 gc gp gh cs P7 x w) {p : Nat} (hp : p < P7.length) (y z : Int) : HoldS w0 gc gp gh cs (P7.set p { zP with bud := y, per := z }) x ((w.setCell ⟨gp, p * 11 + 1, none⟩ (.int .i64 y)).setCell ⟨gp, p * 11 + 2, none⟩ (.int .i64 z)) := by
  have hz : P7[p]? = some zP := by
    have : p < 3 := hp
    rcases (by omega : p = 0 ∨ p = 1 ∨ p = 2) with rfl | rfl | rfl <;> rfl
  have h1 := h.put (k := 1) hz (by omega) (pcl_bud zP y)
  have h2 := h1.put (i := p) (k := 2) (List.getElem?_set_self hp) (by omega) (pcl_per { zP with bud := y } z)
  rw [List.set_set] at h2
  exact h2
theorem HoldS.bud {p : Nat} {y z : Int} (h : HoldS w0 gc gp gh cs (P7.set p { zP with bud := y, per := z }) x w) (hp : p < P7.length) (u : Int) : HoldS w0 gc gp gh cs (P7.set p { zP with bud := u, per := z }) x (w.setCell ⟨gp, p * 11 + 1, none⟩ (.int .i64 u)) := by
  have h1 := h.put (i := p) (k := 1) (List.getElem?_set_self hp) (by omega) (pcl_bud { zP with bud := y, per := z } u)
  rw [List.set_set] at h1
  exact h1
end
theorem short_set {W : List Int} {p : Nat} (hp : p < P7.length) (y z : Int) : shortF W 0 (P7.set p { zP with bud := y, per := z }) = (decide (0 < y) && decide (budL W (p : Int) z < y)) := by
  have h0 : ∀ k, ptShort W k zP = false := fun k => rfl
  have h3 : p < 3 := hp
  rcases (by omega : p = 0 ∨ p = 1 ∨ p = 2) with rfl | rfl | rfl
  · show (_ || (ptShort W 1 zP || (ptShort W 2 zP || false))) = _
    rw [h0, h0]
    simp [ptShort]
  · show (ptShort W 0 zP || (_ || (ptShort W 2 zP || false))) = _
    rw [h0, h0]
    simp [ptShort]
  · show (ptShort W 0 zP || (ptShort W 1 zP || (_ || false))) = _
    rw [h0, h0]
    simp [ptShort]
theorem short_z (W : List Int) : shortF W 0 P7 = false := rfl
set_option maxRecDepth 100000 in
set_option maxHeartbeats 8000000 in
theorem walk (H : BoundW) (A0 : Option Addr) (n0 k0 : Nat) (f0 : Nat → Int) (a1 a2 : Int) (w : World) (r0 : RdC w w.heap.size A0 n0 fun j => .int .i64 (f0 j)) (c0 : n0 ≤ k0) (b0 : k0 ≤ 140737488351232) :
    Calls Try.prog 6 #[.slice A0 n0 k0, .int .i64 a1, .int .i64 a2] w (Ans (.bool true) w) := by
  have R0 := Lib.hid r0
  clear r0
  have hmk := make_3
  obtain ⟨Z, hZ⟩ : ∃ Z, Z = madeCells #[.string ⟨#[]⟩, .int .i64 0, .int .i64 0, .bool false, .bool false, .slice none 0 0, .int .i64 0, .int .i64 0, .int .i64 0, .int .i64 0, .int .i64 0] 33 := ⟨_, rfl⟩
  have hZl : Z.toList = P7.flatMap pcl := by rw [hZ]; exact made_parts
  rw [← hZ] at hmk
  have HMK := Lib.hid hmk
  clear hmk hZ
  go_enter Try.func6, Try.ntmps6
  go_wp2_with fail
  refine (row_box A0 n0 k0 f0 w 3 12 3 12 rfl rfl (by omega) (by omega) (by omega) (by omega) R0.out (by omega)).mono ?_
  rintro e w1 ⟨L, A1, m, c1, rfl, hL, hr1, hd1, h1a, h1b, k1⟩
  have htk : ticks L ≤ 48 := by
    have := fair_ticks hL
    rw [hr1.len] at this
    omega
  obtain ⟨ad, x0, rfl, _, hx0, _, _⟩ := hr1.at_ (i := 0) (by omega)
  have hpos : 0 < ticks L := ticks_pos (List.mem_of_getElem? hx0) (by have := hL x0 (List.mem_of_getElem? hx0); unfold Fair at this; omega)
  have HK1 := Lib.hid k1
  have HR1 := Lib.hid fun W (hb : Below w1.heap.size w1 W) => hr1.on hb
  clear k1 hL R0 hx0 hr1
  go_wp2_with fail
  refine (within_at a1 _ 2 w1 rfl (by omega)).mono ?_
  rintro e _ ⟨p, hp, rfl, rfl⟩
  have hw1 : IntKind.i64.wrap ((p : Int) + 1) = (p : Int) + 1 := wrap_small _ (by omega) (by omega)
  go_wp2_with fail
  refine (within_at a2 _ 1 w1 rfl (by omega)).mono ?_
  rintro e _ ⟨r, hr, rfl, rfl⟩
  obtain ⟨q, hq⟩ : ∃ q, q = (p + 1 + r) % 3 := ⟨_, rfl⟩
  have hq3 : q < 3 := by rw [hq]; exact Nat.mod_lt _ (by omega)
  have htm : ((p : Int) + 1 + (r : Int)).tmod 3 = (q : Int) := by rw [hq, show (p : Int) + 1 + (r : Int) = ((p + 1 + r : Nat) : Int) by omega]; rfl
  have htm2 : ((p : Int) + 1 + (r : Int)) % 3 = (q : Int) := by rw [hq]; omega
  obtain ⟨T, hT⟩ : ∃ T, T = ticks L := ⟨_, rfl⟩
  have hWl : (wordsL L).length = T := by rw [wordsL_len, hT]
  have htT : T ≤ 48 := by omega
  have hz : In64 (T : Int) := by unfold In64; omega
  have CT := Lib.hid fun W (hb : Below w1.heap.size w1 W) => total_any (some ad) m c1 L W (HR1.out W hb) hd1 (by omega) (by omega)
  have CL := Lib.hid fun W (hb : Below w1.heap.size w1 W) => H.late (some ad) m c1 L p q W (HR1.out W hb) hd1 (by omega) (by omega)
  have CB := Lib.hid fun W (hb : Below w1.heap.size w1 W) => H.budget (some ad) m c1 L p T W (HR1.out W hb) hd1 (by omega) (by omega) hz
  rw [← hT] at CT
  have hle1 := lateL_le (wordsL L) p q
  rw [hWl] at hle1
  have hge1 : -1 ≤ lateL (wordsL L) p q := by
    unfold lateL
    split
    · omega
    · split <;> omega
  have hbv : budL (wordsL L) p (T : Int) = (cntF p (wordsL L) : Nat) := by rw [← hWl]; exact budL_all _ _ (by rw [hWl]; omega)
  have hbl := cntF_le (p : Int) (wordsL L)
  rw [hWl] at hbl
  obtain ⟨v, hv⟩ : ∃ v, v = lateL (wordsL L) p q := ⟨_, rfl⟩
  obtain ⟨bu, hbu⟩ : ∃ bu, bu = budL (wordsL L) p (T : Int) := ⟨_, rfl⟩
  have hp3 : p < P7.length := by show p < 3; omega
  have hp3' : p < 3 := by omega
  have HO0 : Hid (holdsF (wordsL L) P7 [(⟨(p : Int), (q : Int), false, 0, 0, v⟩ : ChV)] = 0) := Lib.hid (holdsF_ok (by
    simp only [List.any_cons, List.any_nil, Bool.or_false, chLate]
    rw [← hv]
    by_cases h0 : 0 < v
    · rw [decide_eq_false (show ¬ v < 0 by omega), decide_eq_false (show ¬ v < v by omega)]
      simp
    · rw [decide_eq_false h0]
      rfl) (short_z _))
  have HLA : Hid (1 < v → holdsF (wordsL L) P7 [(⟨(p : Int), (q : Int), false, 0, 0, (v - 1)⟩ : ChV)] = 19) := Lib.hid fun h => holdsF_late (by
    simp only [List.any_cons, List.any_nil, Bool.or_false, chLate]
    rw [← hv, decide_eq_true (show (0 : Int) < v - 1 by omega), decide_eq_true (show v - 1 < v by omega)]
    simp)
  have HLB : Hid (v < 0 → holdsF (wordsL L) P7 [(⟨(p : Int), (q : Int), false, 0, 0, 5000⟩ : ChV)] = 19) := Lib.hid fun h => holdsF_late (by
    simp only [List.any_cons, List.any_nil, Bool.or_false, chLate]
    rw [← hv, decide_eq_true h]
    simp)
  have HO1 : Hid (holdsF (wordsL L) (P7.set p { zP with bud := bu, per := (T : Int) }) [] = 0) := Lib.hid (holdsF_ok rfl (by
    rw [short_set hp3, ← hbu, decide_eq_false (show ¬ bu < bu by omega)]
    simp))
  have HO2 : Hid (holdsF (wordsL L) (P7.set p { zP with bud := bu + 1, per := (T : Int) }) [] = 20) := Lib.hid (holdsF_short rfl (by
    rw [short_set hp3, ← hbu, decide_eq_true (show bu < bu + 1 by omega), decide_eq_true (show (0 : Int) < bu + 1 by rw [hbu, hbv]; omega)]
    rfl))
  have hb48 : 0 ≤ bu ∧ bu ≤ 48 := by rw [hbu, hbv]; omega
  have HPZ : Hid (∀ x ∈ P7, In64 x.per) := Lib.hid fun x hx => by
    have : x = zP := by simpa [P7] using hx
    subst this
    unfold In64
    decide
  have HPER : Hid (∀ x ∈ P7.set p { zP with bud := bu, per := (T : Int) }, In64 x.per) := Lib.hid fun x hx => by
    rcases List.mem_or_eq_of_mem_set hx with hx | rfl
    · exact HPZ.out x hx
    · exact hz
  have HPER2 : Hid (∀ x ∈ P7.set p { zP with bud := bu + 1, per := (T : Int) }, In64 x.per) := Lib.hid fun x hx => by
    rcases List.mem_or_eq_of_mem_set hx with hx | rfl
    · exact HPZ.out x hx
    · exact hz
  have hPz : Hid (P7[p]? = some zP) := Lib.hid (by rcases (by omega : p = 0 ∨ p = 1 ∨ p = 2) with rfl | rfl | rfl <;> rfl)
  rw [← hv] at CL hle1 hge1
  rw [← hbu] at CB
  clear hv hbu hbv hbl hWl hz hT hq
  have hw2 : IntKind.i64.wrap ((p : Int) + 1 + (r : Int)) = (p : Int) + 1 + (r : Int) := wrap_small _ (by omega) (by omega)
  go_wp2_with fail
  refine (CT.out w1 (Below.refl _ _)).mono ?_
  rintro e w2 ⟨rfl, k2⟩
  clear htm htm2 hw1 hw2
  go_wp2_with fail
  refine (CL.out w2 k2).mono ?_
  rintro e w3 ⟨rfl, hb3⟩
  have k3 := k2.trans (hb3.mono k2.size)
  clear hb3 k2
  go_wp2_with fail
  refine (CB.out w3 k3).mono ?_
  rintro e w0 ⟨rfl, hb4⟩
  have k4 := k3.trans (hb4.mono k3.size)
  have HK0 := Lib.hid (HK1.out.trans (k4.mono HK1.out.size))
  have HRL := Lib.hid fun W (hb : Below w0.heap.size w0 W) => HR1.out W (k4.trans (hb.mono k4.size))
  clear hb4 k3 k4 CT CL CB HR1 HK1
  have hmk := HMK.out
  go_upto_region 7 with fail
  have hS6 : HoldS w0 (w0.heap.size + 1 + 1) w0.heap.size (w0.heap.size + 1) (.slice (some ⟨w0.heap.size + 1, 0, none⟩) 1 1) P7 (⟨(p : Int), (q : Int), false, 0, 0, v⟩ : ChV) (((w0.alloc (.cells Z 52)).alloc (.cells #[.int .i64 (p : Int), .int .i64 (q : Int), .bool false, .int .i64 0, .int .u32 0, .int .i64 v] 48)).alloc (.cells #[.slice (some ⟨w0.heap.size, 0, none⟩) 3 3, .slice (some ⟨w0.heap.size + 1, 0, none⟩) 1 1, .slice none 0 0] 36)) := by
    have s1 : (w0.alloc (.cells Z 52)).heap.size = w0.heap.size + 1 := by simp
    have s2 : ((w0.alloc (.cells Z 52)).alloc (.cells #[.int .i64 (p : Int), .int .i64 (q : Int), .bool false, .int .i64 0, .int .u32 0, .int .i64 v] 48)).heap.size = w0.heap.size + 1 + 1 := by simp
    have b1 := bl1 w0 (.cells Z 52)
    have b2 := bl1 (w0.alloc (.cells Z 52)) (.cells #[.int .i64 (p : Int), .int .i64 (q : Int), .bool false, .int .i64 0, .int .u32 0, .int .i64 v] 48)
    have b3 := bl1 ((w0.alloc (.cells Z 52)).alloc (.cells #[.int .i64 (p : Int), .int .i64 (q : Int), .bool false, .int .i64 0, .int .u32 0, .int .i64 v] 48)) (.cells #[.slice (some ⟨w0.heap.size, 0, none⟩) 3 3, .slice (some ⟨w0.heap.size + 1, 0, none⟩) 1 1, .slice none 0 0] 36)
    have hz33 : Z.size = 33 := by
      have : Z.toList.length = 33 := by rw [hZl]; rfl
      simpa using this
    have hp0 : OwnB 52 11 pcl (w0.alloc (.cells Z 52)) w0.heap.size (some ⟨w0.heap.size, 0, none⟩) 3 3 P7 := ⟨rfl, by
      have := ownV_lit w0 52 11 w0.heap.size Z 3 (by rw [hz33]) (Nat.le_refl _) (by unfold maxLen; omega)
      rw [hZl] at this
      exact this⟩
    have hc0 : OwnB 48 6 cc ((w0.alloc (.cells Z 52)).alloc (.cells #[.int .i64 (p : Int), .int .i64 (q : Int), .bool false, .int .i64 0, .int .u32 0, .int .i64 v] 48)) w0.heap.size (some ⟨w0.heap.size + 1, 0, none⟩) 1 1 [(⟨(p : Int), (q : Int), false, 0, 0, v⟩ : ChV)] := ⟨rfl, by
      have := ownV_lit (w0.alloc (.cells Z 52)) 48 6 w0.heap.size #[.int .i64 (p : Int), .int .i64 (q : Int), .bool false, .int .i64 0, .int .u32 0, .int .i64 v] 1 rfl (by omega) (by unfold maxLen; omega)
      rw [s1] at this
      exact this⟩
    have hv3 := box_vec ((w0.alloc (.cells Z 52)).alloc (.cells #[.int .i64 (p : Int), .int .i64 (q : Int), .bool false, .int .i64 0, .int .u32 0, .int .i64 v] 48)) (.slice (some ⟨w0.heap.size, 0, none⟩) 3 3) (.slice (some ⟨w0.heap.size + 1, 0, none⟩) 1 1) (.slice none 0 0) 36
    rw [s2] at hv3
    exact ⟨hv3, (hp0.below b2).below b3, hc0.below b3, by omega, by omega, by omega, by omega, by omega, by omega, (b1.trans (b2.mono b1.size)).trans (b3.mono (b1.trans (b2.mono b1.size)).size)⟩
  generalize (((w0.alloc (.cells Z 52)).alloc (.cells #[.int .i64 (p : Int), .int .i64 (q : Int), .bool false, .int .i64 0, .int .u32 0, .int .i64 v] 48)).alloc (.cells #[.slice (some ⟨w0.heap.size, 0, none⟩) 3 3, .slice (some ⟨w0.heap.size + 1, 0, none⟩) 1 1, .slice none 0 0] 36)) = w6 at hS6 ⊢
  generalize w0.heap.size + 1 + 1 = gc at hS6 ⊢
  generalize w0.heap.size + 1 = gh at hS6 ⊢
  obtain ⟨gp, hgp⟩ : ∃ gp, gp = w0.heap.size := ⟨_, rfl⟩
  rw [show (some (⟨w0.heap.size, 0, none⟩ : Addr)) = some ⟨gp, 0, none⟩ by rw [hgp]] at *
  replace hS6 : HoldS w0 gc gp gh (.slice (some ⟨gh, 0, none⟩) 1 1) P7 (⟨(p : Int), (q : Int), false, 0, 0, v⟩ : ChV) w6 := by rw [hgp]; exact hS6
  clear hgp hmk
  obtain ⟨m0, m1, m2⟩ := hS6.bx.three
  have HS6 := Lib.hid hS6
  clear hS6
  have CH6 := Lib.hid (H.holds (some ⟨gp, 0, none⟩) (some ⟨gh, 0, none⟩) none (some ad) 3 1 0 m 3 1 0 c1 P7 [(⟨(p : Int), (q : Int), false, 0, 0, v⟩ : ChV)] L w6 HS6.out.pp.rdb HS6.out.ch.rdb (HRL.out w6 HS6.out.bl) (by omega) (by omega) hd1 (by omega) (by omega) HPZ.out)
  rw [HO0.out] at CH6
  go_wp2_with fail
  refine CH6.out.mono ?_
  rintro e w7 ⟨rfl, hb7⟩
  have HS7 := Lib.hid (HS6.out.bel hb7)
  clear hb7 m0 m1 m2 CH6
  by_cases hv : 1 < v
  · skip
    have u1 : decide (1 < v) = true := decide_eq_true hv
    have u2 : decide (v < 0) = false := decide_eq_false (by omega)
    obtain ⟨m0, m1, m2⟩ := HS7.out.bx.three
    obtain ⟨q1, q2⟩ := HS7.out.ch.cell cc_len (i := 0) (k := 5) rfl (by omega) rfl
    have q1' : w7.cell? ⟨gh, 5, none⟩ = some (.int .i64 v) := q1
    have q2' : w7.frozen? ⟨gh, 5, none⟩ = false := q2
    clear q1 q2
    have hvw : IntKind.i64.wrap (v - 1) = v - 1 := IntWalk.i64_in _ (by omega)
    go_wp2_with fail
    have HS8 := Lib.hid (HS7.out.late (v - 1))
    clear m0 m1 m2 q1' q2' hvw
    generalize w7.setCell ⟨gh, 5, none⟩ (.int .i64 (v - 1)) = w8 at HS8 ⊢
    obtain ⟨m0, m1, m2⟩ := HS8.out.bx.three
    have CHA := Lib.hid (H.holds (some ⟨gp, 0, none⟩) (some ⟨gh, 0, none⟩) none (some ad) 3 1 0 m 3 1 0 c1 P7 [(⟨(p : Int), (q : Int), false, 0, 0, (v - 1)⟩ : ChV)] L w8 HS8.out.pp.rdb HS8.out.ch.rdb (HRL.out w8 HS8.out.bl) (by omega) (by omega) hd1 (by omega) (by omega) HPZ.out)
    rw [HLA.out hv] at CHA
    go_wp2_with fail
    refine CHA.out.mono ?_
    rintro e WX ⟨rfl, hb9⟩
    have HSX := Lib.hid (HS8.out.bel hb9)
    clear hb9 m0 m1 m2 CHA
    obtain ⟨m0, m1, m2⟩ := HSX.out.bx.three
    have m1z := HSX.out.bx.thaw 1
    go_wp2_with fail
    clear m1z
    have hS16 := HSX.out.chs (.slice none 0 0)
    clear m0 m1 m2
    generalize WX.setCell ⟨gc, 1, none⟩ (.slice none 0 0) = wq at hS16 ⊢
    have hmm := (hS16.bel (Below.refl _ _).drew)
    have e1 : wq.drew.cell? ⟨gp, p * 11 + 1, none⟩ = some (.int .i64 0) := (hmm.pp.cell pcl_len (i := p) (k := 1) (x := zP) hPz.out (by omega) rfl).1
    have e2 := (hmm.pp.cell pcl_len (i := p) (k := 1) (x := zP) hPz.out (by omega) rfl).2
    have hm1 := hmm.pp.put pcl_len (i := p) (k := 1) hPz.out (by omega) (pcl_bud zP bu)
    have k1 : (wq.drew.setCell ⟨gp, p * 11 + 1, none⟩ (.int .i64 bu)).cell? ⟨gp, p * 11 + 2, none⟩ = some (.int .i64 0) := (hm1.cell pcl_len (i := p) (k := 2) (List.getElem?_set_self hp3) (by omega) rfl).1
    have k2 := (hm1.cell pcl_len (i := p) (k := 2) (List.getElem?_set_self hp3) (by omega) rfl).2
    have HFA : Hid (∀ wx, (wx = wq.drew ∨ wx = wq.drew.setCell ⟨gp, p * 11 + 1, none⟩ (.int .i64 bu) ∨ wx = (wq.drew.setCell ⟨gp, p * 11 + 1, none⟩ (.int .i64 bu)).setCell ⟨gp, p * 11 + 2, none⟩ (.int .i64 (T : Int))) → wx.cell? ⟨gc, 0, none⟩ = some (.slice (some ⟨gp, 0, none⟩) 3 3)) := Lib.hid fun wx hx => by
      rcases hx with rfl | rfl | rfl
      · exact hmm.bx.three.1
      · exact (hmm.bx.other ⟨gp, p * 11 + 1, none⟩ _ hmm.n1).three.1
      · exact ((hmm.bx.other ⟨gp, p * 11 + 1, none⟩ _ hmm.n1).other ⟨gp, p * 11 + 2, none⟩ _ hmm.n1).three.1
    have HS16 := Lib.hid hS16
    have HLT : Hid ((p : Int) < 3 ∧ p < 3) := Lib.hid ⟨by omega, hp3'⟩
    clear hmm hm1 hS16
    go_wp2_with fail
    refine Rgs.region (by kernel_rfl) (by kernel_rfl) (fun (opn : Nat) (vl : Value) (_ : World) => match opn with | 0 => vl = .pointer (some ⟨gc, 0, none⟩) | 1 => vl = .slice (some ⟨gp, 0, none⟩) 3 3 | 2 => vl = .int .i64 (p : Int) | 3 => vl = .pointer (some ⟨gc, 0, none⟩) | 4 => vl = .slice (some ⟨gp, 0, none⟩) 3 3 | 5 => vl = .int .i64 (p : Int) | 6 => vl = .int .i64 bu | 7 => vl = .int .i64 (T : Int) | 8 => vl = .pointer (some ⟨gp, p * 11, none⟩) | 9 => vl = .pointer (some ⟨gp, p * 11 + 1, none⟩) | 10 => vl = undef | 11 => vl = .pointer (some ⟨gp, p * 11, none⟩) | 12 => vl = .pointer (some ⟨gp, p * 11 + 2, none⟩) | 13 => vl = undef | _ => True) (fun live _ w' => Rgs.StW2 wq.drew 10 13 ⟨gp, p * 11 + 1, none⟩ ⟨gp, p * 11 + 2, none⟩ (.int .i64 bu) (.int .i64 (T : Int)) live w') rfl (Rgs.steps_of ?_) ?_
    · refine ⟨?_, ?_, ?_, ?_, ?_, ?_, ?_, ?_, ?_, ?_, ?_, ?_, ?_, ?_, trivial⟩
      · intro a w1 live S E D C h0 hk hW
        have e13 : a.eval (.tmp 13) = .pointer (some ⟨gc, 0, none⟩) := E 13 rfl
        exact Rgs.val rfl (Reg.wanted_free rfl) (.pointer (some ⟨gc, 0, none⟩)) (by have c := Reg.consts a; generalize a.eval = ρ at *; simp [execOp, go_sem, c.1, c.2, e13]) rfl (hW.upd (by decide) (by decide))
      · intro a w1 live S E D C h0 hk hW
        have d0 : a.eval (.tmp 71) = .pointer (some ⟨gc, 0, none⟩) := D 0 rfl _ _ rfl rfl
        have hc0 := HFA.out w1 hW.any
        exact Rgs.val rfl (Reg.wanted_free rfl) (.slice (some ⟨gp, 0, none⟩) 3 3) (by have c := Reg.consts a; generalize a.eval = ρ at *; simp [execOp, go_sem, c.1, c.2, d0, hc0]) rfl (hW.upd (by decide) (by decide))
      · intro a w1 live S E D C h0 hk hW
        have e8 : a.eval (.tmp 8) = .int .i64 (p : Int) := E 8 rfl
        exact Rgs.val rfl (Reg.wanted_free rfl) (.int .i64 (p : Int)) (by have c := Reg.consts a; generalize a.eval = ρ at *; simp [execOp, go_sem, c.1, c.2, e8]) rfl (hW.upd (by decide) (by decide))
      · intro a w1 live S E D C h0 hk hW
        have e13 : a.eval (.tmp 13) = .pointer (some ⟨gc, 0, none⟩) := E 13 rfl
        exact Rgs.val rfl (Reg.wanted_free rfl) (.pointer (some ⟨gc, 0, none⟩)) (by have c := Reg.consts a; generalize a.eval = ρ at *; simp [execOp, go_sem, c.1, c.2, e13]) rfl (hW.upd (by decide) (by decide))
      · intro a w1 live S E D C h0 hk hW
        have d3 : a.eval (.tmp 74) = .pointer (some ⟨gc, 0, none⟩) := D 3 rfl _ _ rfl rfl
        have hc0 := HFA.out w1 hW.any
        exact Rgs.val rfl (Reg.wanted_free rfl) (.slice (some ⟨gp, 0, none⟩) 3 3) (by have c := Reg.consts a; generalize a.eval = ρ at *; simp [execOp, go_sem, c.1, c.2, d3, hc0]) rfl (hW.upd (by decide) (by decide))
      · intro a w1 live S E D C h0 hk hW
        have e8 : a.eval (.tmp 8) = .int .i64 (p : Int) := E 8 rfl
        exact Rgs.val rfl (Reg.wanted_free rfl) (.int .i64 (p : Int)) (by have c := Reg.consts a; generalize a.eval = ρ at *; simp [execOp, go_sem, c.1, c.2, e8]) rfl (hW.upd (by decide) (by decide))
      · intro a w1 live S E D C h0 hk hW
        have e12 : a.eval (.tmp 12) = .int .i64 bu := E 12 rfl
        exact Rgs.val rfl (Reg.wanted_free rfl) (.int .i64 bu) (by have c := Reg.consts a; generalize a.eval = ρ at *; simp [execOp, go_sem, c.1, c.2, e12]) rfl (hW.upd (by decide) (by decide))
      · intro a w1 live S E D C h0 hk hW
        have e10 : a.eval (.tmp 10) = .int .i64 (T : Int) := E 10 rfl
        exact Rgs.val rfl (Reg.wanted_free rfl) (.int .i64 (T : Int)) (by have c := Reg.consts a; generalize a.eval = ρ at *; simp [execOp, go_sem, c.1, c.2, e10]) rfl (hW.upd (by decide) (by decide))
      · intro a w1 live S E D C h0 hk hW
        have d1 : a.eval (.tmp 72) = .slice (some ⟨gp, 0, none⟩) 3 3 := D 1 rfl _ _ rfl rfl
        have d2 : a.eval (.tmp 73) = .int .i64 (p : Int) := D 2 rfl _ _ rfl rfl
        have i1 := HLT.out
        obtain ⟨i1, i2⟩ := i1
        have ead := mk_add (gp) (p * 11)
        exact Rgs.val rfl (Reg.wanted_free rfl) (.pointer (some ⟨gp, p * 11, none⟩)) (by have c := Reg.consts a; generalize a.eval = ρ at *; simp [execOp, go_sem, c.1, c.2, d1, d2, i1, i2, ead]) rfl (hW.upd (by decide) (by decide))
      · intro a w1 live S E D C h0 hk hW
        have d8 : a.eval (.tmp 79) = .pointer (some ⟨gp, p * 11, none⟩) := D 8 rfl _ _ rfl rfl
        exact Rgs.val rfl (Reg.wanted_free rfl) (.pointer (some ⟨gp, p * 11 + 1, none⟩)) (by have c := Reg.consts a; generalize a.eval = ρ at *; simp [execOp, go_sem, c.1, c.2, d8]) rfl (hW.upd (by decide) (by decide))
      · intro a w1 live S E D C h0 hk hW
        have d9 : a.eval (.tmp 80) = .pointer (some ⟨gp, p * 11 + 1, none⟩) := D 9 rfl _ _ rfl rfl
        have d6 : a.eval (.tmp 77) = .int .i64 bu := D 6 rfl _ _ rfl rfl
        have l13 := Reg.not_live C h0 (j := 13) rfl rfl
        have hw := hW.off h0 l13
        subst hw
        refine Rgs.store rfl (Reg.wanted_free rfl) _ (by have c := Reg.consts a; generalize a.eval = ρ at *; simp [execOp, go_sem, c.1, c.2, d9, d6, e1, e2]) rfl (Rgs.StW2.put1 _ (by decide) _ _ _ _ _ l13) (fun j v _ h => h)
      · intro a w1 live S E D C h0 hk hW
        have d4 : a.eval (.tmp 75) = .slice (some ⟨gp, 0, none⟩) 3 3 := D 4 rfl _ _ rfl rfl
        have d5 : a.eval (.tmp 76) = .int .i64 (p : Int) := D 5 rfl _ _ rfl rfl
        have i1 := HLT.out
        obtain ⟨i1, i2⟩ := i1
        have ead := mk_add (gp) (p * 11)
        exact Rgs.val rfl (Reg.wanted_free rfl) (.pointer (some ⟨gp, p * 11, none⟩)) (by have c := Reg.consts a; generalize a.eval = ρ at *; simp [execOp, go_sem, c.1, c.2, d4, d5, i1, i2, ead]) rfl (hW.upd (by decide) (by decide))
      · intro a w1 live S E D C h0 hk hW
        have d11 : a.eval (.tmp 81) = .pointer (some ⟨gp, p * 11, none⟩) := D 11 rfl _ _ rfl rfl
        exact Rgs.val rfl (Reg.wanted_free rfl) (.pointer (some ⟨gp, p * 11 + 2, none⟩)) (by have c := Reg.consts a; generalize a.eval = ρ at *; simp [execOp, go_sem, c.1, c.2, d11]) rfl (hW.upd (by decide) (by decide))
      · intro a w1 live S E D C h0 hk hW
        have d12 : a.eval (.tmp 82) = .pointer (some ⟨gp, p * 11 + 2, none⟩) := D 12 rfl _ _ rfl rfl
        have d7 : a.eval (.tmp 78) = .int .i64 (T : Int) := D 7 rfl _ _ rfl rfl
        have hw := hW.mid (hk 10 rfl) h0
        subst hw
        refine Rgs.store rfl (Reg.wanted_free rfl) ((wq.drew.setCell ⟨gp, p * 11 + 1, none⟩ (.int .i64 bu)).setCell ⟨gp, p * 11 + 2, none⟩ (.int .i64 (T : Int))) ?_ rfl (Rgs.StW2.put2 _ _ _ _ _ _ _ _) (fun j v _ h => h)
        obtain ⟨wz, hwz⟩ : ∃ wz, wz = wq.drew.setCell ⟨gp, p * 11 + 1, none⟩ (.int .i64 bu) := ⟨_, rfl⟩
        rw [← hwz] at k1 k2 ⊢
        clear hwz
        have c := Reg.consts a
        generalize a.eval = ρ at *
        simp [execOp, go_sem, c.1, c.2, d12, d7, k1, k2]
    · intro a w3 live hs hd E D' Hl hW
      rw [Rgs.act_ws a _ _ hs hd E [71, 72, 73, 74, 75, 76, 77, 78, 79, 80, 81, 82] (by kernel_rfl)]
      simp only [List.foldl, List.setIfInBounds_toArray, List.set_cons_succ, List.set_cons_zero]
      have hw := hW.on (Hl 13 (by decide))
      subst hw
      clear E D' Hl hW e1 e2 k1 k2 HFA
      generalize a.eval = ρ
      clear a hs hd
      have hS17 := (HS16.out.bel (Below.refl _ _).drew).ask hp3 bu (T : Int)
      generalize (wq.drew.setCell ⟨gp, p * 11 + 1, none⟩ (.int .i64 bu)).setCell ⟨gp, p * 11 + 2, none⟩ (.int .i64 (T : Int)) = wr at hS17 ⊢
      obtain ⟨m0, m1, m2⟩ := hS17.bx.three
      have CX := Lib.hid (H.holds (some ⟨gp, 0, none⟩) none none (some ad) 3 0 0 m 3 0 0 c1 (P7.set p { zP with bud := bu, per := (T : Int) }) [] L wr hS17.pp.rdb (⟨rfl, RdV.nil⟩ : RdB cc wr wr.heap.size none 0 []) (HRL.out wr hS17.bl) (by omega) (by omega) hd1 (by omega) (by omega) HPER.out)
      rw [HO1.out] at CX
      have HS17 := Lib.hid hS17
      clear hS17
      go_wp2_with fail
      refine CX.out.mono ?_
      rintro e w18 ⟨rfl, hb18⟩
      have hS18 := HS17.out.bel hb18
      clear hb18 m0 m1 m2 CX
      obtain ⟨m0, m1, m2⟩ := hS18.bx.three
      obtain ⟨q1, q2⟩ := hS18.pp.cell pcl_len (i := p) (k := 1) (List.getElem?_set_self hp3) (by omega) rfl
      have q1' : w18.cell? ⟨gp, p * 11 + 1, none⟩ = some (.int .i64 bu) := q1
      clear q1
      have HS18 := Lib.hid hS18
      clear hS18
      go_upto_region 20 with fail
      have hS19 := HS18.out.bud hp3 (bu + 1)
      clear m0 m1 m2 q1' q2
      generalize w18.setCell ⟨gp, p * 11 + 1, none⟩ (.int .i64 (bu + 1)) = w19 at hS19 ⊢
      obtain ⟨m0, m1, m2⟩ := hS19.bx.three
      have CY := Lib.hid (H.holds (some ⟨gp, 0, none⟩) none none (some ad) 3 0 0 m 3 0 0 c1 (P7.set p { zP with bud := bu + 1, per := (T : Int) }) [] L w19 hS19.pp.rdb (⟨rfl, RdV.nil⟩ : RdB cc w19 w19.heap.size none 0 []) (HRL.out w19 hS19.bl) (by omega) (by omega) hd1 (by omega) (by omega) HPER2.out)
      rw [HO2.out] at CY
      have HS19 := Lib.hid hS19
      clear hS19
      go_wp2_with fail
      refine CY.out.mono ?_
      rintro e w20 ⟨rfl, hb20⟩
      have hS20 := HS19.out.bel hb20
      clear hb20 m0 m1 m2 CY
      go_wp2_with fail
      refine (known9_any H w20).mono ?_
      rintro e w21 ⟨rfl, hb21⟩
      have k21 := hS20.bl.trans (hb21.mono hS20.bl.size)
      go_wp2_with fail
      go_ret
      exact Ans.mk rfl (HK0.out.trans (k21.mono HK0.out.size))
  · by_cases hv0 : v < 0
    · skip
      have u1 : decide (1 < v) = false := decide_eq_false hv
      have u2 : decide (v < 0) = true := decide_eq_true hv0
      obtain ⟨m0, m1, m2⟩ := HS7.out.bx.three
      obtain ⟨q1, q2⟩ := HS7.out.ch.cell cc_len (i := 0) (k := 5) rfl (by omega) rfl
      have q1' : w7.cell? ⟨gh, 5, none⟩ = some (.int .i64 v) := q1
      have q2' : w7.frozen? ⟨gh, 5, none⟩ = false := q2
      clear q1 q2
      go_wp2_with fail
      have HS8 := Lib.hid (HS7.out.late 5000)
      clear m0 m1 m2 q1' q2'
      generalize w7.setCell ⟨gh, 5, none⟩ (.int .i64 5000) = w8 at HS8 ⊢
      obtain ⟨m0, m1, m2⟩ := HS8.out.bx.three
      have CHB := Lib.hid (H.holds (some ⟨gp, 0, none⟩) (some ⟨gh, 0, none⟩) none (some ad) 3 1 0 m 3 1 0 c1 P7 [(⟨(p : Int), (q : Int), false, 0, 0, 5000⟩ : ChV)] L w8 HS8.out.pp.rdb HS8.out.ch.rdb (HRL.out w8 HS8.out.bl) (by omega) (by omega) hd1 (by omega) (by omega) HPZ.out)
      rw [HLB.out hv0] at CHB
      go_wp2_with fail
      refine CHB.out.mono ?_
      rintro e WX ⟨rfl, hb9⟩
      have HSX := Lib.hid (HS8.out.bel hb9)
      clear hb9 m0 m1 m2 CHB
      obtain ⟨m0, m1, m2⟩ := HSX.out.bx.three
      have m1z := HSX.out.bx.thaw 1
      go_wp2_with fail
      clear m1z
      have hS16 := HSX.out.chs (.slice none 0 0)
      clear m0 m1 m2
      generalize WX.setCell ⟨gc, 1, none⟩ (.slice none 0 0) = wq at hS16 ⊢
      have hmm := (hS16.bel (Below.refl _ _).drew)
      have e1 : wq.drew.cell? ⟨gp, p * 11 + 1, none⟩ = some (.int .i64 0) := (hmm.pp.cell pcl_len (i := p) (k := 1) (x := zP) hPz.out (by omega) rfl).1
      have e2 := (hmm.pp.cell pcl_len (i := p) (k := 1) (x := zP) hPz.out (by omega) rfl).2
      have hm1 := hmm.pp.put pcl_len (i := p) (k := 1) hPz.out (by omega) (pcl_bud zP bu)
      have k1 : (wq.drew.setCell ⟨gp, p * 11 + 1, none⟩ (.int .i64 bu)).cell? ⟨gp, p * 11 + 2, none⟩ = some (.int .i64 0) := (hm1.cell pcl_len (i := p) (k := 2) (List.getElem?_set_self hp3) (by omega) rfl).1
      have k2 := (hm1.cell pcl_len (i := p) (k := 2) (List.getElem?_set_self hp3) (by omega) rfl).2
      have HFA : Hid (∀ wx, (wx = wq.drew ∨ wx = wq.drew.setCell ⟨gp, p * 11 + 1, none⟩ (.int .i64 bu) ∨ wx = (wq.drew.setCell ⟨gp, p * 11 + 1, none⟩ (.int .i64 bu)).setCell ⟨gp, p * 11 + 2, none⟩ (.int .i64 (T : Int))) → wx.cell? ⟨gc, 0, none⟩ = some (.slice (some ⟨gp, 0, none⟩) 3 3)) := Lib.hid fun wx hx => by
        rcases hx with rfl | rfl | rfl
        · exact hmm.bx.three.1
        · exact (hmm.bx.other ⟨gp, p * 11 + 1, none⟩ _ hmm.n1).three.1
        · exact ((hmm.bx.other ⟨gp, p * 11 + 1, none⟩ _ hmm.n1).other ⟨gp, p * 11 + 2, none⟩ _ hmm.n1).three.1
      have HS16 := Lib.hid hS16
      have HLT : Hid ((p : Int) < 3 ∧ p < 3) := Lib.hid ⟨by omega, hp3'⟩
      clear hmm hm1 hS16
      go_wp2_with fail
      refine Rgs.region (by kernel_rfl) (by kernel_rfl) (fun (opn : Nat) (vl : Value) (_ : World) => match opn with | 0 => vl = .pointer (some ⟨gc, 0, none⟩) | 1 => vl = .slice (some ⟨gp, 0, none⟩) 3 3 | 2 => vl = .int .i64 (p : Int) | 3 => vl = .pointer (some ⟨gc, 0, none⟩) | 4 => vl = .slice (some ⟨gp, 0, none⟩) 3 3 | 5 => vl = .int .i64 (p : Int) | 6 => vl = .int .i64 bu | 7 => vl = .int .i64 (T : Int) | 8 => vl = .pointer (some ⟨gp, p * 11, none⟩) | 9 => vl = .pointer (some ⟨gp, p * 11 + 1, none⟩) | 10 => vl = undef | 11 => vl = .pointer (some ⟨gp, p * 11, none⟩) | 12 => vl = .pointer (some ⟨gp, p * 11 + 2, none⟩) | 13 => vl = undef | _ => True) (fun live _ w' => Rgs.StW2 wq.drew 10 13 ⟨gp, p * 11 + 1, none⟩ ⟨gp, p * 11 + 2, none⟩ (.int .i64 bu) (.int .i64 (T : Int)) live w') rfl (Rgs.steps_of ?_) ?_
      · refine ⟨?_, ?_, ?_, ?_, ?_, ?_, ?_, ?_, ?_, ?_, ?_, ?_, ?_, ?_, trivial⟩
        · intro a w1 live S E D C h0 hk hW
          have e13 : a.eval (.tmp 13) = .pointer (some ⟨gc, 0, none⟩) := E 13 rfl
          exact Rgs.val rfl (Reg.wanted_free rfl) (.pointer (some ⟨gc, 0, none⟩)) (by have c := Reg.consts a; generalize a.eval = ρ at *; simp [execOp, go_sem, c.1, c.2, e13]) rfl (hW.upd (by decide) (by decide))
        · intro a w1 live S E D C h0 hk hW
          have d0 : a.eval (.tmp 71) = .pointer (some ⟨gc, 0, none⟩) := D 0 rfl _ _ rfl rfl
          have hc0 := HFA.out w1 hW.any
          exact Rgs.val rfl (Reg.wanted_free rfl) (.slice (some ⟨gp, 0, none⟩) 3 3) (by have c := Reg.consts a; generalize a.eval = ρ at *; simp [execOp, go_sem, c.1, c.2, d0, hc0]) rfl (hW.upd (by decide) (by decide))
        · intro a w1 live S E D C h0 hk hW
          have e8 : a.eval (.tmp 8) = .int .i64 (p : Int) := E 8 rfl
          exact Rgs.val rfl (Reg.wanted_free rfl) (.int .i64 (p : Int)) (by have c := Reg.consts a; generalize a.eval = ρ at *; simp [execOp, go_sem, c.1, c.2, e8]) rfl (hW.upd (by decide) (by decide))
        · intro a w1 live S E D C h0 hk hW
          have e13 : a.eval (.tmp 13) = .pointer (some ⟨gc, 0, none⟩) := E 13 rfl
          exact Rgs.val rfl (Reg.wanted_free rfl) (.pointer (some ⟨gc, 0, none⟩)) (by have c := Reg.consts a; generalize a.eval = ρ at *; simp [execOp, go_sem, c.1, c.2, e13]) rfl (hW.upd (by decide) (by decide))
        · intro a w1 live S E D C h0 hk hW
          have d3 : a.eval (.tmp 74) = .pointer (some ⟨gc, 0, none⟩) := D 3 rfl _ _ rfl rfl
          have hc0 := HFA.out w1 hW.any
          exact Rgs.val rfl (Reg.wanted_free rfl) (.slice (some ⟨gp, 0, none⟩) 3 3) (by have c := Reg.consts a; generalize a.eval = ρ at *; simp [execOp, go_sem, c.1, c.2, d3, hc0]) rfl (hW.upd (by decide) (by decide))
        · intro a w1 live S E D C h0 hk hW
          have e8 : a.eval (.tmp 8) = .int .i64 (p : Int) := E 8 rfl
          exact Rgs.val rfl (Reg.wanted_free rfl) (.int .i64 (p : Int)) (by have c := Reg.consts a; generalize a.eval = ρ at *; simp [execOp, go_sem, c.1, c.2, e8]) rfl (hW.upd (by decide) (by decide))
        · intro a w1 live S E D C h0 hk hW
          have e12 : a.eval (.tmp 12) = .int .i64 bu := E 12 rfl
          exact Rgs.val rfl (Reg.wanted_free rfl) (.int .i64 bu) (by have c := Reg.consts a; generalize a.eval = ρ at *; simp [execOp, go_sem, c.1, c.2, e12]) rfl (hW.upd (by decide) (by decide))
        · intro a w1 live S E D C h0 hk hW
          have e10 : a.eval (.tmp 10) = .int .i64 (T : Int) := E 10 rfl
          exact Rgs.val rfl (Reg.wanted_free rfl) (.int .i64 (T : Int)) (by have c := Reg.consts a; generalize a.eval = ρ at *; simp [execOp, go_sem, c.1, c.2, e10]) rfl (hW.upd (by decide) (by decide))
        · intro a w1 live S E D C h0 hk hW
          have d1 : a.eval (.tmp 72) = .slice (some ⟨gp, 0, none⟩) 3 3 := D 1 rfl _ _ rfl rfl
          have d2 : a.eval (.tmp 73) = .int .i64 (p : Int) := D 2 rfl _ _ rfl rfl
          have i1 := HLT.out
          obtain ⟨i1, i2⟩ := i1
          have ead := mk_add (gp) (p * 11)
          exact Rgs.val rfl (Reg.wanted_free rfl) (.pointer (some ⟨gp, p * 11, none⟩)) (by have c := Reg.consts a; generalize a.eval = ρ at *; simp [execOp, go_sem, c.1, c.2, d1, d2, i1, i2, ead]) rfl (hW.upd (by decide) (by decide))
        · intro a w1 live S E D C h0 hk hW
          have d8 : a.eval (.tmp 79) = .pointer (some ⟨gp, p * 11, none⟩) := D 8 rfl _ _ rfl rfl
          exact Rgs.val rfl (Reg.wanted_free rfl) (.pointer (some ⟨gp, p * 11 + 1, none⟩)) (by have c := Reg.consts a; generalize a.eval = ρ at *; simp [execOp, go_sem, c.1, c.2, d8]) rfl (hW.upd (by decide) (by decide))
        · intro a w1 live S E D C h0 hk hW
          have d9 : a.eval (.tmp 80) = .pointer (some ⟨gp, p * 11 + 1, none⟩) := D 9 rfl _ _ rfl rfl
          have d6 : a.eval (.tmp 77) = .int .i64 bu := D 6 rfl _ _ rfl rfl
          have l13 := Reg.not_live C h0 (j := 13) rfl rfl
          have hw := hW.off h0 l13
          subst hw
          refine Rgs.store rfl (Reg.wanted_free rfl) _ (by have c := Reg.consts a; generalize a.eval = ρ at *; simp [execOp, go_sem, c.1, c.2, d9, d6, e1, e2]) rfl (Rgs.StW2.put1 _ (by decide) _ _ _ _ _ l13) (fun j v _ h => h)
        · intro a w1 live S E D C h0 hk hW
          have d4 : a.eval (.tmp 75) = .slice (some ⟨gp, 0, none⟩) 3 3 := D 4 rfl _ _ rfl rfl
          have d5 : a.eval (.tmp 76) = .int .i64 (p : Int) := D 5 rfl _ _ rfl rfl
          have i1 := HLT.out
          obtain ⟨i1, i2⟩ := i1
          have ead := mk_add (gp) (p * 11)
          exact Rgs.val rfl (Reg.wanted_free rfl) (.pointer (some ⟨gp, p * 11, none⟩)) (by have c := Reg.consts a; generalize a.eval = ρ at *; simp [execOp, go_sem, c.1, c.2, d4, d5, i1, i2, ead]) rfl (hW.upd (by decide) (by decide))
        · intro a w1 live S E D C h0 hk hW
          have d11 : a.eval (.tmp 81) = .pointer (some ⟨gp, p * 11, none⟩) := D 11 rfl _ _ rfl rfl
          exact Rgs.val rfl (Reg.wanted_free rfl) (.pointer (some ⟨gp, p * 11 + 2, none⟩)) (by have c := Reg.consts a; generalize a.eval = ρ at *; simp [execOp, go_sem, c.1, c.2, d11]) rfl (hW.upd (by decide) (by decide))
        · intro a w1 live S E D C h0 hk hW
          have d12 : a.eval (.tmp 82) = .pointer (some ⟨gp, p * 11 + 2, none⟩) := D 12 rfl _ _ rfl rfl
          have d7 : a.eval (.tmp 78) = .int .i64 (T : Int) := D 7 rfl _ _ rfl rfl
          have hw := hW.mid (hk 10 rfl) h0
          subst hw
          refine Rgs.store rfl (Reg.wanted_free rfl) ((wq.drew.setCell ⟨gp, p * 11 + 1, none⟩ (.int .i64 bu)).setCell ⟨gp, p * 11 + 2, none⟩ (.int .i64 (T : Int))) ?_ rfl (Rgs.StW2.put2 _ _ _ _ _ _ _ _) (fun j v _ h => h)
          obtain ⟨wz, hwz⟩ : ∃ wz, wz = wq.drew.setCell ⟨gp, p * 11 + 1, none⟩ (.int .i64 bu) := ⟨_, rfl⟩
          rw [← hwz] at k1 k2 ⊢
          clear hwz
          have c := Reg.consts a
          generalize a.eval = ρ at *
          simp [execOp, go_sem, c.1, c.2, d12, d7, k1, k2]
      · intro a w3 live hs hd E D' Hl hW
        rw [Rgs.act_ws a _ _ hs hd E [71, 72, 73, 74, 75, 76, 77, 78, 79, 80, 81, 82] (by kernel_rfl)]
        simp only [List.foldl, List.setIfInBounds_toArray, List.set_cons_succ, List.set_cons_zero]
        have hw := hW.on (Hl 13 (by decide))
        subst hw
        clear E D' Hl hW e1 e2 k1 k2 HFA
        generalize a.eval = ρ
        clear a hs hd
        have hS17 := (HS16.out.bel (Below.refl _ _).drew).ask hp3 bu (T : Int)
        generalize (wq.drew.setCell ⟨gp, p * 11 + 1, none⟩ (.int .i64 bu)).setCell ⟨gp, p * 11 + 2, none⟩ (.int .i64 (T : Int)) = wr at hS17 ⊢
        obtain ⟨m0, m1, m2⟩ := hS17.bx.three
        have CX := Lib.hid (H.holds (some ⟨gp, 0, none⟩) none none (some ad) 3 0 0 m 3 0 0 c1 (P7.set p { zP with bud := bu, per := (T : Int) }) [] L wr hS17.pp.rdb (⟨rfl, RdV.nil⟩ : RdB cc wr wr.heap.size none 0 []) (HRL.out wr hS17.bl) (by omega) (by omega) hd1 (by omega) (by omega) HPER.out)
        rw [HO1.out] at CX
        have HS17 := Lib.hid hS17
        clear hS17
        go_wp2_with fail
        refine CX.out.mono ?_
        rintro e w18 ⟨rfl, hb18⟩
        have hS18 := HS17.out.bel hb18
        clear hb18 m0 m1 m2 CX
        obtain ⟨m0, m1, m2⟩ := hS18.bx.three
        obtain ⟨q1, q2⟩ := hS18.pp.cell pcl_len (i := p) (k := 1) (List.getElem?_set_self hp3) (by omega) rfl
        have q1' : w18.cell? ⟨gp, p * 11 + 1, none⟩ = some (.int .i64 bu) := q1
        clear q1
        have HS18 := Lib.hid hS18
        clear hS18
        go_upto_region 20 with fail
        have hS19 := HS18.out.bud hp3 (bu + 1)
        clear m0 m1 m2 q1' q2
        generalize w18.setCell ⟨gp, p * 11 + 1, none⟩ (.int .i64 (bu + 1)) = w19 at hS19 ⊢
        obtain ⟨m0, m1, m2⟩ := hS19.bx.three
        have CY := Lib.hid (H.holds (some ⟨gp, 0, none⟩) none none (some ad) 3 0 0 m 3 0 0 c1 (P7.set p { zP with bud := bu + 1, per := (T : Int) }) [] L w19 hS19.pp.rdb (⟨rfl, RdV.nil⟩ : RdB cc w19 w19.heap.size none 0 []) (HRL.out w19 hS19.bl) (by omega) (by omega) hd1 (by omega) (by omega) HPER2.out)
        rw [HO2.out] at CY
        have HS19 := Lib.hid hS19
        clear hS19
        go_wp2_with fail
        refine CY.out.mono ?_
        rintro e w20 ⟨rfl, hb20⟩
        have hS20 := HS19.out.bel hb20
        clear hb20 m0 m1 m2 CY
        go_wp2_with fail
        refine (known9_any H w20).mono ?_
        rintro e w21 ⟨rfl, hb21⟩
        have k21 := hS20.bl.trans (hb21.mono hS20.bl.size)
        go_wp2_with fail
        go_ret
        exact Ans.mk rfl (HK0.out.trans (k21.mono HK0.out.size))
    · skip
      have u1 : decide (1 < v) = false := decide_eq_false hv
      have u2 : decide (v < 0) = false := decide_eq_false hv0
      obtain ⟨WX, hWX⟩ : ∃ WX, WX = w7 := ⟨_, rfl⟩
      subst hWX
      have HSX := HS7
      obtain ⟨m0, m1, m2⟩ := HSX.out.bx.three
      have m1z := HSX.out.bx.thaw 1
      go_wp2_with fail
      clear m1z
      have hS16 := HSX.out.chs (.slice none 0 0)
      clear m0 m1 m2
      generalize WX.setCell ⟨gc, 1, none⟩ (.slice none 0 0) = wq at hS16 ⊢
      have hmm := (hS16.bel (Below.refl _ _).drew)
      have e1 : wq.drew.cell? ⟨gp, p * 11 + 1, none⟩ = some (.int .i64 0) := (hmm.pp.cell pcl_len (i := p) (k := 1) (x := zP) hPz.out (by omega) rfl).1
      have e2 := (hmm.pp.cell pcl_len (i := p) (k := 1) (x := zP) hPz.out (by omega) rfl).2
      have hm1 := hmm.pp.put pcl_len (i := p) (k := 1) hPz.out (by omega) (pcl_bud zP bu)
      have k1 : (wq.drew.setCell ⟨gp, p * 11 + 1, none⟩ (.int .i64 bu)).cell? ⟨gp, p * 11 + 2, none⟩ = some (.int .i64 0) := (hm1.cell pcl_len (i := p) (k := 2) (List.getElem?_set_self hp3) (by omega) rfl).1
      have k2 := (hm1.cell pcl_len (i := p) (k := 2) (List.getElem?_set_self hp3) (by omega) rfl).2
      have HFA : Hid (∀ wx, (wx = wq.drew ∨ wx = wq.drew.setCell ⟨gp, p * 11 + 1, none⟩ (.int .i64 bu) ∨ wx = (wq.drew.setCell ⟨gp, p * 11 + 1, none⟩ (.int .i64 bu)).setCell ⟨gp, p * 11 + 2, none⟩ (.int .i64 (T : Int))) → wx.cell? ⟨gc, 0, none⟩ = some (.slice (some ⟨gp, 0, none⟩) 3 3)) := Lib.hid fun wx hx => by
        rcases hx with rfl | rfl | rfl
        · exact hmm.bx.three.1
        · exact (hmm.bx.other ⟨gp, p * 11 + 1, none⟩ _ hmm.n1).three.1
        · exact ((hmm.bx.other ⟨gp, p * 11 + 1, none⟩ _ hmm.n1).other ⟨gp, p * 11 + 2, none⟩ _ hmm.n1).three.1
      have HS16 := Lib.hid hS16
      have HLT : Hid ((p : Int) < 3 ∧ p < 3) := Lib.hid ⟨by omega, hp3'⟩
      clear hmm hm1 hS16
      go_wp2_with fail
      refine Rgs.region (by kernel_rfl) (by kernel_rfl) (fun (opn : Nat) (vl : Value) (_ : World) => match opn with | 0 => vl = .pointer (some ⟨gc, 0, none⟩) | 1 => vl = .slice (some ⟨gp, 0, none⟩) 3 3 | 2 => vl = .int .i64 (p : Int) | 3 => vl = .pointer (some ⟨gc, 0, none⟩) | 4 => vl = .slice (some ⟨gp, 0, none⟩) 3 3 | 5 => vl = .int .i64 (p : Int) | 6 => vl = .int .i64 bu | 7 => vl = .int .i64 (T : Int) | 8 => vl = .pointer (some ⟨gp, p * 11, none⟩) | 9 => vl = .pointer (some ⟨gp, p * 11 + 1, none⟩) | 10 => vl = undef | 11 => vl = .pointer (some ⟨gp, p * 11, none⟩) | 12 => vl = .pointer (some ⟨gp, p * 11 + 2, none⟩) | 13 => vl = undef | _ => True) (fun live _ w' => Rgs.StW2 wq.drew 10 13 ⟨gp, p * 11 + 1, none⟩ ⟨gp, p * 11 + 2, none⟩ (.int .i64 bu) (.int .i64 (T : Int)) live w') rfl (Rgs.steps_of ?_) ?_
      · refine ⟨?_, ?_, ?_, ?_, ?_, ?_, ?_, ?_, ?_, ?_, ?_, ?_, ?_, ?_, trivial⟩
        · intro a w1 live S E D C h0 hk hW
          have e13 : a.eval (.tmp 13) = .pointer (some ⟨gc, 0, none⟩) := E 13 rfl
          exact Rgs.val rfl (Reg.wanted_free rfl) (.pointer (some ⟨gc, 0, none⟩)) (by have c := Reg.consts a; generalize a.eval = ρ at *; simp [execOp, go_sem, c.1, c.2, e13]) rfl (hW.upd (by decide) (by decide))
        · intro a w1 live S E D C h0 hk hW
          have d0 : a.eval (.tmp 71) = .pointer (some ⟨gc, 0, none⟩) := D 0 rfl _ _ rfl rfl
          have hc0 := HFA.out w1 hW.any
          exact Rgs.val rfl (Reg.wanted_free rfl) (.slice (some ⟨gp, 0, none⟩) 3 3) (by have c := Reg.consts a; generalize a.eval = ρ at *; simp [execOp, go_sem, c.1, c.2, d0, hc0]) rfl (hW.upd (by decide) (by decide))
        · intro a w1 live S E D C h0 hk hW
          have e8 : a.eval (.tmp 8) = .int .i64 (p : Int) := E 8 rfl
          exact Rgs.val rfl (Reg.wanted_free rfl) (.int .i64 (p : Int)) (by have c := Reg.consts a; generalize a.eval = ρ at *; simp [execOp, go_sem, c.1, c.2, e8]) rfl (hW.upd (by decide) (by decide))
        · intro a w1 live S E D C h0 hk hW
          have e13 : a.eval (.tmp 13) = .pointer (some ⟨gc, 0, none⟩) := E 13 rfl
          exact Rgs.val rfl (Reg.wanted_free rfl) (.pointer (some ⟨gc, 0, none⟩)) (by have c := Reg.consts a; generalize a.eval = ρ at *; simp [execOp, go_sem, c.1, c.2, e13]) rfl (hW.upd (by decide) (by decide))
        · intro a w1 live S E D C h0 hk hW
          have d3 : a.eval (.tmp 74) = .pointer (some ⟨gc, 0, none⟩) := D 3 rfl _ _ rfl rfl
          have hc0 := HFA.out w1 hW.any
          exact Rgs.val rfl (Reg.wanted_free rfl) (.slice (some ⟨gp, 0, none⟩) 3 3) (by have c := Reg.consts a; generalize a.eval = ρ at *; simp [execOp, go_sem, c.1, c.2, d3, hc0]) rfl (hW.upd (by decide) (by decide))
        · intro a w1 live S E D C h0 hk hW
          have e8 : a.eval (.tmp 8) = .int .i64 (p : Int) := E 8 rfl
          exact Rgs.val rfl (Reg.wanted_free rfl) (.int .i64 (p : Int)) (by have c := Reg.consts a; generalize a.eval = ρ at *; simp [execOp, go_sem, c.1, c.2, e8]) rfl (hW.upd (by decide) (by decide))
        · intro a w1 live S E D C h0 hk hW
          have e12 : a.eval (.tmp 12) = .int .i64 bu := E 12 rfl
          exact Rgs.val rfl (Reg.wanted_free rfl) (.int .i64 bu) (by have c := Reg.consts a; generalize a.eval = ρ at *; simp [execOp, go_sem, c.1, c.2, e12]) rfl (hW.upd (by decide) (by decide))
        · intro a w1 live S E D C h0 hk hW
          have e10 : a.eval (.tmp 10) = .int .i64 (T : Int) := E 10 rfl
          exact Rgs.val rfl (Reg.wanted_free rfl) (.int .i64 (T : Int)) (by have c := Reg.consts a; generalize a.eval = ρ at *; simp [execOp, go_sem, c.1, c.2, e10]) rfl (hW.upd (by decide) (by decide))
        · intro a w1 live S E D C h0 hk hW
          have d1 : a.eval (.tmp 72) = .slice (some ⟨gp, 0, none⟩) 3 3 := D 1 rfl _ _ rfl rfl
          have d2 : a.eval (.tmp 73) = .int .i64 (p : Int) := D 2 rfl _ _ rfl rfl
          have i1 := HLT.out
          obtain ⟨i1, i2⟩ := i1
          have ead := mk_add (gp) (p * 11)
          exact Rgs.val rfl (Reg.wanted_free rfl) (.pointer (some ⟨gp, p * 11, none⟩)) (by have c := Reg.consts a; generalize a.eval = ρ at *; simp [execOp, go_sem, c.1, c.2, d1, d2, i1, i2, ead]) rfl (hW.upd (by decide) (by decide))
        · intro a w1 live S E D C h0 hk hW
          have d8 : a.eval (.tmp 79) = .pointer (some ⟨gp, p * 11, none⟩) := D 8 rfl _ _ rfl rfl
          exact Rgs.val rfl (Reg.wanted_free rfl) (.pointer (some ⟨gp, p * 11 + 1, none⟩)) (by have c := Reg.consts a; generalize a.eval = ρ at *; simp [execOp, go_sem, c.1, c.2, d8]) rfl (hW.upd (by decide) (by decide))
        · intro a w1 live S E D C h0 hk hW
          have d9 : a.eval (.tmp 80) = .pointer (some ⟨gp, p * 11 + 1, none⟩) := D 9 rfl _ _ rfl rfl
          have d6 : a.eval (.tmp 77) = .int .i64 bu := D 6 rfl _ _ rfl rfl
          have l13 := Reg.not_live C h0 (j := 13) rfl rfl
          have hw := hW.off h0 l13
          subst hw
          refine Rgs.store rfl (Reg.wanted_free rfl) _ (by have c := Reg.consts a; generalize a.eval = ρ at *; simp [execOp, go_sem, c.1, c.2, d9, d6, e1, e2]) rfl (Rgs.StW2.put1 _ (by decide) _ _ _ _ _ l13) (fun j v _ h => h)
        · intro a w1 live S E D C h0 hk hW
          have d4 : a.eval (.tmp 75) = .slice (some ⟨gp, 0, none⟩) 3 3 := D 4 rfl _ _ rfl rfl
          have d5 : a.eval (.tmp 76) = .int .i64 (p : Int) := D 5 rfl _ _ rfl rfl
          have i1 := HLT.out
          obtain ⟨i1, i2⟩ := i1
          have ead := mk_add (gp) (p * 11)
          exact Rgs.val rfl (Reg.wanted_free rfl) (.pointer (some ⟨gp, p * 11, none⟩)) (by have c := Reg.consts a; generalize a.eval = ρ at *; simp [execOp, go_sem, c.1, c.2, d4, d5, i1, i2, ead]) rfl (hW.upd (by decide) (by decide))
        · intro a w1 live S E D C h0 hk hW
          have d11 : a.eval (.tmp 81) = .pointer (some ⟨gp, p * 11, none⟩) := D 11 rfl _ _ rfl rfl
          exact Rgs.val rfl (Reg.wanted_free rfl) (.pointer (some ⟨gp, p * 11 + 2, none⟩)) (by have c := Reg.consts a; generalize a.eval = ρ at *; simp [execOp, go_sem, c.1, c.2, d11]) rfl (hW.upd (by decide) (by decide))
        · intro a w1 live S E D C h0 hk hW
          have d12 : a.eval (.tmp 82) = .pointer (some ⟨gp, p * 11 + 2, none⟩) := D 12 rfl _ _ rfl rfl
          have d7 : a.eval (.tmp 78) = .int .i64 (T : Int) := D 7 rfl _ _ rfl rfl
          have hw := hW.mid (hk 10 rfl) h0
          subst hw
          refine Rgs.store rfl (Reg.wanted_free rfl) ((wq.drew.setCell ⟨gp, p * 11 + 1, none⟩ (.int .i64 bu)).setCell ⟨gp, p * 11 + 2, none⟩ (.int .i64 (T : Int))) ?_ rfl (Rgs.StW2.put2 _ _ _ _ _ _ _ _) (fun j v _ h => h)
          obtain ⟨wz, hwz⟩ : ∃ wz, wz = wq.drew.setCell ⟨gp, p * 11 + 1, none⟩ (.int .i64 bu) := ⟨_, rfl⟩
          rw [← hwz] at k1 k2 ⊢
          clear hwz
          have c := Reg.consts a
          generalize a.eval = ρ at *
          simp [execOp, go_sem, c.1, c.2, d12, d7, k1, k2]
      · intro a w3 live hs hd E D' Hl hW
        rw [Rgs.act_ws a _ _ hs hd E [71, 72, 73, 74, 75, 76, 77, 78, 79, 80, 81, 82] (by kernel_rfl)]
        simp only [List.foldl, List.setIfInBounds_toArray, List.set_cons_succ, List.set_cons_zero]
        have hw := hW.on (Hl 13 (by decide))
        subst hw
        clear E D' Hl hW e1 e2 k1 k2 HFA
        generalize a.eval = ρ
        clear a hs hd
        have hS17 := (HS16.out.bel (Below.refl _ _).drew).ask hp3 bu (T : Int)
        generalize (wq.drew.setCell ⟨gp, p * 11 + 1, none⟩ (.int .i64 bu)).setCell ⟨gp, p * 11 + 2, none⟩ (.int .i64 (T : Int)) = wr at hS17 ⊢
        obtain ⟨m0, m1, m2⟩ := hS17.bx.three
        have CX := Lib.hid (H.holds (some ⟨gp, 0, none⟩) none none (some ad) 3 0 0 m 3 0 0 c1 (P7.set p { zP with bud := bu, per := (T : Int) }) [] L wr hS17.pp.rdb (⟨rfl, RdV.nil⟩ : RdB cc wr wr.heap.size none 0 []) (HRL.out wr hS17.bl) (by omega) (by omega) hd1 (by omega) (by omega) HPER.out)
        rw [HO1.out] at CX
        have HS17 := Lib.hid hS17
        clear hS17
        go_wp2_with fail
        refine CX.out.mono ?_
        rintro e w18 ⟨rfl, hb18⟩
        have hS18 := HS17.out.bel hb18
        clear hb18 m0 m1 m2 CX
        obtain ⟨m0, m1, m2⟩ := hS18.bx.three
        obtain ⟨q1, q2⟩ := hS18.pp.cell pcl_len (i := p) (k := 1) (List.getElem?_set_self hp3) (by omega) rfl
        have q1' : w18.cell? ⟨gp, p * 11 + 1, none⟩ = some (.int .i64 bu) := q1
        clear q1
        have HS18 := Lib.hid hS18
        clear hS18
        go_upto_region 20 with fail
        have hS19 := HS18.out.bud hp3 (bu + 1)
        clear m0 m1 m2 q1' q2
        generalize w18.setCell ⟨gp, p * 11 + 1, none⟩ (.int .i64 (bu + 1)) = w19 at hS19 ⊢
        obtain ⟨m0, m1, m2⟩ := hS19.bx.three
        have CY := Lib.hid (H.holds (some ⟨gp, 0, none⟩) none none (some ad) 3 0 0 m 3 0 0 c1 (P7.set p { zP with bud := bu + 1, per := (T : Int) }) [] L w19 hS19.pp.rdb (⟨rfl, RdV.nil⟩ : RdB cc w19 w19.heap.size none 0 []) (HRL.out w19 hS19.bl) (by omega) (by omega) hd1 (by omega) (by omega) HPER2.out)
        rw [HO2.out] at CY
        have HS19 := Lib.hid hS19
        clear hS19
        go_wp2_with fail
        refine CY.out.mono ?_
        rintro e w20 ⟨rfl, hb20⟩
        have hS20 := HS19.out.bel hb20
        clear hb20 m0 m1 m2 CY
        go_wp2_with fail
        refine (known9_any H w20).mono ?_
        rintro e w21 ⟨rfl, hb21⟩
        have k21 := hS20.bl.trans (hb21.mono hS20.bl.size)
        go_wp2_with fail
        go_ret
        exact Ans.mk rfl (HK0.out.trans (k21.mono HK0.out.size))
end Go.Proofs.Ytcmdhaieggjgcaa.boundHolds
