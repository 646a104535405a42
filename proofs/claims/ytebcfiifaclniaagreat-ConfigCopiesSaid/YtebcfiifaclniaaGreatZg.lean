/- Package config: whether two configurations are the same: the rows, the whole. -/
import Derived.Test.YtebcfiifaclniaaGreatLow10
import Derived.Test.YtebcfiifaclniaaGreatYg
namespace Go.Proofs.YtebcfiifaclniaaGreat
open Go.RowKit Tab
set_option linter.unusedSimpArgs false
set_option linter.unusedVariables false

def SamR (P P' : List Pq) : Prop := P.length = P'.length ∧ ∀ (i : Nat) (x y : Pq), P[i]? = some x → P'[i]? = some y → SameP x y
def SamT (T T' : List NdT) : Prop := T.length = T'.length ∧ ∀ (i : Nat) (x y : NdT), T[i]? = some x → T'[i]? = some y → sameN x.l y.l = true
open Classical in
noncomputable def samR (P P' : List Pq) : Bool := decide (SamR P P')
open Classical in
noncomputable def samT (T T' : List NdT) : Bool := decide (SamT T T')
theorem samR_iff {P P' : List Pq} : samR P P' = true ↔ SamR P P' := by unfold samR; classical exact decide_eq_true_iff
theorem samT_iff {T T' : List NdT} : samT T T' = true ↔ SamT T T' := by unfold samT; classical exact decide_eq_true_iff
theorem sam_parts (P P' : List Pq) (C C' : List ChV) (T T' : List NdT) : sameF P C T P' C' T' = (samR P P' && (decide (C = C') && samT T T')) := by
  rw [Bool.eq_iff_iff]
  simp only [Bool.and_eq_true, samR_iff, samT_iff, decide_eq_true_eq]
  constructor
  · intro h
    unfold sameF at h
    classical
    have h := of_decide_eq_true h
    exact ⟨⟨h.1.1, h.1.2.1⟩, h.1.2.2, h.2⟩
  · intro h
    exact sameF_yes ⟨⟨h.1.1, h.1.2, h.2.1⟩, h.2.2⟩
set_option maxRecDepth 100000 in
set_option maxHeartbeats 4000000 in
theorem eqfp_any (A1 A2 : Option Addr) (n m c1 c2 : Nat) (P P' : List Pq) (w : World) (h1 : RdB pcq w w.heap.size A1 n P) (h2 : RdB pcq w w.heap.size A2 m P')
    (hp : ∀ x ∈ P, RdB prc w w.heap.size x.1.pa x.1.pn x.2 ∧ x.1.pn ≤ 140737488351232) (hp' : ∀ x ∈ P', RdB prc w w.heap.size x.1.pa x.1.pn x.2) (hn : n ≤ 140737488351232) :
    Calls Tryz.prog 18 #[.slice A1 n c1, .slice A2 m c2, .func (.func 19) #[] #[]] w (Ans (.bool (samR P P')) w) := by
  have HNO : Hid (¬ SamR P P' → samR P P' = false) := Lib.hid fun h => by
    cases hq : samR P P' with
    | false => rfl
    | true => exact absurd (samR_iff.1 hq) h
  have HYES : Hid (SamR P P' → samR P P' = true) := Lib.hid fun h => samR_iff.2 h
  generalize samR P P' = v at HNO HYES ⊢
  have H1 := Lib.hid h1
  have H2 := Lib.hid h2
  have HPT := Lib.hid hp
  have HPT' := Lib.hid hp'
  clear h1 h2 hp hp'
  by_cases hnm : n = m
  case neg =>
    have HV := Lib.hid (HNO.out fun h => hnm (by rw [← H1.out.len, ← H2.out.len, h.1]))
    have h4 : ((n : Int) != (m : Int)) = true := bne_iff_ne.2 (by omega)
    clear HNO HYES hnm
    go_enter Tryz.func18, Tryz.ntmps18
    go_wp2_with fail
    go_ret
    exact Ans.mk (by rw [HV.out]; rfl) (Below.refl _ _)
  subst hnm
  go_enter Tryz.func18, Tryz.ntmps18
  go_wp2_with fail
  go_loopw [7, 8, 9, 17] (fun _ _ _ s wr => ∃ i : Nat, i ≤ n ∧ s = .int .i64 i ∧ (∀ k, k < i → ∀ x y, P[k]? = some x → P'[k]? = some y → SameP x y) ∧ Below w.heap.size w wr) (fun _ _ _ s _ => n - (intOf s).toNat)
  case atStart => exact ⟨0, by omega, rfl, fun k hk => by omega, Below.refl _ _⟩
  case round =>
    obtain ⟨i, hi, rfl, hok, hb⟩ := hrel
    have HOK := Lib.hid hok
    clear hok
    by_cases hlt : i < n
    · obtain ⟨ad, x, rfl, had, hx, c0, ck⟩ := (H1.out.on hb).at_ pcq_len (by omega) hlt
      obtain ⟨ad2, y, rfl, had2, hy, e0, ek⟩ := (H2.out.on hb).at_ pcq_len (by omega) hlt
      have cs : ∀ k v, 0 < k → (pcl x.1)[k]? = some v → wr.cell? ⟨(ad.add (i * 11)).block, (ad.add (i * 11)).off + k, none⟩ = some v := ck
      have c1 := cs 1 _ (by omega) rfl
      have c2 := cs 2 _ (by omega) rfl
      have c3 := cs 3 _ (by omega) rfl
      have c4 := cs 4 _ (by omega) rfl
      have c5 := cs 5 _ (by omega) rfl
      have c6 := cs 6 _ (by omega) rfl
      have c7 := cs 7 _ (by omega) rfl
      have c8 := cs 8 _ (by omega) rfl
      have c9 := cs 9 _ (by omega) rfl
      have c10 := cs 10 _ (by omega) rfl
      have c0 := c0 _ rfl
      have hbx := bl1 wr (.cells ((pcl x.1).toArray) 39)
      have hyb := (H2.out.on (hb.trans (hbx.mono hb.size)))
      have es : ∀ k v, 0 < k → (pcl y.1)[k]? = some v → (wr.alloc (.cells ((pcl x.1).toArray) 39)).cell? ⟨(ad2.add (i * 11)).block, (ad2.add (i * 11)).off + k, none⟩ = some v := fun k v hk hv => (hbx.cell (by show (ad2.add (i * 11)).block < _; rw [add_block]; exact had2)).trans (ek k v hk hv)
      have e0 : ∀ v, (pcl y.1)[0]? = some v → (wr.alloc (.cells ((pcl x.1).toArray) 39)).cell? (ad2.add (i * 11)) = some v := fun v hv => (hbx.cell (by rw [add_block]; exact had2)).trans (e0 v hv)
      have e1 := es 1 _ (by omega) rfl
      have e2 := es 2 _ (by omega) rfl
      have e3 := es 3 _ (by omega) rfl
      have e4 := es 4 _ (by omega) rfl
      have e5 := es 5 _ (by omega) rfl
      have e6 := es 6 _ (by omega) rfl
      have e7 := es 7 _ (by omega) rfl
      have e8 := es 8 _ (by omega) rfl
      have e9 := es 9 _ (by omega) rfl
      have e10 := es 10 _ (by omega) rfl
      have e0 := e0 _ rfl
      have HPX := HPT.out x (List.mem_of_getElem? hx)
      have HPY := HPT'.out y (List.mem_of_getElem? hy)
      have HSP := Lib.hid fun (W' : World) (hb' : Below w.heap.size w W') => spart_any x y W' (HPX.1.on hb') (HPY.on hb') HPX.2
      have HNX : Hid (SameP x y → ∀ k, k < i + 1 → ∀ x y, P[k]? = some x → P'[k]? = some y → SameP x y) := Lib.hid fun h => lt_more (p := fun k => ∀ x y, P[k]? = some x → P'[k]? = some y → SameP x y) HOK.out fun x' y' hx' hy' => by
        rw [hx] at hx'
        rw [hy] at hy'
        injection hx' with hx'
        injection hy' with hy'
        subst hx' hy'
        exact h
      have HBD : Hid (¬ SameP x y → v = false) := Lib.hid fun h => HNO.out fun k => h (k.2 i x y hx hy)
      have HD : Hid (decide (SameP x y) = true → SameP x y) := Lib.hid of_decide_eq_true
      have HD2 : Hid (decide (SameP x y) = false → ¬ SameP x y) := Lib.hid of_decide_eq_false
      generalize decide (SameP x y) = q at HSP HD HD2
      have HBB := Lib.hid hb
      generalize hSP : SameP x y = SP at HNX HBD HD HD2
      obtain ⟨⟨nm, bu, pe, sc, st, pa, pn, pc, a0, a1, a2, a3, a4⟩, L⟩ := x
      obtain ⟨⟨nm2, bu2, pe2, sc2, st2, pa2, pn2, pc2, b0, b1, b2, b3, b4⟩, M⟩ := y
      dsimp only [pcl] at c0 c1 c2 c3 c4 c5 c6 c7 c8 c9 c10 e0 e1 e2 e3 e4 e5 e6 e7 e8 e9 e10
      dsimp only [pv] at HSP
      have HX2 := Lib.hid (hbx.trans ((bl1 _ (.cells #[.string nm2, .int .i64 bu2, .int .i64 pe2, .bool sc2, .bool st2, .slice pa2 pn2 pc2, .int .i64 b0, .int .i64 b1, .int .i64 b2, .int .i64 b3, .int .i64 b4] 39)).mono hbx.size))
      have HF : Hid (∀ o v, (#[Value.string nm, .int .i64 bu, .int .i64 pe, .bool sc, .bool st, .slice pa pn pc, .int .i64 a0, .int .i64 a1, .int .i64 a2, .int .i64 a3, .int .i64 a4] : Array Value)[o]? = some v → ((wr.alloc (.cells #[.string nm, .int .i64 bu, .int .i64 pe, .bool sc, .bool st, .slice pa pn pc, .int .i64 a0, .int .i64 a1, .int .i64 a2, .int .i64 a3, .int .i64 a4] 39)).alloc (.cells #[.string nm2, .int .i64 bu2, .int .i64 pe2, .bool sc2, .bool st2, .slice pa2 pn2 pc2, .int .i64 b0, .int .i64 b1, .int .i64 b2, .int .i64 b3, .int .i64 b4] 39)).cell? ⟨wr.heap.size, o, none⟩ = some v) := Lib.hid fun o v hv => by
        rw [(bl1 _ _).cell (by simp)]
        exact (World.cell?_alloc_mark _ _ _ _ _).trans hv
      have hs1 : (wr.alloc (.cells #[.string nm, .int .i64 bu, .int .i64 pe, .bool sc, .bool st, .slice pa pn pc, .int .i64 a0, .int .i64 a1, .int .i64 a2, .int .i64 a3, .int .i64 a4] 39)).heap.size = wr.heap.size + 1 := by simp
      have HF2 : Hid (∀ o v, (#[Value.string nm2, .int .i64 bu2, .int .i64 pe2, .bool sc2, .bool st2, .slice pa2 pn2 pc2, .int .i64 b0, .int .i64 b1, .int .i64 b2, .int .i64 b3, .int .i64 b4] : Array Value)[o]? = some v → ((wr.alloc (.cells #[.string nm, .int .i64 bu, .int .i64 pe, .bool sc, .bool st, .slice pa pn pc, .int .i64 a0, .int .i64 a1, .int .i64 a2, .int .i64 a3, .int .i64 a4] 39)).alloc (.cells #[.string nm2, .int .i64 bu2, .int .i64 pe2, .bool sc2, .bool st2, .slice pa2 pn2 pc2, .int .i64 b0, .int .i64 b1, .int .i64 b2, .int .i64 b3, .int .i64 b4] 39)).cell? ⟨wr.heap.size + 1, o, none⟩ = some v) := Lib.hid fun o v hv => by
        rw [← hs1]
        exact (World.cell?_alloc_mark _ _ _ _ _).trans hv
      clear hSP ck ek hx hy had had2 HPX HPY HOK cs es hb hbx hyb hs1
      go_upto_region 7 with fail
      have HX2 : Hid (Below wr.heap.size wr ((wr.alloc (.cells #[.string nm, .int .i64 bu, .int .i64 pe, .bool sc, .bool st, .slice pa pn pc, .int .i64 a0, .int .i64 a1, .int .i64 a2, .int .i64 a3, .int .i64 a4] 39)).alloc (.cells #[.string nm2, .int .i64 bu2, .int .i64 pe2, .bool sc2, .bool st2, .slice pa2 pn2 pc2, .int .i64 b0, .int .i64 b1, .int .i64 b2, .int .i64 b3, .int .i64 b4] 39))) := HX2
      generalize (wr.alloc (.cells #[.string nm, .int .i64 bu, .int .i64 pe, .bool sc, .bool st, .slice pa pn pc, .int .i64 a0, .int .i64 a1, .int .i64 a2, .int .i64 a3, .int .i64 a4] 39)).alloc (.cells #[.string nm2, .int .i64 bu2, .int .i64 pe2, .bool sc2, .bool st2, .slice pa2 pn2 pc2, .int .i64 b0, .int .i64 b1, .int .i64 b2, .int .i64 b3, .int .i64 b4] 39) = W5 at HX2 HF HF2 ⊢
      generalize wr.heap.size + 1 = gy at HF2 ⊢
      generalize hgx : wr.heap.size = gx at HF ⊢
      have f0 := HF.out 0 _ rfl
      have g0 := HF2.out 0 _ rfl
      have f1 := HF.out 1 _ rfl
      have g1 := HF2.out 1 _ rfl
      have f2 := HF.out 2 _ rfl
      have g2 := HF2.out 2 _ rfl
      have f3 := HF.out 3 _ rfl
      have g3 := HF2.out 3 _ rfl
      have f4 := HF.out 4 _ rfl
      have g4 := HF2.out 4 _ rfl
      have f5 := HF.out 5 _ rfl
      have g5 := HF2.out 5 _ rfl
      have f6 := HF.out 6 _ rfl
      have g6 := HF2.out 6 _ rfl
      have f7 := HF.out 7 _ rfl
      have g7 := HF2.out 7 _ rfl
      have f8 := HF.out 8 _ rfl
      have g8 := HF2.out 8 _ rfl
      have f9 := HF.out 9 _ rfl
      have g9 := HF2.out 9 _ rfl
      have f10 := HF.out 10 _ rfl
      have g10 := HF2.out 10 _ rfl
      have HB5 := Lib.hid (HBB.out.trans (HX2.out.mono HBB.out.size))
      clear HF HF2 hgx HX2 c0 e0 c1 e1 c2 e2 c3 e3 c4 e4 c5 e5 c6 e6 c7 e7 c8 e8 c9 e9 c10 e10
      go_wp2_with fail
      refine (HSP.out _ HB5.out).mono ?_
      rintro e w6 ⟨rfl, hb6⟩
      have HB6 := Lib.hid (HB5.out.trans (hb6.mono HB5.out.size))
      clear hb6 f0 g0 f1 g1 f2 g2 f3 g3 f4 g4 f5 g5 f6 g6 f7 g7 f8 g8 f9 g9 f10 g10
      cases q
      · have HV := Lib.hid (HBD.out (HD2.out rfl))
        clear HBD HNX HD HD2 HSP HNO HYES
        go_wp2_with fail
        go_ret
        exact Ans.mk (by rw [HV.out]; rfl) HB6.out
      · have HNX2 := Lib.hid (HNX.out (HD.out rfl))
        clear HBD HNX HD HD2 HSP
        go_wp2_with fail
        go_roundw
        case rel => exact ⟨i + 1, by omega, by go_num, HNX2.out, HB6.out⟩
        case measure => simp [intOf]; omega
    · have hge : n ≤ i := by omega
      have HV := Lib.hid (HYES.out ⟨by rw [H1.out.len, H2.out.len], fun k x y hx hy => HOK.out k (by have := (List.getElem?_eq_some_iff.1 hx).1; have := H1.out.len; omega) x y hx hy⟩)
      clear HNO HYES HOK
      go_wp2_with fail
      go_ret
      exact Ans.mk (by rw [HV.out]; rfl) hb
set_option maxRecDepth 100000 in
set_option maxHeartbeats 4000000 in
theorem eqft_any (A1 A2 : Option Addr) (n m c1 c2 : Nat) (T T' : List NdT) (w : World) (h1 : RdB tcn w w.heap.size A1 n T) (h2 : RdB tcn w w.heap.size A2 m T')
    (hp : ∀ x ∈ T, NdAt w w.heap.size x) (hp' : ∀ x ∈ T', NdAt w w.heap.size x) (hn : n ≤ 140737488351232) :
    Calls Tryz.prog 21 #[.slice A1 n c1, .slice A2 m c2, .func (.func 22) #[] #[]] w (Ans (.bool (samT T T')) w) := by
  have HNO : Hid (¬ SamT T T' → samT T T' = false) := Lib.hid fun h => by
    cases hq : samT T T' with
    | false => rfl
    | true => exact absurd (samT_iff.1 hq) h
  have HYES : Hid (SamT T T' → samT T T' = true) := Lib.hid fun h => samT_iff.2 h
  generalize samT T T' = v at HNO HYES ⊢
  have H1 := Lib.hid h1
  have H2 := Lib.hid h2
  have HPT := Lib.hid hp
  have HPT' := Lib.hid hp'
  clear h1 h2 hp hp'
  by_cases hnm : n = m
  case neg =>
    have HV := Lib.hid (HNO.out fun h => hnm (by rw [← H1.out.len, ← H2.out.len, h.1]))
    have h4 : ((n : Int) != (m : Int)) = true := bne_iff_ne.2 (by omega)
    clear HNO HYES hnm
    go_enter Tryz.func21, Tryz.ntmps21
    go_wp2_with fail
    go_ret
    exact Ans.mk (by rw [HV.out]; rfl) (Below.refl _ _)
  subst hnm
  go_enter Tryz.func21, Tryz.ntmps21
  go_wp2_with fail
  go_loopw [7, 8, 9, 17] (fun _ _ _ s wr => ∃ i : Nat, i ≤ n ∧ s = .int .i64 i ∧ (∀ k, k < i → ∀ x y, T[k]? = some x → T'[k]? = some y → sameN x.l y.l = true) ∧ Below w.heap.size w wr) (fun _ _ _ s _ => n - (intOf s).toNat)
  case atStart => exact ⟨0, by omega, rfl, fun k hk => by omega, Below.refl _ _⟩
  case round =>
    obtain ⟨i, hi, rfl, hok, hb⟩ := hrel
    have HOK := Lib.hid hok
    clear hok
    by_cases hlt : i < n
    · obtain ⟨ad, x, rfl, had, hx, c0, _⟩ := (H1.out.on hb).at_ tcn_len (by omega) hlt
      obtain ⟨ad2, y, rfl, had2, hy, e0, _⟩ := (H2.out.on hb).at_ tcn_len (by omega) hlt
      have c0 := c0 _ rfl
      have e0 := e0 _ rfl
      rw [Nat.mul_one] at c0 e0
      have HPX := (HPT.out x (List.mem_of_getElem? hx)).on hb
      have HPY := (HPT'.out y (List.mem_of_getElem? hy)).on hb
      have HSP := Lib.hid (nsame_any x.A y.A x.n y.n x.c y.c x.l y.l wr HPX.rd HPY.rd HPX.few)
      have HNX : Hid (sameN x.l y.l = true → ∀ k, k < i + 1 → ∀ x y, T[k]? = some x → T'[k]? = some y → sameN x.l y.l = true) := Lib.hid fun h => lt_more (p := fun k => ∀ x y, T[k]? = some x → T'[k]? = some y → sameN x.l y.l = true) HOK.out fun x' y' hx' hy' => by
        rw [hx] at hx'
        rw [hy] at hy'
        injection hx' with hx'
        injection hy' with hy'
        subst hx' hy'
        exact h
      have HBD : Hid (sameN x.l y.l = false → v = false) := Lib.hid fun h => HNO.out fun k => by rw [k.2 i x y hx hy] at h; cases h
      generalize sameN x.l y.l = q at HSP HNX HBD
      obtain ⟨A, na, c, l⟩ := x
      obtain ⟨A', n', c', l'⟩ := y
      dsimp only at c0 e0 HSP
      have HBB := Lib.hid hb
      clear hx hy had had2 HPX HPY HOK hb
      go_wp2_with fail
      refine HSP.out.mono ?_
      rintro e w6 ⟨rfl, dq, rfl⟩
      cases q
      · have HV := Lib.hid (HBD.out rfl)
        clear HBD HNX HSP HNO HYES
        go_wp2_with fail
        go_ret
        exact Ans.mk (by rw [HV.out]; rfl) (Below.drewN HBB.out dq)
      · have HNX2 := Lib.hid (HNX.out rfl)
        clear HBD HNX HSP
        go_wp2_with fail
        go_roundw
        case rel => exact ⟨i + 1, by omega, by go_num, HNX2.out, Below.drewN HBB.out dq⟩
        case measure => simp [intOf]; omega
    · have hge : n ≤ i := by omega
      have HV := Lib.hid (HYES.out ⟨by rw [H1.out.len, H2.out.len], fun k x y hx hy => HOK.out k (by have := (List.getElem?_eq_some_iff.1 hx).1; have := H1.out.len; omega) x y hx hy⟩)
      clear HNO HYES HOK
      go_wp2_with fail
      go_ret
      exact Ans.mk (by rw [HV.out]; rfl) hb
set_option maxRecDepth 100000 in
set_option maxHeartbeats 2000000 in
theorem csame_any (x y : Cf) (w : World) (hx : CfR w x) (hy : CfR w y) :
    Calls Tryz.prog 6 #[cfv x, cfv y] w (Ans (.bool (sameF x.P x.C x.T y.P y.C y.T)) w) := by
  have HV := Lib.hid (sam_parts x.P y.P x.C y.C x.T y.T)
  generalize sameF x.P x.C x.T y.P y.C y.T = v at HV ⊢
  have HE1 := Lib.hid fun V (hv : Below w.heap.size w V) => eqfp_any x.A1 y.A1 x.n1 y.n1 x.c1 y.c1 x.P y.P V (hx.on hv).pp (hy.on hv).pp (fun z hz => ⟨((hx.on hv).pt z hz).1.procs, ((hx.on hv).pt z hz).2.2⟩) (fun z hz => ((hy.on hv).pt z hz).1.procs) hx.m1
  have HE2 := Lib.hid fun V (hv : Below w.heap.size w V) => eqch_any x.A2 y.A2 x.n2 y.n2 x.c2 y.c2 x.C y.C V (hx.on hv).ch (hy.on hv).ch hx.m2
  have HE3 := Lib.hid fun V (hv : Below w.heap.size w V) => eqft_any x.A3 y.A3 x.n3 y.n3 x.c3 y.c3 x.T y.T V (hx.on hv).tb (hy.on hv).tb (hx.on hv).tt (hy.on hv).tt hx.m3
  generalize samR x.P y.P = q1 at HE1 HV
  generalize decide (x.C = y.C) = q2 at HE2 HV
  generalize samT x.T y.T = q3 at HE3 HV
  clear hx hy
  obtain ⟨A1, A2, A3, n1, n2, n3, c1, c2, c3, P, C, T⟩ := x
  obtain ⟨E1, E2, E3, m1, m2, m3, d1, d2, d3, P', C', T'⟩ := y
  dsimp only [cfv] at HE1 HE2 HE3 ⊢
  have g0 := bl1 w (.cells #[.slice A1 n1 c1, .slice A2 n2 c2, .slice A3 n3 c3] 27)
  have g1 := g0.trans ((bl1 _ (.cells #[.slice E1 m1 d1, .slice E2 m2 d2, .slice E3 m3 d3] 27)).mono g0.size)
  have o : Hid (∀ (k : Nat) (v : Value), (#[Value.slice A1 n1 c1, .slice A2 n2 c2, .slice A3 n3 c3] : Array Value)[k]? = some v → ((w.alloc (.cells #[.slice A1 n1 c1, .slice A2 n2 c2, .slice A3 n3 c3] 27)).alloc (.cells #[.slice E1 m1 d1, .slice E2 m2 d2, .slice E3 m3 d3] 27)).cell? ⟨w.heap.size, k, none⟩ = some v) := Lib.hid (by
    intro k v hv
    rw [(bl1 _ _).cell (by simp)]
    exact (World.cell?_alloc_mark _ _ _ _ _).trans hv)
  have e : (w.alloc (.cells #[.slice A1 n1 c1, .slice A2 n2 c2, .slice A3 n3 c3] 27)).heap.size = w.heap.size + 1 := by simp
  have o2 : Hid (∀ (k : Nat) (v : Value), (#[Value.slice E1 m1 d1, .slice E2 m2 d2, .slice E3 m3 d3] : Array Value)[k]? = some v → ((w.alloc (.cells #[.slice A1 n1 c1, .slice A2 n2 c2, .slice A3 n3 c3] 27)).alloc (.cells #[.slice E1 m1 d1, .slice E2 m2 d2, .slice E3 m3 d3] 27)).cell? ⟨w.heap.size + 1, k, none⟩ = some v) := Lib.hid (by
    intro k v hv
    rw [← e]
    exact (World.cell?_alloc_mark _ _ _ _ _).trans hv)
  have hgs : w.heap.size + 1 < ((w.alloc (.cells #[.slice A1 n1 c1, .slice A2 n2 c2, .slice A3 n3 c3] 27)).alloc (.cells #[.slice E1 m1 d1, .slice E2 m2 d2, .slice E3 m3 d3] 27)).heap.size := by simp
  clear e g0
  go_enter Tryz.func6, Tryz.ntmps6
  go_upto_region 1 with fail
  generalize (w.alloc (.cells #[.slice A1 n1 c1, .slice A2 n2 c2, .slice A3 n3 c3] 27)).alloc (.cells #[.slice E1 m1 d1, .slice E2 m2 d2, .slice E3 m3 d3] 27) = W at g1 o o2 hgs ⊢
  obtain ⟨g2, hg2⟩ : ∃ g2, g2 = w.heap.size + 1 := ⟨_, rfl⟩
  rw [← hg2] at o2 hgs ⊢
  obtain ⟨g, hg⟩ : ∃ g, g = w.heap.size := ⟨_, rfl⟩
  rw [← hg] at o ⊢
  have hgl : g < W.heap.size := by omega
  have HW := Lib.hid fun (W' : World) (hb : Below W.heap.size W W') => g1.trans (hb.mono g1.size)
  have HM := Lib.hid fun (W' : World) (hb : Below W.heap.size W W') (o' : Nat) (v : Value) (hv : (#[Value.slice A1 n1 c1, .slice A2 n2 c2, .slice A3 n3 c3] : Array Value)[o']? = some v) => (hb.cell (p := ⟨g, o', none⟩) hgl).trans (o.out o' v hv)
  have HM2 := Lib.hid fun (W' : World) (hb : Below W.heap.size W W') (o' : Nat) (v : Value) (hv : (#[Value.slice E1 m1 d1, .slice E2 m2 d2, .slice E3 m3 d3] : Array Value)[o']? = some v) => (hb.cell (p := ⟨g2, o', none⟩) hgs).trans (o2.out o' v hv)
  clear hg hg2 o o2 g1 hgl hgs
  have f0 := HM.out W (Below.refl _ _) 0 _ rfl
  have f1 := HM2.out W (Below.refl _ _) 0 _ rfl
  go_wp2_with fail
  refine (HE1.out _ (HW.out _ (Below.refl _ _))).mono ?_
  rintro e w1 ⟨rfl, hb1⟩
  have HB1 := Lib.hid hb1
  clear f0 f1 hb1 HE1
  cases q1 with
  | false =>
    have E : Hid (v = false) := Lib.hid (by rw [HV.out]; rfl)
    clear HV
    go_wp2_with fail
    go_ret
    exact Ans.mk (by rw [E.out]; rfl) (HW.out _ HB1.out)
  | true =>
  have f0 := HM.out w1 HB1.out 1 _ rfl
  have f1 := HM2.out w1 HB1.out 1 _ rfl
  go_wp2_with fail
  refine (HE2.out _ (HW.out _ HB1.out)).mono ?_
  rintro e w2 ⟨rfl, dq, rfl⟩
  have HB2 := Lib.hid (Below.drewN HB1.out dq)
  clear f0 f1 HE2
  cases q2 with
  | false =>
    have E : Hid (v = false) := Lib.hid (by rw [HV.out]; rfl)
    clear HV
    go_wp2_with fail
    go_ret
    exact Ans.mk (by rw [E.out]; rfl) (HW.out _ HB2.out)
  | true =>
  have f0 := HM.out _ HB2.out 2 _ rfl
  have f1 := HM2.out _ HB2.out 2 _ rfl
  have E : Hid (v = q3) := Lib.hid (by rw [HV.out]; rfl)
  clear HV
  go_wp2_with fail
  refine (HE3.out _ (HW.out _ HB2.out)).mono ?_
  rintro e w3 ⟨rfl, hb3⟩
  have HB3 := Lib.hid (HB2.out.trans (hb3.mono HB2.out.size))
  clear f0 f1 HE3 hb3
  go_wp2_with fail
  go_ret
  exact Ans.mk (by rw [E.out]; rfl) (HW.out _ HB3.out)
end Go.Proofs.YtebcfiifaclniaaGreat
