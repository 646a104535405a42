/- Package config: a configuration copied, in memory of its own. -/
import Derived.Test.YtebcfiifaclniaaGreatZg
import Derived.Test.YtebcfiifaclniaaGreatZh
import Derived.Test.YtebcfiifaclniaaGreatCfg
namespace Go.Proofs.YtebcfiifaclniaaGreat
open Go.RowKit Tab
set_option linter.unusedSimpArgs false
set_option linter.unusedVariables false

/-- Rows of unlike elements lie apart. -/
theorem OwnV.ne {E E' s s' B B' n n' c c' : Nat} {w : World} {A A' : Option Addr} {l l' : List Value} (h : OwnV E s w B A n c l) (h' : OwnV E' s' w B' A' n' c' l') (hE : E ≠ E') : ∀ k, obk A = some k → obk A' ≠ some k := fun k hk hk' => by
  rcases h.2 with ⟨hv, _⟩ | ⟨g, _, cur, hv, _, hg, _⟩
  · injection hv with h1
    rw [h1] at hk
    cases hk
  · rcases h'.2 with ⟨hv', _⟩ | ⟨g', _, cur', hv', _, hg', _⟩
    · injection hv' with h1
      rw [h1] at hk'
      cases hk'
    · injection hv with h1
      injection hv' with h2
      rw [h1] at hk
      rw [h2] at hk'
      have e1 : g = k := by injection hk
      have e2 : g' = k := by injection hk'
      subst e1
      subst e2
      rw [hg] at hg'
      injection hg' with hg'
      injection hg' with _ h3
      exact hE h3
theorem OwnV.ne' {E E' s s' B B' n n' c c' g : Nat} {w : World} {A : Option Addr} {l l' : List Value} (h : OwnV E s w B A n c l) (h' : OwnV E' s' w B' (some ⟨g, 0, none⟩) n' c' l') (hE : E ≠ E') : ∀ k, A = some ⟨k, 0, none⟩ → k ≠ g := fun k e e2 => h.ne h' hE k (by rw [e]; rfl) (by rw [e2]; rfl)
/-- A copy under way: its own cells, its rows. -/
structure CpS (B gc : Nat) (A1 A2 A3 : Option Addr) (n1 n2 n3 c1 c2 c3 : Nat) (Q : List Pq) (C : List ChV) (T : List NdT) (w : World) : Prop where
  cf : OwnV 27 3 w B (some ⟨gc, 0, none⟩) 1 1 [.slice A1 n1 c1, .slice A2 n2 c2, .slice A3 n3 c3]
  pp : OwnB 39 11 pcq w B A1 n1 c1 Q
  ch : OwnB 47 6 cc w B A2 n2 c2 C
  tb : OwnB 44 1 tcn w B A3 n3 c3 T
theorem CpS.on {B gc : Nat} {A1 A2 A3 : Option Addr} {n1 n2 n3 c1 c2 c3 : Nat} {Q : List Pq} {C : List ChV} {T : List NdT} {w w' : World} (h : CpS B gc A1 A2 A3 n1 n2 n3 c1 c2 c3 Q C T w) (hb : Below w.heap.size w w') : CpS B gc A1 A2 A3 n1 n2 n3 c1 c2 c3 Q C T w' :=
  ⟨h.cf.below rfl hb, h.pp.below hb, h.ch.below hb, h.tb.below hb⟩
theorem CpS.cells {B gc : Nat} {A1 A2 A3 : Option Addr} {n1 n2 n3 c1 c2 c3 : Nat} {Q : List Pq} {C : List ChV} {T : List NdT} {w : World} (h : CpS B gc A1 A2 A3 n1 n2 n3 c1 c2 c3 Q C T w) : w.cell? ⟨gc, 0, none⟩ = some (.slice A1 n1 c1) ∧ w.cell? ⟨gc, 1, none⟩ = some (.slice A2 n2 c2) ∧ w.cell? ⟨gc, 2, none⟩ = some (.slice A3 n3 c3) :=
  ⟨World.ownsRow.cellAt h.cf 0 (by omega), World.ownsRow.cellAt h.cf 1 (by omega), World.ownsRow.cellAt h.cf 2 (by omega)⟩
theorem tyPC : 39 ≠ 47 := by decide
/-- Rows each in a block of its own. -/
def Dj (l : List (Option Addr)) : Prop := ∀ (i j : Nat) (a b : Option Addr), l[i]? = some a → l[j]? = some b → i ≠ j → ∀ k, obk a = some k → obk b ≠ some k
theorem Dj.more {l : List (Option Addr)} {b : Option Addr} {h : Nat} (hl : Dj l) (h1 : ∀ a ∈ l, ∀ k, obk a = some k → k < h) (h2 : ∀ k, obk b = some k → h ≤ k) : Dj (l ++ [b]) := fun i j x y hx hy hij k hk hk' => by
  have hx' := List.getElem?_append (l₁ := l) (l₂ := [b]) (i := i)
  have hy' := List.getElem?_append (l₁ := l) (l₂ := [b]) (i := j)
  rw [hx'] at hx
  rw [hy'] at hy
  split at hx
  · split at hy
    · exact hl i j x y hx hy hij k hk hk'
    · have := (List.getElem?_eq_some_iff.1 hy).1
      simp at this
      rw [show j - l.length = 0 by omega] at hy
      simp at hy
      subst hy
      have := h1 x (List.mem_of_getElem? hx) k hk
      have := h2 k hk'
      omega
  · have hz := (List.getElem?_eq_some_iff.1 hx).1
    simp at hz
    rw [show i - l.length = 0 by omega] at hx
    simp at hx
    subst hx
    split at hy
    · have := h1 y (List.mem_of_getElem? hy) k hk'
      have := h2 k hk
      omega
    · have hz2 := (List.getElem?_eq_some_iff.1 hy).1
      simp at hz2
      omega
theorem set_mid {α : Type} {D : List α} {l : List α} {i : Nat} {y : α} (hD : D.length = i) (hi : i < l.length) : (D ++ l.drop i).set i y = (D ++ [y]) ++ l.drop (i + 1) := by
  rw [List.set_append, if_neg (by omega), hD, Nat.sub_self, List.drop_eq_getElem_cons hi, List.set_cons_zero, List.append_assoc]
  rfl
theorem get_mid {α : Type} {D : List α} {l : List α} {i : Nat} (hD : D.length = i) : (D ++ l.drop i)[i]? = l[i]? := by
  rw [List.getElem?_append_right (by omega), List.getElem?_drop, hD]
  congr 1
  omega
theorem set_self {α : Type} {l : List α} {i : Nat} {x : α} (h : l[i]? = some x) : l.set i x = l := by
  apply List.ext_getElem?
  intro j
  rw [List.getElem?_set]
  split
  · rename_i e
    subst e
    rw [h]
    have := (List.getElem?_eq_some_iff.1 h).1
    simp [this]
  · rfl
theorem CpS.put {B gc g1 : Nat} {A2 A3 : Option Addr} {n1 n2 n3 c1 c2 c3 : Nat} {Q : List Pq} {C : List ChV} {T : List NdT} {w : World} (h : CpS B gc (some ⟨g1, 0, none⟩) A2 A3 n1 n2 n3 c1 c2 c3 Q C T w) {i k : Nat} {x y : Pq} {v : Value} (hx : Q[i]? = some x) (hk : k < 11) (hy : pcq y = (pcq x).set k v) :
    CpS B gc (some ⟨g1, 0, none⟩) A2 A3 n1 n2 n3 c1 c2 c3 (Q.set i y) C T (w.setCell ⟨g1, i * 11 + k, none⟩ v) :=
  ⟨h.cf.other _ _ (h.cf.ne' h.pp.own (by decide)), h.pp.put pcq_len hx hk hy, ⟨h.ch.len, h.ch.own.other _ _ (h.ch.own.ne' h.pp.own (by decide))⟩, ⟨h.tb.len, h.tb.own.other _ _ (h.tb.own.ne' h.pp.own (by decide))⟩⟩
theorem CpS.putT {B gc g3 : Nat} {A1 A2 : Option Addr} {n1 n2 n3 c1 c2 c3 : Nat} {Q : List Pq} {C : List ChV} {T : List NdT} {w : World} (h : CpS B gc A1 A2 (some ⟨g3, 0, none⟩) n1 n2 n3 c1 c2 c3 Q C T w) {i : Nat} {x y : NdT} {v : Value} (hx : T[i]? = some x) (hy : tcn y = (tcn x).set 0 v) :
    CpS B gc A1 A2 (some ⟨g3, 0, none⟩) n1 n2 n3 c1 c2 c3 Q C (T.set i y) (w.setCell ⟨g3, i, none⟩ v) := by
  have h1 := h.tb.put tcn_len hx (by omega) hy
  rw [Nat.mul_one, Nat.add_zero] at h1
  exact ⟨h.cf.other _ _ (h.cf.ne' h.tb.own (by decide)), ⟨h.pp.len, h.pp.own.other _ _ (h.pp.own.ne' h.tb.own (by decide))⟩, ⟨h.ch.len, h.ch.own.other _ _ (h.ch.own.ne' h.tb.own (by decide))⟩, h1⟩
theorem pcq_one (l : List Pq) : ∀ u ∈ l.flatMap pcq, u.oneCell' = true := by
  rw [pcq_map]
  exact pcl_one _
theorem tcn_one (l : List NdT) : ∀ u ∈ l.flatMap tcn, u.oneCell' = true := by
  intro u hu
  obtain ⟨x, _, hx⟩ := List.mem_flatMap.1 hu
  simp [tcn] at hx
  subst hx
  rfl
def CpV1 (B g0 : Nat) (A1 A2 A3 : Option Addr) (n1 n2 n3 c1 c2 c3 : Nat) (P : List Pq) (C : List ChV) (T : List NdT) (opn : Nat) (vl : Value) (wv : World) : Prop :=
  match opn with
  | 0 => vl = .pointer (some ⟨g0, 0, none⟩)
  | 1 => vl = .slice A1 n1 c1
  | 2 => ∃ (A' : Option Addr) (c' : Nat), vl = .slice A' n1 c' ∧ OwnV 39 11 wv B A' n1 c' (P.flatMap pcq)
  | 3 => vl = .pointer (some ⟨g0, 1, none⟩)
  | 4 => vl = .slice A2 n2 c2
  | 5 => ∃ (A' : Option Addr) (c' : Nat), vl = .slice A' n2 c' ∧ OwnV 47 6 wv B A' n2 c' (C.flatMap cc)
  | 6 => vl = .pointer (some ⟨g0, 2, none⟩)
  | 7 => vl = .slice A3 n3 c3
  | 8 => ∃ (A' : Option Addr) (c' : Nat), vl = .slice A' n3 c' ∧ OwnV 44 1 wv B A' n3 c' (T.flatMap tcn)
  | 9 => ∃ (B1 B2 B3 : Option Addr) (d1 d2 d3 : Nat), vl = .agg #[.slice B1 n1 d1, .slice B2 n2 d2, .slice B3 n3 d3] ∧ OwnV 39 11 wv B B1 n1 d1 (P.flatMap pcq) ∧ OwnV 47 6 wv B B2 n2 d2 (C.flatMap cc) ∧ OwnV 44 1 wv B B3 n3 d3 (T.flatMap tcn)
  | _ => True
structure CpW1 (B : Nat) (W0 : World) (n1 n2 n3 : Nat) (P : List Pq) (C : List ChV) (T : List NdT) (live : Nat → Bool) (a : Act) (w : World) : Prop where
  on : Below B W0 w
  un : live 10 = true → live 11 = false → ∃ g, a.eval (.tmp 3) = .pointer (some ⟨g, 0, none⟩) ∧ OwnV 27 3 w B (some ⟨g, 0, none⟩) 1 1 [.slice none 0 0, .slice none 0 0, .slice none 0 0]
  at_ : live 11 = true → ∃ (gc : Nat) (B1 B2 B3 : Option Addr) (d1 d2 d3 : Nat), a.eval (.tmp 3) = .pointer (some ⟨gc, 0, none⟩) ∧ CpS B gc B1 B2 B3 n1 n2 n3 d1 d2 d3 P C T w
section
variable {B g0 : Nat} {A1 A2 A3 : Option Addr} {n1 n2 n3 c1 c2 c3 : Nat} {P : List Pq} {C : List ChV} {T : List NdT} {w w' W0 : World} {live : Nat → Bool} {a : Act}
theorem CpV1.on {j : Nat} {v : Value} (h : CpV1 B g0 A1 A2 A3 n1 n2 n3 c1 c2 c3 P C T j v w) (hb : Below w.heap.size w w') : CpV1 B g0 A1 A2 A3 n1 n2 n3 c1 c2 c3 P C T j v w' := by
  unfold CpV1 at h ⊢
  split at h
  case h_3 => obtain ⟨A', c', h1, h2⟩ := h; exact ⟨A', c', h1, h2.below rfl hb⟩
  case h_6 => obtain ⟨A', c', h1, h2⟩ := h; exact ⟨A', c', h1, h2.below rfl hb⟩
  case h_9 => obtain ⟨A', c', h1, h2⟩ := h; exact ⟨A', c', h1, h2.below rfl hb⟩
  case h_10 => obtain ⟨B1, B2, B3, d1, d2, d3, h0, h1, h2, h3⟩ := h; exact ⟨B1, B2, B3, d1, d2, d3, h0, h1.below rfl hb, h2.below rfl hb, h3.below rfl hb⟩
  all_goals exact h
theorem CpV1.set {j g k : Nat} {v u : Value} {l : List Value} (h : CpV1 B g0 A1 A2 A3 n1 n2 n3 c1 c2 c3 P C T j v w) (hg : OwnV 27 3 w B (some ⟨g, 0, none⟩) 1 1 l) : CpV1 B g0 A1 A2 A3 n1 n2 n3 c1 c2 c3 P C T j v (w.setCell ⟨g, k, none⟩ u) := by
  unfold CpV1 at h ⊢
  split at h
  case h_3 => obtain ⟨A', c', h1, h2⟩ := h; exact ⟨A', c', h1, h2.other _ _ (h2.ne' hg (by decide))⟩
  case h_6 => obtain ⟨A', c', h1, h2⟩ := h; exact ⟨A', c', h1, h2.other _ _ (h2.ne' hg (by decide))⟩
  case h_9 => obtain ⟨A', c', h1, h2⟩ := h; exact ⟨A', c', h1, h2.other _ _ (h2.ne' hg (by decide))⟩
  case h_10 => obtain ⟨B1, B2, B3, d1, d2, d3, h0, h1, h2, h3⟩ := h; exact ⟨B1, B2, B3, d1, d2, d3, h0, h1.other _ _ (h1.ne' hg (by decide)), h2.other _ _ (h2.ne' hg (by decide)), h3.other _ _ (h3.ne' hg (by decide))⟩
  all_goals exact h
theorem CpW1.upd (h : CpW1 B W0 n1 n2 n3 P C T live a w) (i : Nat) (d : Tmp) (v : Value) (hi : i ≠ 10 ∧ i ≠ 11) (hd : d ≠ 3) : CpW1 B W0 n1 n2 n3 P C T (Rgs.upd live i) (a.put (some d) v) w := by
  have e1 : Rgs.upd live i 10 = live 10 := by unfold Rgs.upd; simp [Ne.symm hi.1]
  have e2 : Rgs.upd live i 11 = live 11 := by unfold Rgs.upd; simp [Ne.symm hi.2]
  refine ⟨h.on, fun h1 h2 => ?_, fun h1 => ?_⟩
  · rw [Reg.eval_other _ _ _ _ hd]
    exact h.un (e1 ▸ h1) (e2 ▸ h2)
  · rw [Reg.eval_other _ _ _ _ hd]
    exact h.at_ (e2 ▸ h1)
theorem CpW1.bel (h : CpW1 B W0 n1 n2 n3 P C T live a w) (hB : B ≤ W0.heap.size) (hb : Below w.heap.size w w') : CpW1 B W0 n1 n2 n3 P C T live a w' := by
  refine ⟨h.on.trans (hb.mono (Nat.le_trans hB h.on.size)), fun h1 h2 => ?_, fun h1 => ?_⟩
  · obtain ⟨g, e, ho⟩ := h.un h1 h2
    exact ⟨g, e, ho.below rfl hb⟩
  · obtain ⟨gc, B1, B2, B3, d1, d2, d3, e, ho⟩ := h.at_ h1
    exact ⟨gc, B1, B2, B3, d1, d2, d3, e, ho.on hb⟩
end
set_option maxRecDepth 100000 in
set_option maxHeartbeats 8000000 in
theorem ccopy_any (x : Cf) (w : World) (hx : CfR w x) : Calls Tryz.prog 5 #[cfv x] w (CpA x w) := by
  have HPT := Lib.hid hx.pt
  have HTT := Lib.hid hx.tt
  have HZ := Lib.hid hx.z
  have HPP := Lib.hid hx.pp
  have HCC := Lib.hid hx.ch
  have HTB := Lib.hid hx.tb
  have HR := Lib.hid hx
  obtain ⟨A1, A2, A3, n1, n2, n3, c1, c2, c3, P, C, T⟩ := x
  dsimp only [cfv] at HPT HTT HZ HPP HCC HTB ⊢
  obtain ⟨X, hX⟩ : ∃ X : Cf, X = ⟨A1, A2, A3, n1, n2, n3, c1, c2, c3, P, C, T⟩ := ⟨_, rfl⟩
  rw [← hX] at HR ⊢
  have HX := Lib.hid hX
  clear hX hx
  have hn1 : n1 ≤ 140737488351232 := by have h : n1 * 104 ≤ 140737488351232 := HZ.out.1; omega
  have hn3 : n3 ≤ 140737488351232 := by have h : n3 * 24 ≤ 140737488351232 := HZ.out.2.2.1; omega
  have HL1 : Hid (P.length = n1) := Lib.hid HPP.out.len
  have HL3 : Hid (T.length = n3) := Lib.hid HTB.out.len
  have hb0 := bl1 w (.cells #[.slice A1 n1 c1, .slice A2 n2 c2, .slice A3 n3 c3] 27)
  have hb1 := bl1 (w.alloc (.cells #[.slice A1 n1 c1, .slice A2 n2 c2, .slice A3 n3 c3] 27)) (.cells #[.slice none 0 0, .slice none 0 0, .slice none 0 0] 27)
  have hs1 : (w.alloc (.cells #[.slice A1 n1 c1, .slice A2 n2 c2, .slice A3 n3 c3] 27)).heap.size = w.heap.size + 1 := by simp
  have hbox := (box_vec w (.slice A1 n1 c1) (.slice A2 n2 c2) (.slice A3 n3 c3) 27).on hb1
  have hres := box_vec (w.alloc (.cells #[.slice A1 n1 c1, .slice A2 n2 c2, .slice A3 n3 c3] 27)) (.slice none 0 0) (.slice none 0 0) (.slice none 0 0) 27
  rw [hs1] at hres
  have HB0 := Lib.hid (hb0.trans (hb1.mono hb0.size))
  clear hb0 hb1 hs1
  go_enter Tryz.func5, Tryz.ntmps5
  go_upto_region 1 with fail
  generalize (w.alloc (.cells #[.slice A1 n1 c1, .slice A2 n2 c2, .slice A3 n3 c3] 27)).alloc (.cells #[.slice none 0 0, .slice none 0 0, .slice none 0 0] 27) = W0 at hbox hres HB0 ⊢
  obtain ⟨gr, hgr⟩ : ∃ gr, gr = w.heap.size + 1 := ⟨_, rfl⟩
  rw [← hgr] at hres ⊢
  obtain ⟨g0, hg0⟩ : ∃ g0, g0 = w.heap.size := ⟨_, rfl⟩
  rw [← hg0] at hbox ⊢
  have HGR := Lib.hid hgr
  have HG0 := Lib.hid hg0
  have HBX := Lib.hid hbox
  have HRS := Lib.hid hres
  obtain ⟨m0, m1, m2⟩ := hbox.three
  clear hgr hg0 hbox hres
  have HC1 := Lib.hid fun V (hv : Below W0.heap.size W0 V) => cpPart_any A1 n1 c1 (P.flatMap pcq) V ((HPP.out.on HB0.out).on hv).rd (by rw [flat_len pcq_len, HL1.out]) (pcq_one P) HZ.out.1
  have HC2 := Lib.hid fun V (hv : Below W0.heap.size W0 V) => cpChan_any A2 n2 c2 (C.flatMap cc) V ((HCC.out.on HB0.out).on hv).rd (by rw [flat_len cc_len, HCC.out.len]) (cc_one C) HZ.out.2.1
  have HC3 := Lib.hid fun V (hv : Below W0.heap.size W0 V) => cpRows_any A3 n3 c3 (T.flatMap tcn) V ((HTB.out.on HB0.out).on hv).rd (by rw [flat_len tcn_len, HL3.out]) (tcn_one T) HZ.out.2.2.1
  refine Rgs.region (by kernel_rfl) (by kernel_rfl) (CpV1 W0.heap.size g0 A1 A2 A3 n1 n2 n3 c1 c2 c3 P C T) (CpW1 W0.heap.size W0 n1 n2 n3 P C T) ⟨(Below.refl _ _).drew, (fun e => absurd e (by decide)), (fun e => absurd e (by decide))⟩ (Rgs.steps_of ?_) ?_
  · refine ⟨?_, ?_, ?_, ?_, ?_, ?_, ?_, ?_, ?_, ?_, ?_, ?_, trivial⟩
    · intro a w1 live S E D C' h0 hk hW
      have e1 : a.eval (.tmp 1) = .pointer (some ⟨g0, 0, none⟩) := E 1 rfl
      exact Rgs.val rfl (Reg.wanted_free rfl) (.pointer (some ⟨g0, 0, none⟩)) (by have c := Reg.consts a; generalize a.eval = ρ at *; simp [execOp, go_sem, c.1, c.2, e1]) rfl (hW.upd 0 8 _ (by decide) (by decide))
    · intro a w1 live S E D C' h0 hk hW
      have d0 : a.eval (.tmp 8) = .pointer (some ⟨g0, 0, none⟩) := D 0 rfl _ _ rfl rfl
      have hc := (hW.on.cell (p := ⟨g0, 0, none⟩) (World.block_lt_of_cell? _ _ m0)).trans m0
      exact Rgs.val rfl (Reg.wanted_free rfl) (.slice A1 n1 c1) (by have c := Reg.consts a; generalize a.eval = ρ at *; simp [execOp, go_sem, c.1, c.2, d0, hc]) rfl (hW.upd 1 9 _ (by decide) (by decide))
    · intro a w1 live S E D C' h0 hk hW
      have d1 : a.eval (.tmp 9) = .slice A1 n1 c1 := D 1 rfl _ _ rfl rfl
      refine Rgs.call rfl (Reg.wanted_free rfl) 12 #[.slice A1 n1 c1] (by have c := Reg.consts a; generalize a.eval = ρ at *; simp [execOp, go_sem, c.1, c.2, d1]) ?_
      refine (HC1.out w1 hW.on).mono ?_
      rintro e w5 ⟨A', c', rfl, ho, hb5⟩
      exact ⟨_, rfl, ⟨A', c', rfl, ho.weak hW.on.size⟩, (hW.bel (Nat.le_refl _) hb5).upd 2 10 _ (by decide) (by decide), fun j v _ h => h.on hb5⟩
    · intro a w1 live S E D C' h0 hk hW
      have e1 : a.eval (.tmp 1) = .pointer (some ⟨g0, 0, none⟩) := E 1 rfl
      exact Rgs.val rfl (Reg.wanted_free rfl) (.pointer (some ⟨g0, 1, none⟩)) (by have c := Reg.consts a; generalize a.eval = ρ at *; simp [execOp, go_sem, c.1, c.2, e1]) rfl (hW.upd 3 11 _ (by decide) (by decide))
    · intro a w1 live S E D C' h0 hk hW
      have d0 : a.eval (.tmp 11) = .pointer (some ⟨g0, 1, none⟩) := D 3 rfl _ _ rfl rfl
      have hc := (hW.on.cell (p := ⟨g0, 1, none⟩) (World.block_lt_of_cell? _ _ m1)).trans m1
      exact Rgs.val rfl (Reg.wanted_free rfl) (.slice A2 n2 c2) (by have c := Reg.consts a; generalize a.eval = ρ at *; simp [execOp, go_sem, c.1, c.2, d0, hc]) rfl (hW.upd 4 12 _ (by decide) (by decide))
    · intro a w1 live S E D C' h0 hk hW
      have d1 : a.eval (.tmp 12) = .slice A2 n2 c2 := D 4 rfl _ _ rfl rfl
      refine Rgs.call rfl (Reg.wanted_free rfl) 13 #[.slice A2 n2 c2] (by have c := Reg.consts a; generalize a.eval = ρ at *; simp [execOp, go_sem, c.1, c.2, d1]) ?_
      refine (HC2.out w1 hW.on).mono ?_
      rintro e w5 ⟨A', c', rfl, ho, hb5⟩
      exact ⟨_, rfl, ⟨A', c', rfl, ho.weak hW.on.size⟩, (hW.bel (Nat.le_refl _) hb5).upd 5 13 _ (by decide) (by decide), fun j v _ h => h.on hb5⟩
    · intro a w1 live S E D C' h0 hk hW
      have e1 : a.eval (.tmp 1) = .pointer (some ⟨g0, 0, none⟩) := E 1 rfl
      exact Rgs.val rfl (Reg.wanted_free rfl) (.pointer (some ⟨g0, 2, none⟩)) (by have c := Reg.consts a; generalize a.eval = ρ at *; simp [execOp, go_sem, c.1, c.2, e1]) rfl (hW.upd 6 14 _ (by decide) (by decide))
    · intro a w1 live S E D C' h0 hk hW
      have d0 : a.eval (.tmp 14) = .pointer (some ⟨g0, 2, none⟩) := D 6 rfl _ _ rfl rfl
      have hc := (hW.on.cell (p := ⟨g0, 2, none⟩) (World.block_lt_of_cell? _ _ m2)).trans m2
      exact Rgs.val rfl (Reg.wanted_free rfl) (.slice A3 n3 c3) (by have c := Reg.consts a; generalize a.eval = ρ at *; simp [execOp, go_sem, c.1, c.2, d0, hc]) rfl (hW.upd 7 15 _ (by decide) (by decide))
    · intro a w1 live S E D C' h0 hk hW
      have d1 : a.eval (.tmp 15) = .slice A3 n3 c3 := D 7 rfl _ _ rfl rfl
      refine Rgs.call rfl (Reg.wanted_free rfl) 14 #[.slice A3 n3 c3] (by have c := Reg.consts a; generalize a.eval = ρ at *; simp [execOp, go_sem, c.1, c.2, d1]) ?_
      refine (HC3.out w1 hW.on).mono ?_
      rintro e w5 ⟨A', c', rfl, ho, hb5⟩
      exact ⟨_, rfl, ⟨A', c', rfl, ho.weak hW.on.size⟩, (hW.bel (Nat.le_refl _) hb5).upd 8 16 _ (by decide) (by decide), fun j v _ h => h.on hb5⟩
    · intro a w1 live S E D C' h0 hk hW
      obtain ⟨B1, d1, q1, ho1⟩ := D 2 rfl _ _ rfl rfl
      obtain ⟨B2, d2, q2, ho2⟩ := D 5 rfl _ _ rfl rfl
      obtain ⟨B3, d3, q3, ho3⟩ := D 8 rfl _ _ rfl rfl
      have hbd : Tryz.prog.built 27 [(0, .slice B1 n1 d1), (1, .slice B2 n2 d2), (2, .slice B3 n3 d3)] = some #[.slice B1 n1 d1, .slice B2 n2 d2, .slice B3 n3 d3] := by rfl
      exact Rgs.val rfl (Reg.wanted_free rfl) (.agg #[.slice B1 n1 d1, .slice B2 n2 d2, .slice B3 n3 d3]) (by have c := Reg.consts a; generalize a.eval = ρ at *; simp [execOp, go_sem, c.1, c.2, q1, q2, q3, hbd]) ⟨B1, B2, B3, d1, d2, d3, rfl, ho1, ho2, ho3⟩ (hW.upd 9 17 _ (by decide) (by decide))
    · intro a w1 live S E D C' h0 hk hW
      have l11 := Reg.not_live C' h0 (j := 11) rfl rfl
      have hb1 := bl1 w1 (.cells #[.slice none 0 0, .slice none 0 0, .slice none 0 0] 27)
      have hWb := hW.bel (Nat.le_refl _) hb1
      refine Rgs.grow rfl (Reg.wanted_free rfl) (.pointer (some ⟨w1.heap.size, 0, none⟩)) (w1.alloc (.cells #[.slice none 0 0, .slice none 0 0, .slice none 0 0] 27)) (by have c := Reg.consts a; generalize a.eval = ρ at *; simp [execOp, go_sem, c.1, c.2, go_sem]) trivial ⟨hWb.on, fun _ _ => ⟨w1.heap.size, Reg.eval_same _ _ _ (by rw [S]; exact (by decide : 3 < 59)), ownV_lit w1 27 3 W0.heap.size #[.slice none 0 0, .slice none 0 0, .slice none 0 0] 1 rfl hW.on.size (by unfold maxLen; omega)⟩, fun e => ?_⟩ (fun j v _ h => h.on hb1)
      have e : (11 == 10 || live 11) = true := e
      rw [l11] at e
      cases e
    · intro a w1 live S E D C' h0 hk hW
      obtain ⟨B1, B2, B3, d1, d2, d3, q9, ho1, ho2, ho3⟩ := D 9 rfl _ _ rfl rfl
      obtain ⟨g, q10, ho⟩ := hW.un (hk 10 rfl) h0
      have z0 : w1.cell? ⟨g, 0, none⟩ = some (.slice none 0 0) := World.ownsRow.cellAt ho 0 (by omega)
      have z1 : w1.cell? ⟨g, 1, none⟩ = some (.slice none 0 0) := World.ownsRow.cellAt ho 1 (by omega)
      have z2 : w1.cell? ⟨g, 2, none⟩ = some (.slice none 0 0) := World.ownsRow.cellAt ho 2 (by omega)
      have f0 := World.ownsRow.frozenAt ho 0
      have f1 := World.ownsRow.frozenAt ho 1
      have f2 := World.ownsRow.frozenAt ho 2
      have hgB := (ho.obk_ge (b := g) rfl).1
      have s1 := ho.set 0 (.slice B1 n1 d1) (by show 0 < 3; omega)
      have s2 := s1.set 1 (.slice B2 n2 d2) (by show 1 < 3; omega)
      have s3 := s2.set 2 (.slice B3 n3 d3) (by show 2 < 3; omega)
      have hbl : Below W0.heap.size W0 (((w1.setCell ⟨g, 0, none⟩ (.slice B1 n1 d1)).setCell ⟨g, 1, none⟩ (.slice B2 n2 d2)).setCell ⟨g, 2, none⟩ (.slice B3 n3 d3)) := ((hW.on.setCell (p := ⟨g, 0, none⟩) hgB _).setCell (p := ⟨g, 1, none⟩) hgB _).setCell (p := ⟨g, 2, none⟩) hgB _
      have p1 : OwnV 39 11 (((w1.setCell ⟨g, 0, none⟩ (.slice B1 n1 d1)).setCell ⟨g, 1, none⟩ (.slice B2 n2 d2)).setCell ⟨g, 2, none⟩ (.slice B3 n3 d3)) W0.heap.size B1 n1 d1 (P.flatMap pcq) := ((ho1.other _ _ (ho1.ne' ho (by decide))).other _ _ (ho1.ne' ho (by decide))).other _ _ (ho1.ne' ho (by decide))
      have p2 : OwnV 47 6 (((w1.setCell ⟨g, 0, none⟩ (.slice B1 n1 d1)).setCell ⟨g, 1, none⟩ (.slice B2 n2 d2)).setCell ⟨g, 2, none⟩ (.slice B3 n3 d3)) W0.heap.size B2 n2 d2 (C.flatMap cc) := ((ho2.other _ _ (ho2.ne' ho (by decide))).other _ _ (ho2.ne' ho (by decide))).other _ _ (ho2.ne' ho (by decide))
      have p3 : OwnV 44 1 (((w1.setCell ⟨g, 0, none⟩ (.slice B1 n1 d1)).setCell ⟨g, 1, none⟩ (.slice B2 n2 d2)).setCell ⟨g, 2, none⟩ (.slice B3 n3 d3)) W0.heap.size B3 n3 d3 (T.flatMap tcn) := ((ho3.other _ _ (ho3.ne' ho (by decide))).other _ _ (ho3.ne' ho (by decide))).other _ _ (ho3.ne' ho (by decide))
      refine Rgs.store rfl (Reg.wanted_free rfl) _ ?_ trivial ⟨hbl, fun _ e => absurd e (by rw [Rgs.upd_self]; decide), fun _ => ⟨g, B1, B2, B3, d1, d2, d3, q10, s3, ⟨HL1.out, p1⟩, ⟨HCC.out.len, p2⟩, ⟨HL3.out, p3⟩⟩⟩ ?_
      · have c := Reg.consts a
        generalize a.eval = ρ at *
        simp [execOp, go_sem, c.1, c.2, q9, q10, z0, z1, z2, f0, f1, f2]
      · intro j v hj h
        exact ((h.set ho).set s1).set s2
  · intro a w3 live hs hd E D Hl hW
    obtain ⟨gc, B1, B2, B3, d1, d2, d3, ea, hS⟩ := hW.at_ (Hl 11 (by decide))
    rw [Rgs.act_ws a _ _ hs hd E [8, 9, 10, 11, 12, 13, 14, 15, 16, 17, 3] (by kernel_rfl)]
    simp only [List.foldl, List.setIfInBounds_toArray, List.set_cons_succ, List.set_cons_zero, ea]
    have HS := Lib.hid hS
    have HO := Lib.hid hW.on
    clear E D Hl hW ea hS m0 m1 m2 HC1 HC2 HC3
    generalize a.eval = ρ
    clear a hs hd
    obtain ⟨m0, m1, m2⟩ := HS.out.cells
    go_wp2_with fail
    have HD0 : Hid (Dj ([] : List (Option Addr))) := Lib.hid fun i j a b h => by cases h
    go_loopw [4, 5, 21] (fun _ _ s wx => ∃ (i : Nat) (D : List Pq), i ≤ n1 ∧ s = .int .i64 i ∧ D.length = i ∧ CpS W0.heap.size gc B1 B2 B3 n1 n2 n3 d1 d2 d3 (D ++ P.drop i) C T wx ∧ (∀ y ∈ D, OwnV 41 2 wx W0.heap.size y.1.pa y.1.pn y.1.pc (y.2.flatMap prc)) ∧ (∀ (j : Nat) (a b : Pq), P[j]? = some a → D[j]? = some b → SameP b a ∧ b.1.pn = a.1.pn) ∧ Dj (D.map fun y => y.1.pa) ∧ Below W0.heap.size W0 wx) (fun _ _ s _ => n1 - (intOf s).toNat)
    case atStart => exact ⟨0, [], by omega, rfl, rfl, HS.out, (fun y hy => by cases hy), (fun j a b _ hb => by cases hb), HD0.out, HO.out⟩
    case round =>
      obtain ⟨i, D, hi, rfl, hDl, hS, hpo, hsm, hdj, hb⟩ := hrel
      have HPO := Lib.hid hpo
      have HSM := Lib.hid hsm
      have HDJ := Lib.hid hdj
      have HDL := Lib.hid hDl
      have HB := Lib.hid hb
      clear hpo hsm hdj hDl hb HS HO HD0 m0 m1 m2
      by_cases hlt : i < n1
      · obtain ⟨ad, x, rfl, had, hx, c0, ck⟩ := hS.pp.rdb.at_ pcq_len (by omega) hlt
        rw [get_mid HDL.out] at hx
        obtain ⟨g1, e1, hBg, hg1⟩ := hS.pp.block (by omega)
        injection e1 with e1
        subst e1
        have ek : ∀ k v, k < 11 → (pcq x)[k]? = some v → wr.cell? ⟨g1, i * 11 + k, none⟩ = some v ∧ wr.frozen? ⟨g1, i * 11 + k, none⟩ = false := fun k v hk hv => hS.pp.cell pcq_len (by rw [get_mid HDL.out]; exact hx) hk hv
        have hin := HPT.out x (List.mem_of_getElem? hx)
        have HIN := Lib.hid hin
        have HPZ := Lib.hid (HZ.out.2.2.2.1 x (List.mem_of_getElem? hx))
        have HXI := Lib.hid hx
        have HSI := Lib.hid hS
        have HG1 := Lib.hid hg1
        have HEK := Lib.hid ek
        have HBX : Hid (Below w.heap.size w wr) := Lib.hid (HB0.out.trans (HB.out.mono HB0.out.size))
        obtain ⟨Xq, hXq⟩ : ∃ Xq : Pq, Xq = x := ⟨_, rfl⟩
        rw [← hXq] at HIN HPZ HXI HEK
        have HXQ := Lib.hid hXq
        obtain ⟨⟨nm, bu, pe, sc, st, pa, pn, pc, h0, h1, h2, h3, h4⟩, L⟩ := x
        have f0 : wr.cell? ⟨g1, i * 11, none⟩ = some (.string nm) := (ek 0 _ (by omega) rfl).1
        have f1 : wr.cell? ⟨g1, i * 11 + 1, none⟩ = some (.int .i64 bu) := (ek 1 _ (by omega) rfl).1
        have f2 : wr.cell? ⟨g1, i * 11 + 2, none⟩ = some (.int .i64 pe) := (ek 2 _ (by omega) rfl).1
        have f3 : wr.cell? ⟨g1, i * 11 + 3, none⟩ = some (.bool sc) := (ek 3 _ (by omega) rfl).1
        have f4 : wr.cell? ⟨g1, i * 11 + 4, none⟩ = some (.bool st) := (ek 4 _ (by omega) rfl).1
        have f5 : wr.cell? ⟨g1, i * 11 + 5, none⟩ = some (.slice pa pn pc) := (ek 5 _ (by omega) rfl).1
        have f6 : wr.cell? ⟨g1, i * 11 + 6, none⟩ = some (.int .i64 h0) := (ek 6 _ (by omega) rfl).1
        have f7 : wr.cell? ⟨g1, i * 11 + 7, none⟩ = some (.int .i64 h1) := (ek 7 _ (by omega) rfl).1
        have f8 : wr.cell? ⟨g1, i * 11 + 8, none⟩ = some (.int .i64 h2) := (ek 8 _ (by omega) rfl).1
        have f9 : wr.cell? ⟨g1, i * 11 + 9, none⟩ = some (.int .i64 h3) := (ek 9 _ (by omega) rfl).1
        have f10 : wr.cell? ⟨g1, i * 11 + 10, none⟩ = some (.int .i64 h4) := (ek 10 _ (by omega) rfl).1
        have hbx := bl1 wr (.cells #[.string nm, .int .i64 bu, .int .i64 pe, .bool sc, .bool st, .slice pa pn pc, .int .i64 h0, .int .i64 h1, .int .i64 h2, .int .i64 h3, .int .i64 h4] 39)
        have HGX : Hid (∀ o v, (#[Value.string nm, .int .i64 bu, .int .i64 pe, .bool sc, .bool st, .slice pa pn pc, .int .i64 h0, .int .i64 h1, .int .i64 h2, .int .i64 h3, .int .i64 h4] : Array Value)[o]? = some v → (wr.alloc (.cells #[.string nm, .int .i64 bu, .int .i64 pe, .bool sc, .bool st, .slice pa pn pc, .int .i64 h0, .int .i64 h1, .int .i64 h2, .int .i64 h3, .int .i64 h4] 39)).cell? ⟨wr.heap.size, o, none⟩ = some v) := Lib.hid fun o v hv => (World.cell?_alloc_mark _ _ _ _ _).trans hv
        have hgxs : wr.heap.size < (wr.alloc (.cells #[.string nm, .int .i64 bu, .int .i64 pe, .bool sc, .bool st, .slice pa pn pc, .int .i64 h0, .int .i64 h1, .int .i64 h2, .int .i64 h3, .int .i64 h4] 39)).heap.size := by simp
        have HBA := Lib.hid hbx
        have ead := mk_add g1 (i * 11)
        clear ek hx hXq hin hS c0 ck hbx had
        go_upto_region 5 with fail
        have HBA : Hid (Below wr.heap.size wr (wr.alloc (.cells #[.string nm, .int .i64 bu, .int .i64 pe, .bool sc, .bool st, .slice pa pn pc, .int .i64 h0, .int .i64 h1, .int .i64 h2, .int .i64 h3, .int .i64 h4] 39))) := HBA
        generalize wr.alloc (.cells #[.string nm, .int .i64 bu, .int .i64 pe, .bool sc, .bool st, .slice pa pn pc, .int .i64 h0, .int .i64 h1, .int .i64 h2, .int .i64 h3, .int .i64 h4] 39) = W5 at HGX HBA hgxs ⊢
        obtain ⟨gx, hgx⟩ : ∃ gx, gx = wr.heap.size := ⟨_, rfl⟩
        rw [← hgx] at HGX hgxs ⊢
        have HGE := Lib.hid hgx
        have HGXS := Lib.hid hgxs
        clear hgx hgxs f0 f1 f2 f3 f4 f5 f6 f7 f8 f9 f10
        have HS5 := Lib.hid (HSI.out.on HBA.out)
        have HCL := Lib.hid fun V (hv : Below W5.heap.size W5 V) => (HS5.out.on hv).cells
        have HTG := Lib.hid fun V (hv : Below W5.heap.size W5 V) => (HS5.out.on hv).pp.cell pcq_len (i := i) (k := 0) (by rw [get_mid HDL.out]; exact HXI.out) (by omega) rfl
        have HNC : Hid (∀ V, Below W5.heap.size W5 V → Calls Tryz.prog 15 #[.string nm] V (fun e w6 => e = .returned (.string nm) ∧ Below W5.heap.size W5 w6 ∧ w6.cell? ⟨gc, 0, none⟩ = some (.slice (some ⟨g1, 0, none⟩) n1 d1) ∧ w6.cell? ⟨g1, i * 11, none⟩ = some (.string nm) ∧ w6.frozen? ⟨g1, i * 11, none⟩ = false)) := Lib.hid fun V hv => (sclone2_any nm V (by have := HIN.out.1.name; rw [HXQ.out] at this; exact this)).mono fun e w6 ⟨he, hb6⟩ => by
          have h6 := hv.trans (hb6.mono hv.size)
          have ht := HTG.out w6 h6
          rw [HXQ.out] at ht
          exact ⟨he, h6, (HCL.out w6 h6).1, ht.1, ht.2⟩
        obtain ⟨m0, m1, m2⟩ := HCL.out W5 (Below.refl _ _)
        have f0 := HGX.out 0 _ rfl
        have hc1 : W5.cell? ⟨g1, i * 11, none⟩ = some (.string nm) := by have := (HTG.out W5 (Below.refl _ _)).1; rw [HXQ.out] at this; exact this
        have hlt' : (i : Int) < (n1 : Int) := by omega
        go_region_with (go_at_call 15; refine (HNC.out _ (by first | exact Below.refl _ _ | exact (Below.refl _ _).drew | exact Below.drewN (Below.refl _ _) _)).mono ?_; rintro e w6 ⟨rfl, hb6, v0, v1, v2⟩)
        all_goals
          have HS6 : Hid (CpS W0.heap.size gc (some ⟨g1, 0, none⟩) B2 B3 n1 n2 n3 d1 d2 d3 (D ++ P.drop i) C T (w6.setCell ⟨g1, i * 11, none⟩ (.string nm))) := Lib.hid (by
            have h := (HS5.out.on hb6).put (i := i) (k := 0) (y := Xq) (v := .string nm) (by rw [get_mid HDL.out]; exact HXI.out) (by omega) (by rw [HXQ.out]; rfl)
            rw [set_self (by rw [get_mid HDL.out]; exact HXI.out)] at h
            exact h)
          have HB6 := Lib.hid hb6
          have hgg : w.heap.size ≤ g1 := Nat.le_trans HB0.out.size hBg
          have HBW : Hid (Below w.heap.size w (w6.setCell ⟨g1, i * 11, none⟩ (.string nm))) := Lib.hid (((HBX.out.trans (HBA.out.mono HBX.out.size)).trans (hb6.mono (Nat.le_trans HBX.out.size HBA.out.size))).setCell (p := ⟨g1, i * 11, none⟩) hgg _)
          have HBV : Hid (Below W0.heap.size W0 (w6.setCell ⟨g1, i * 11, none⟩ (.string nm))) := Lib.hid (((HB.out.trans (HBA.out.mono HB.out.size)).trans (hb6.mono (Nat.le_trans HB.out.size HBA.out.size))).setCell (p := ⟨g1, i * 11, none⟩) hBg _)
          have HPO6 : Hid (∀ y ∈ D, OwnV 41 2 (w6.setCell ⟨g1, i * 11, none⟩ (.string nm)) W0.heap.size y.1.pa y.1.pn y.1.pc (y.2.flatMap prc)) := Lib.hid fun y hy => by
            have h := ((HPO.out y hy).below rfl HBA.out).below rfl HB6.out
            exact h.other _ _ (h.ne' (HS5.out.on HB6.out).pp.own (by decide))
          have hgne : gx ≠ g1 := by have := HG1.out; have := HGE.out; omega
          have HX6 : Hid ((w6.setCell ⟨g1, i * 11, none⟩ (.string nm)).cell? ⟨gx, 5, none⟩ = some (.slice pa pn pc)) := Lib.hid ((World.cell?_of_block (a := ⟨gx, 5, none⟩) (Below.heap_setCell w6 ⟨g1, i * 11, none⟩ _ gx hgne)).trans ((HB6.out.cell (p := ⟨gx, 5, none⟩) HGXS.out).trans (HGX.out 5 _ rfl)))
          have hgx6 : gx < (w6.setCell ⟨g1, i * 11, none⟩ (.string nm)).heap.size := by simp; exact Nat.lt_of_lt_of_le HGXS.out HB6.out.size
          clear hb6 v0 v1 v2 f0 hc1 hgne HS5 HCL HTG HNC HGX
          go_upto_region 6 with fail
          generalize w6.setCell ⟨g1, i * 11, none⟩ (.string nm) = W6 at HS6 HBW HBV HPO6 HX6 hgx6 ⊢
          have HCL := Lib.hid fun V (hv : Below W6.heap.size W6 V) => (HS6.out.on hv).cells
          have HTG := Lib.hid fun V (hv : Below W6.heap.size W6 V) => (HS6.out.on hv).pp.cell pcq_len (i := i) (k := 5) (by rw [get_mid HDL.out]; exact HXI.out) (by omega) rfl
          have HPC : Hid (∀ V, Below W6.heap.size W6 V → Calls Tryz.prog 16 #[.slice pa pn pc] V (fun e w7 => ∃ (A' : Option Addr) (c' : Nat), e = .returned (.slice A' (pn : Nat) c') ∧ w7.cell? ⟨gc, 0, none⟩ = some (.slice (some ⟨g1, 0, none⟩) n1 d1) ∧ w7.cell? ⟨g1, i * 11 + 5, none⟩ = some (.slice pa pn pc) ∧ w7.frozen? ⟨g1, i * 11 + 5, none⟩ = false ∧
              ∃ (D' : List Pq) (wz : World), wz = w7.setCell ⟨g1, i * 11 + 5, none⟩ (.slice A' (pn : Nat) c') ∧ D'.length = i + 1 ∧ CpS W0.heap.size gc (some ⟨g1, 0, none⟩) B2 B3 n1 n2 n3 d1 d2 d3 (D' ++ P.drop (i + 1)) C T wz ∧ (∀ y ∈ D', OwnV 41 2 wz W0.heap.size y.1.pa y.1.pn y.1.pc (y.2.flatMap prc)) ∧ (∀ (j : Nat) (a b : Pq), P[j]? = some a → D'[j]? = some b → SameP b a ∧ b.1.pn = a.1.pn) ∧ Dj (D'.map fun y => y.1.pa) ∧ Below W0.heap.size W0 wz)) := Lib.hid fun V hv => by
            have hin := HIN.out
            have hpz := HPZ.out
            have hxi := HXI.out
            rw [HXQ.out] at hin hpz hxi
            have hrd := (hin.1.procs.on HBW.out).on hv
            refine (cpProc_any pa pn pc (L.flatMap prc) V hrd.rd (by rw [flat_len prc_len]; rw [show L.length = pn from hin.1.procs.len]) (prc_one L) hpz).mono ?_
            rintro e w7 ⟨A', c', rfl, ho, hb7⟩
            have h7 := hv.trans (hb7.mono hv.size)
            have ht := HTG.out w7 h7
            rw [HXQ.out] at ht
            refine ⟨A', c', rfl, (HCL.out w7 h7).1, ht.1, ht.2, D ++ [(⟨nm, bu, pe, sc, st, A', pn, c', h0, h1, h2, h3, h4⟩, L)], _, rfl, by rw [List.length_append, HDL.out]; rfl, ?_, ?_, ?_, ?_, ?_⟩
            · have h := (HS6.out.on h7).put (i := i) (k := 5) (x := (⟨nm, bu, pe, sc, st, pa, pn, pc, h0, h1, h2, h3, h4⟩, L)) (y := (⟨nm, bu, pe, sc, st, A', pn, c', h0, h1, h2, h3, h4⟩, L)) (v := .slice A' (pn : Nat) c') (by rw [get_mid HDL.out]; exact hxi) (by omega) rfl
              rw [set_mid HDL.out (by rw [HL1.out]; exact hlt)] at h
              exact h
            · intro y hy
              have hpp := (HS6.out.on h7).pp.own
              rcases List.mem_append.1 hy with hy | hy
              · have h := (HPO6.out y hy).below rfl h7
                exact h.other _ _ (h.ne' hpp (by decide))
              · obtain rfl : y = (⟨nm, bu, pe, sc, st, A', pn, c', h0, h1, h2, h3, h4⟩, L) := by simpa using hy
                have h := ho.weak (Nat.le_trans HBV.out.size hv.size)
                exact h.other _ _ (h.ne' hpp (by decide))
            · intro j a b ha hb
              rw [List.getElem?_append] at hb
              split at hb
              · exact HSM.out j a b ha hb
              · have hz := (List.getElem?_eq_some_iff.1 hb).1
                simp at hz
                have hdl := HDL.out
                obtain rfl : j = i := by omega
                rw [show j - D.length = 0 by omega] at hb
                simp at hb
                subst hb
                rw [hxi] at ha
                injection ha with ha
                subst ha
                exact ⟨⟨rfl, rfl, rfl, rfl, rfl, ⟨rfl, rfl, rfl, rfl, rfl⟩, rfl⟩, rfl⟩
            · rw [List.map_append]
              refine HDJ.out.more (h := V.heap.size) (fun a ha k hk => ?_) (fun k hk => (ho.obk_ge hk).1)
              obtain ⟨y, hy, rfl⟩ := List.mem_map.1 ha
              exact Nat.lt_of_lt_of_le ((HPO6.out y hy).obk_ge hk).2 hv.size
            · exact (HBV.out.trans (h7.mono HBV.out.size)).setCell (p := ⟨g1, i * 11 + 5, none⟩) hBg _
          obtain ⟨m0, m1, m2⟩ := HCL.out W6 (Below.refl _ _)
          have f5 := HX6.out
          go_region_with (go_at_call 16; refine (HPC.out _ (by first | exact Below.refl _ _ | exact (Below.refl _ _).drew | exact Below.drewN (Below.refl _ _) _)).mono ?_; rintro e w7 ⟨A', c', rfl, v0, v1, v2, D', wz, hwz, hrl⟩)
          all_goals
            have HRL := Lib.hid hrl
            have HWZ := Lib.hid hwz
            clear hrl hwz HPC HTG HCL f5 HX6 HPO6 HBV HBW HS6
            try rw [← HWZ.out]
            clear v0 v1 v2 m0 m1 m2
            go_wp2_with fail
            go_roundw
            case rel =>
              obtain ⟨r1, r2, r3, r4, r5, r6⟩ := HRL.out
              exact ⟨i + 1, D', by omega, by go_num, r1, r2, r3, r4, r5, r6⟩
            case measure => simp [intOf]; omega
      · have hge : n1 ≤ i := by omega
        have hDr : D ++ P.drop i = D := by rw [List.drop_eq_nil_of_le (by rw [HL1.out]; exact hge), List.append_nil]
        rw [hDr] at hS
        have HS := Lib.hid hS
        have HDN : Hid (D.length = n1) := Lib.hid (by rw [HDL.out]; omega)
        obtain ⟨m0, m1, m2⟩ := HS.out.cells
        clear hS hDr HDL
        go_wp2_with fail
        have HG0 : Hid (Dj ([] : List (Option Addr))) := Lib.hid fun i j a b h => by cases h
        go_loopw [6, 7, 46] (fun _ _ s wx => ∃ (j : Nat) (G : List NdT), j ≤ n3 ∧ s = .int .i64 j ∧ G.length = j ∧ CpS W0.heap.size gc B1 B2 B3 n1 n2 n3 d1 d2 d3 D C (G ++ T.drop j) wx ∧ (∀ y ∈ D, OwnV 41 2 wx W0.heap.size y.1.pa y.1.pn y.1.pc (y.2.flatMap prc)) ∧ (∀ y ∈ G, OwnV 43 3 wx W0.heap.size y.A y.n y.c (ns y.l)) ∧ (∀ (k : Nat) (a b : NdT), T[k]? = some a → G[k]? = some b → b.l = a.l ∧ b.n = a.n) ∧ Dj (G.map NdT.A) ∧ Below W0.heap.size W0 wx) (fun _ _ s _ => n3 - (intOf s).toNat)
        case atStart => exact ⟨0, [], by omega, rfl, rfl, HS.out, HPO.out, (fun y hy => by cases hy), (fun j a b _ hb => by cases hb), HG0.out, HB.out⟩
        case round =>
          obtain ⟨j, G, hj, rfl, hGl, hS, hpo, hto, htm, hdj, hb⟩ := hrel
          have HPO := Lib.hid hpo
          have HTO := Lib.hid hto
          have HTM := Lib.hid htm
          have HDG := Lib.hid hdj
          have HGL := Lib.hid hGl
          have HB := Lib.hid hb
          clear hpo hto htm hdj hGl hb HS HG0 m0 m1 m2
          by_cases hlt : j < n3
          · obtain ⟨ad, x, rfl, had, hx, c0, _⟩ := hS.tb.rdb.at_ tcn_len (by omega) hlt
            rw [get_mid HGL.out] at hx
            obtain ⟨g3, e1, hBg, hg3⟩ := hS.tb.block (by omega)
            injection e1 with e1
            subst e1
            have c0 : wr.cell? ⟨g3, j, none⟩ = some (.slice x.A x.n x.c) := by
              have h := (hS.tb.cell tcn_len (i := j) (k := 0) (by rw [get_mid HGL.out]; exact hx) (by omega) rfl).1
              rw [Nat.mul_one] at h
              exact h
            have HIN := Lib.hid (HTT.out x (List.mem_of_getElem? hx))
            have HPZ := Lib.hid (HZ.out.2.2.2.2 x (List.mem_of_getElem? hx))
            have HXI := Lib.hid hx
            have HSI := Lib.hid hS
            have HBX : Hid (Below w.heap.size w wr) := Lib.hid (HB0.out.trans (HB.out.mono HB0.out.size))
            have hgg : w.heap.size ≤ g3 := Nat.le_trans HB0.out.size hBg
            have HCL := Lib.hid fun V (hv : Below wr.heap.size wr V) => (HSI.out.on hv).cells
            have HTG := Lib.hid fun V (hv : Below wr.heap.size wr V) => (HSI.out.on hv).tb.cell tcn_len (i := j) (k := 0) (by rw [get_mid HGL.out]; exact HXI.out) (by omega) rfl
            obtain ⟨A, n, c, l⟩ := x
            dsimp only at c0
            have HPC : Hid (∀ V, Below wr.heap.size wr V → Calls Tryz.prog 17 #[.slice A n c] V (fun e w7 => ∃ (A' : Option Addr) (c' : Nat), e = .returned (.slice A' (n : Nat) c') ∧ w7.cell? ⟨gc, 2, none⟩ = some (.slice (some ⟨g3, 0, none⟩) n3 d3) ∧ w7.cell? ⟨g3, j, none⟩ = some (.slice A n c) ∧ w7.frozen? ⟨g3, j, none⟩ = false ∧
                ∃ (G' : List NdT) (wz : World), wz = w7.setCell ⟨g3, j, none⟩ (.slice A' (n : Nat) c') ∧ G'.length = j + 1 ∧ CpS W0.heap.size gc B1 B2 (some ⟨g3, 0, none⟩) n1 n2 n3 d1 d2 d3 D C (G' ++ T.drop (j + 1)) wz ∧ (∀ y ∈ D, OwnV 41 2 wz W0.heap.size y.1.pa y.1.pn y.1.pc (y.2.flatMap prc)) ∧ (∀ y ∈ G', OwnV 43 3 wz W0.heap.size y.A y.n y.c (ns y.l)) ∧ (∀ (k : Nat) (a b : NdT), T[k]? = some a → G'[k]? = some b → b.l = a.l ∧ b.n = a.n) ∧ Dj (G'.map NdT.A) ∧ Below W0.heap.size W0 wz)) := Lib.hid fun V hv => by
              have hrd := (HIN.out.rd.on HBX.out).on hv
              refine (cpNode_any A n c (ns l) V hrd.rd (by rw [ns_length, show l.length = n from HIN.out.rd.len]) (ns_one l) HPZ.out).mono ?_
              rintro e w7 ⟨A', c', rfl, ho, hb7⟩
              have h7 := hv.trans (hb7.mono hv.size)
              have ht := HTG.out w7 h7
              rw [Nat.mul_one] at ht
              refine ⟨A', c', rfl, (HCL.out w7 h7).2.2, ht.1, ht.2, G ++ [⟨A', n, c', l⟩], _, rfl, by rw [List.length_append, HGL.out]; rfl, ?_, ?_, ?_, ?_, ?_, ?_⟩
              · have h := (HSI.out.on h7).putT (i := j) (x := ⟨A, n, c, l⟩) (y := ⟨A', n, c', l⟩) (v := .slice A' (n : Nat) c') (by rw [get_mid HGL.out]; exact HXI.out) rfl
                rw [set_mid HGL.out (by rw [HL3.out]; exact hlt)] at h
                exact h
              · intro y hy
                have h := (HPO.out y hy).below rfl h7
                exact h.other _ _ (h.ne' (HSI.out.on h7).tb.own (by decide))
              · intro y hy
                have htb := (HSI.out.on h7).tb.own
                rcases List.mem_append.1 hy with hy | hy
                · have h := (HTO.out y hy).below rfl h7
                  exact h.other _ _ (h.ne' htb (by decide))
                · obtain rfl : y = ⟨A', n, c', l⟩ := by simpa using hy
                  have h := ho.weak (Nat.le_trans HB.out.size hv.size)
                  exact h.other _ _ (h.ne' htb (by decide))
              · intro k a b ha hb
                rw [List.getElem?_append] at hb
                split at hb
                · exact HTM.out k a b ha hb
                · have hz := (List.getElem?_eq_some_iff.1 hb).1
                  simp at hz
                  have hgl := HGL.out
                  obtain rfl : k = j := by omega
                  rw [show k - G.length = 0 by omega] at hb
                  simp at hb
                  subst hb
                  rw [HXI.out] at ha
                  injection ha with ha
                  subst ha
                  exact ⟨rfl, rfl⟩
              · rw [List.map_append]
                refine HDG.out.more (h := V.heap.size) (fun a ha k hk => ?_) (fun k hk => (ho.obk_ge hk).1)
                obtain ⟨y, hy, rfl⟩ := List.mem_map.1 ha
                exact Nat.lt_of_lt_of_le ((HTO.out y hy).obk_ge hk).2 hv.size
              · exact (HB.out.trans (h7.mono HB.out.size)).setCell (p := ⟨g3, j, none⟩) hBg _
            have ead := mk_add g3 j
            have hlt' : (j : Int) < (n3 : Int) := by omega
            clear hx hS had
            go_upto_region 11 with fail
            obtain ⟨m0, m1, m2⟩ := HCL.out wr (Below.refl _ _)
            go_region_with (go_at_call 17; refine (HPC.out _ (by first | exact Below.refl _ _ | exact (Below.refl _ _).drew | exact Below.drewN (Below.refl _ _) _)).mono ?_; rintro e w7 ⟨A', c', rfl, v0, v1, v2, G', wz, hwz, hrl⟩)
            all_goals
              have HRL := Lib.hid hrl
              have HWZ := Lib.hid hwz
              clear hrl hwz HPC HTG HCL
              try rw [← HWZ.out]
              clear v0 v1 v2 m0 m1 m2 c0
              go_wp2_with fail
              go_roundw
              case rel =>
                obtain ⟨r1, r2, r3, r4, r5, r6, r7⟩ := HRL.out
                exact ⟨j + 1, G', by omega, by go_num, r1, r2, r3, r4, r5, r6, r7⟩
              case measure => simp [intOf]; omega
          · have hge : n3 ≤ j := by omega
            have hGr : G ++ T.drop j = G := by rw [List.drop_eq_nil_of_le (by rw [HL3.out]; exact hge), List.append_nil]
            rw [hGr] at hS
            have HGN : Hid (G.length = n3) := Lib.hid (by rw [HGL.out]; omega)
            have hgrW : gr < W0.heap.size := HRS.out.lt
            have hres := HRS.out.below HB.out hgrW
            obtain ⟨r0, r1, r2⟩ := hres.three
            have s0 := hres.thaw 0
            have s1 := hres.thaw 1
            have s2 := hres.thaw 2
            obtain ⟨e0, e1, e2⟩ := set3_cells hres (.slice B1 n1 d1) (.slice B2 n2 d2) (.slice B3 n3 d3)
            have E0 := Lib.hid e0
            have E1 := Lib.hid e1
            have E2 := Lib.hid e2
            obtain ⟨m0, m1, m2⟩ := hS.cells
            have HFIN : Hid (CpA X w (.returned (.agg #[.slice B1 n1 d1, .slice B2 n2 d2, .slice B3 n3 d3])) (set3 wr gr (.slice B1 n1 d1) (.slice B2 n2 d2) (.slice B3 n3 d3))) := Lib.hid (by
              have hbel : Below w.heap.size w wr := HB0.out.trans (HB.out.mono HB0.out.size)
              have hwg : w.heap.size ≤ gr := by have := HGR.out; omega
              have hbf : Below w.heap.size w (set3 wr gr (.slice B1 n1 d1) (.slice B2 n2 d2) (.slice B3 n3 d3)) := ((hbel.setCell (p := ⟨gr, 0, none⟩) hwg _).setCell (p := ⟨gr, 1, none⟩) hwg _).setCell (p := ⟨gr, 2, none⟩) hwg _
              have ot : ∀ {E' s' : Nat} {A : Option Addr} {n c : Nat} {l : List Value}, OwnV E' s' wr W0.heap.size A n c l → OwnV E' s' (set3 wr gr (.slice B1 n1 d1) (.slice B2 n2 d2) (.slice B3 n3 d3)) w.heap.size A n c l := fun {E' s' A n c l} h => by
                have hne : ∀ g, A = some ⟨g, 0, none⟩ → g ≠ gr := fun g e => by have := (h.obk_ge (b := g) (by rw [e]; rfl)).1; omega
                exact (((h.other ⟨gr, 0, none⟩ _ hne).other ⟨gr, 1, none⟩ _ hne).other ⟨gr, 2, none⟩ _ hne).weak HB0.out.size
              have p1 := ot hS.pp.own
              have p2 := ot hS.ch.own
              have p3 := ot hS.tb.own
              have po := fun y hy => ot (HPO.out y hy)
              have to' := fun y hy => ot (HTO.out y hy)
              have hXI := HX.out
              have rX := HR.out
              rw [hXI] at rX ⊢
              have atP : ∀ y ∈ D, ∃ a, a ∈ P ∧ SameP y a ∧ y.1.pn = a.1.pn := fun y hy => by
                obtain ⟨k, hk⟩ := List.getElem?_of_mem hy
                have hkl := (List.getElem?_eq_some_iff.1 hk).1
                have hPl := HL1.out
                have hDl := HDN.out
                have ha : P[k]? = some (P[k]'(by omega)) := List.getElem?_eq_getElem _
                obtain ⟨q1, q2⟩ := HSM.out k _ y ha hk
                exact ⟨_, List.getElem_mem _, q1, q2⟩
              have atT : ∀ y ∈ G, ∃ a, a ∈ T ∧ y.l = a.l ∧ y.n = a.n := fun y hy => by
                obtain ⟨k, hk⟩ := List.getElem?_of_mem hy
                have hkl := (List.getElem?_eq_some_iff.1 hk).1
                have hTl := HL3.out
                have hGl := HGN.out
                have ha : T[k]? = some (T[k]'(by omega)) := List.getElem?_eq_getElem _
                obtain ⟨q1, q2⟩ := HTM.out k _ y ha hk
                exact ⟨_, List.getElem_mem _, q1, q2⟩
              refine ⟨⟨B1, B2, B3, n1, n2, n3, d1, d2, d3, D, C, G⟩, rfl, ⟨⟨HDN.out, p1.rd⟩, ⟨HCC.out.len, p2.rd⟩, ⟨HGN.out, p3.rd⟩, fun y hy => ?_, fun y hy => ?_, p1.cap, p2.cap, p3.cap, rX.m1, rX.m2, rX.m3, rX.z.1, rX.z.2.1, rX.z.2.2.1, fun y hy => ?_, fun y hy => ?_⟩, ⟨⟨by rw [HDN.out, HL1.out], fun k a b ha hb => (HSM.out k b a hb ha).1, rfl⟩, by rw [HGN.out, HL3.out], fun k a b ha hb => by rw [(HTM.out k b a hb ha).1]; exact sameN_refl _⟩, ⟨p1, p2, p3, fun y hy => ⟨po y hy, fun k hk => ⟨(po y hy).ne p1 (by decide) k hk, (po y hy).ne p2 (by decide) k hk, (po y hy).ne p3 (by decide) k hk⟩⟩, fun y hy => ⟨to' y hy, fun k hk => ⟨(to' y hy).ne p1 (by decide) k hk, (to' y hy).ne p2 (by decide) k hk, (to' y hy).ne p3 (by decide) k hk⟩⟩, p1.ne p2 (by decide), p1.ne p3 (by decide), p2.ne p3 (by decide), fun i' j' a b ha hb hij k hk => ?_, fun i' j' a b ha hb hij k hk => ?_, fun i' j' a b ha hb k hk => (po a (List.mem_of_getElem? ha)).ne (to' b (List.mem_of_getElem? hb)) (by decide) k hk⟩, hbf⟩
              · obtain ⟨a, ha, q1, q2⟩ := atP y hy
                have ra := rX.pt a ha
                obtain ⟨q3, _, q4, _, _, _, q5⟩ := q1
                exact ⟨⟨by rw [q4]; exact ra.1.per, by rw [q3]; exact ra.1.name, ⟨by rw [q5, q2]; exact ra.1.procs.len, (po y hy).rd⟩⟩, (po y hy).cap, by rw [q2]; exact ra.2.2⟩
              · obtain ⟨a, ha, q1, q2⟩ := atT y hy
                have ra := rX.tt a ha
                exact ⟨⟨by rw [q1, q2]; exact ra.rd.len, (to' y hy).rd, by rw [q1]; exact ra.rd.bd⟩, (to' y hy).cap, by rw [q2]; exact ra.few⟩
              · obtain ⟨a, ha, q1, q2⟩ := atP y hy
                show y.1.pn * 16 ≤ _
                rw [q2]
                exact rX.z.2.2.2.1 a ha
              · obtain ⟨a, ha, q1, q2⟩ := atT y hy
                show y.n * 24 ≤ _
                rw [q2]
                exact rX.z.2.2.2.2 a ha
              · exact HDJ.out i' j' a.1.pa b.1.pa (by rw [List.getElem?_map, ha]; rfl) (by rw [List.getElem?_map, hb]; rfl) hij k hk
              · exact HDG.out i' j' a.A b.A (by rw [List.getElem?_map, ha]; rfl) (by rw [List.getElem?_map, hb]; rfl) hij k hk)
            clear hS e0 e1 e2 hres hGr HPO HTO HTM HDG HDJ HSM HPT HTT HZ HPP HCC HTB HR
            go_wp2_with fail
            exact bodyPost_ret (results_runC rfl rfl E0.out E1.out E2.out) rfl HFIN.out
end Go.Proofs.YtebcfiifaclniaaGreat
