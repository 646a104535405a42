/- Law 8's turned: a row with runs side by side turned about, at places. -/
import Derived.Test.YtcdgofdnafbacaaWdif
import Derived.Test.YtcdgofdnafbacaaOwnb
import Derived.Test.YtcdgofdnafbacaaRegs
namespace Go.Proofs.Ytcdgofdnafbacaa
open Go.RowKit Tab
set_option linter.unusedSimpArgs false
set_option linter.unusedVariables false

def rcl (x : Rn) : List Value := [.int .i64 x.p, .int .i64 (x.n : Int)]
theorem rcl_len (x : Rn) : (rcl x).length = 2 := rfl
theorem rs_flat (L : List Rn) : rs L = L.flatMap rcl := by
  induction L with
  | nil => rfl
  | cons x L ih => rw [List.flatMap_cons, ← ih]; rfl
theorem swap_perm (l : List Rn) (k : Nat) : (swapAt l k).Perm l := by
  cases hx : l[k]? with
  | none => unfold swapAt; rw [hx]
  | some x =>
    cases hy : l[k + 1]? with
    | none => unfold swapAt; rw [hx, hy]
    | some y =>
      rw [swap_two hx hy]
      conv => rhs; rw [split_two hx hy]
      exact List.Perm.append_left _ (List.Perm.swap _ _ _)
theorem swap_len (l : List Rn) (k : Nat) : (swapAt l k).length = l.length := (swap_perm l k).length_eq
theorem swap_set {l : List Rn} {k : Nat} {x y : Rn} (hx : l[k]? = some x) (hy : l[k + 1]? = some y) : swapAt l k = (l.set k y).set (k + 1) x := by
  unfold swapAt
  rw [hx, hy]
theorem ticks_perm {a b : List Rn} (h : a.Perm b) : ticks a = ticks b := by
  induction h with
  | nil => rfl
  | cons x _ ih => simp only [ticks, ih]
  | swap x y l => simp only [ticks]; omega
  | trans _ _ h1 h2 => exact h1.trans h2
theorem OwnB.cellK {α : Type} {E s : Nat} {f : α → List Value} {w : World} {B g n c : Nat} {l : List α} (h : OwnB E s f w B (some ⟨g, 0, none⟩) n c l) (hf : ∀ x, (f x).length = s) {i k : Nat} {x : α} {v : Value} (hx : l[i]? = some x) (hk : k < s) (hv : (f x)[k]? = some v) : w.cell? ⟨g, i * s + k, none⟩ = some v ∧ w.frozen? ⟨g, i * s + k, none⟩ = false := by
  have hi : i < l.length := (List.getElem?_eq_some_iff.1 hx).1
  have h1 : (i + 1) * s ≤ l.length * s := Nat.mul_le_mul_right _ hi
  rw [Nat.succ_mul] at h1
  refine ⟨?_, World.ownsRow.frozenAt h.own _⟩
  rw [World.ownsRow.cellAt h.own (i * s + k) (by rw [← h.len]; omega), flat_get hf l i k x hx hk]
  exact hv
theorem OwnB.putK {α : Type} {E s : Nat} {f : α → List Value} {w : World} {B g n c : Nat} {l : List α} (h : OwnB E s f w B (some ⟨g, 0, none⟩) n c l) (hf : ∀ x, (f x).length = s) {i k : Nat} {x y : α} {v : Value} (hx : l[i]? = some x) (hk : k < s) (hy : f y = (f x).set k v) :
    OwnB E s f (w.setCell ⟨g, i * s + k, none⟩ v) B (some ⟨g, 0, none⟩) n c (l.set i y) := by
  have hi : i < l.length := (List.getElem?_eq_some_iff.1 hx).1
  have h1 : (i + 1) * s ≤ l.length * s := Nat.mul_le_mul_right _ hi
  rw [Nat.succ_mul] at h1
  refine ⟨by rw [List.length_set]; exact h.len, ?_⟩
  rw [flat_set hf l i k x y v hx hk hy]
  refine h.own.set (i * s + k) v ?_
  rw [flat_len hf]
  omega
/-- A row of runs of the call's own, in as many cells. -/
theorem OwnB.cellR {w : World} {B g n c : Nat} {X : List Rn} (h : OwnB 31 2 rcl w B (some ⟨g, 0, none⟩) n c X) {i : Nat} {x : Rn} (hx : X[i]? = some x) : w.cell? ⟨g, i * 2, none⟩ = some (.int .i64 x.p) ∧ w.cell? ⟨g, i * 2 + 1, none⟩ = some (.int .i64 (x.n : Int)) ∧ w.frozen? ⟨g, i * 2, none⟩ = false ∧ w.frozen? ⟨g, i * 2 + 1, none⟩ = false := by
  have h0 := OwnB.cellK h rcl_len (k := 0) hx (by omega) rfl
  have h1 := OwnB.cellK h rcl_len (k := 1) hx (by omega) rfl
  exact ⟨h0.1, h1.1, h0.2, h1.2⟩
theorem OwnB.putR {w : World} {B g n c : Nat} {X : List Rn} (h : OwnB 31 2 rcl w B (some ⟨g, 0, none⟩) n c X) {i : Nat} {x : Rn} (hx : X[i]? = some x) (y : Rn) : OwnB 31 2 rcl ((w.setCell ⟨g, i * 2, none⟩ (.int .i64 y.p)).setCell ⟨g, i * 2 + 1, none⟩ (.int .i64 (y.n : Int))) B (some ⟨g, 0, none⟩) n c (X.set i y) := by
  have hil := (List.getElem?_eq_some_iff.1 hx).1
  have h1 := OwnB.putK h rcl_len (k := 0) (y := ⟨y.p, x.n⟩) hx (by omega) (v := .int .i64 y.p) rfl
  have hx1 : (X.set i ⟨y.p, x.n⟩)[i]? = some ⟨y.p, x.n⟩ := List.getElem?_set_self hil
  have h2 := OwnB.putK h1 rcl_len (k := 1) (y := y) hx1 (by omega) (v := .int .i64 (y.n : Int)) rfl
  rw [List.set_set] at h2
  exact h2
/-- A row, new, of the same runs in some order. -/
def TurR (L : List Rn) (w : World) (e : Ending) (w' : World) : Prop := ∃ A c X, e = .returned (.slice A L.length c) ∧ RdR w' w'.heap.size A L.length X ∧ L.length ≤ c ∧ X.Perm L ∧ Below w.heap.size w w'
set_option maxRecDepth 100000 in
set_option maxHeartbeats 4000000 in
theorem turned_any (A0 A1 : Option Addr) (n c0 m c1 : Nat) (L : List Rn) (f : Nat → Int) (w : World) (h : RdR w w.heap.size A0 n L) (hc : n ≤ c0) (hn : n ≤ 1048576) (ha : RdC w w.heap.size A1 m fun j => .int .i64 (f j)) (hm : m ≤ 140737488351232) :
    Calls Try.prog 17 #[.slice A0 n c0, .slice A1 m c1] w (TurR L w) := by
  have hlen := h.len
  have hbe := bl1 w (.cells #[] 31)
  have hown0 : OwnV 31 2 (w.alloc (.cells #[] 31)) w.heap.size (some ⟨w.heap.size, 0, none⟩) 0 0 [] := ownV_lit w _ 2 w.heap.size #[] 0 rfl (Nat.le_refl _) (by unfold maxLen; omega)
  have hrd := (h.below hbe).rd
  have hle : w.heap.size ≤ (w.alloc (.cells #[] 31)).heap.size := hbe.size
  have HBE := Lib.hid hbe
  have HA := Lib.hid ha
  have HLN := Lib.hid hlen
  clear h ha hbe hlen
  go_enter Try.func17, Try.ntmps17
  go_wp2_with (at_builtin; go_loud (refine wpList_appV elR rfl (.tmp 8) (.tmp 9) rfl rfl w.heap.size (some ⟨w.heap.size, 0, none⟩) 0 0 [] rfl hown0 A0 n c0 (rs L) _ rfl hrd (by rw [rs_length, HLN.out]) (rs_one _) (by omega) (by unfold maxLen; omega) hle n (Nat.zero_add _) (rs L) (List.nil_append _) ?_; intro A4 c4 w4 hw4 hb4 hot4))
  have HB4 := Lib.hid (HBE.out.trans hb4)
  have hOB : OwnB 31 2 rcl w4 w.heap.size A4 n c4 L := ⟨HLN.out, by rw [← rs_flat]; exact hw4⟩
  have HOB := Lib.hid hOB
  clear hw4 hb4 hot4 hOB hown0 hrd hle HBE
  obtain ⟨c, rfl⟩ : ∃ c, c = c4 := ⟨_, rfl⟩
  go_loopw [6, 7] (fun s _ wr => ∃ (i : Nat) (X : List Rn), i ≤ m ∧ s = .int .i64 i ∧ OwnB 31 2 rcl wr w.heap.size A4 n c X ∧ X.Perm L ∧ Below w.heap.size w wr) (fun s _ _ => m - (intOf s).toNat)
  case atStart => exact ⟨0, L, by omega, rfl, HOB.out, List.Perm.refl _, HB4.out⟩
  case round =>
    obtain ⟨i, X, hi, rfl, hX, hp, hb⟩ := hrel
    clear HB4 HOB
    have HX := Lib.hid hX
    have HP := Lib.hid hp
    have HB := Lib.hid hb
    clear hX hp hb
    by_cases hgo : i < m ∧ i < 30 ∧ 1 < n
    · obtain ⟨h1, h2, h3⟩ := hgo
      have h1i : (i : Int) < (m : Int) := by omega
      have h2i : (i : Int) < 30 := by omega
      have h3i : (1 : Int) < (n : Int) := by omega
      obtain ⟨ad, rfl, had, ca⟩ := (HA.out.below HB.out).at_ h1
      obtain ⟨g, rfl, hBg, hgl⟩ := HX.out.block (by omega)
      go_wp2_with fail
      refine (within_at (f i) _ (n - 2) wr (by omega) (by omega)).mono ?_
      rintro e _ ⟨k, hk, rfl, rfl⟩
      have hkn : k + 1 < n := by omega
      have hXl := HX.out.len
      obtain ⟨x, hx⟩ : ∃ x, X[k]? = some x := ⟨_, List.getElem?_eq_getElem (by omega)⟩
      obtain ⟨y, hy⟩ : ∃ y, X[k + 1]? = some y := ⟨_, List.getElem?_eq_getElem (by omega)⟩
      have hXd : OwnB 31 2 rcl wr.drew w.heap.size (some ⟨g, 0, none⟩) n c X := HX.out.below (Below.refl _ _).drew
      obtain ⟨cx0, cx1, fx0, fx1⟩ := hXd.cellR hx
      obtain ⟨cy0, cy1, _, _⟩ := hXd.cellR hy
      have hX1 := hXd.putR hx y
      have hy1 : (X.set k y)[k + 1]? = some y := by rw [List.getElem?_set_ne (by omega)]; exact hy
      obtain ⟨ez0, ez1, fz0, fz1⟩ := hX1.cellR hy1
      have hX2 := hX1.putR hy1 x
      rw [← swap_set hx hy] at hX2
      have hbz : Below w.heap.size w ((((wr.drew.setCell ⟨g, k * 2, none⟩ (.int .i64 y.p)).setCell ⟨g, k * 2 + 1, none⟩ (.int .i64 (y.n : Int))).setCell ⟨g, (k + 1) * 2, none⟩ (.int .i64 x.p)).setCell ⟨g, (k + 1) * 2 + 1, none⟩ (.int .i64 (x.n : Int))) := (((HB.out.drew.setCell (p := ⟨g, k * 2, none⟩) hBg _).setCell (p := ⟨g, k * 2 + 1, none⟩) hBg _).setCell (p := ⟨g, (k + 1) * 2, none⟩) hBg _).setCell (p := ⟨g, (k + 1) * 2 + 1, none⟩) hBg _
      have HN := Lib.hid (And.intro hX2 (And.intro ((swap_perm X k).trans HP.out) hbz))
      have HLT : Hid (k < n ∧ k + 1 < n ∧ (k : Int) < (n : Int) ∧ (k : Int) + 1 < (n : Int) ∧ (0 : Int) ≤ (k : Int) + 1 ∧ ((k : Int) + 1).toNat = k + 1) := Lib.hid ⟨by omega, hkn, by omega, by omega, by omega, by omega⟩
      have HWR : Hid (IntKind.i64.wrap ((k : Int) + 1) = (k : Int) + 1) := Lib.hid (wrap_small _ (by omega) (by omega))
      clear hX1 hX2 hXd hy1 hbz hx hy hXl ca
      go_wp2_with fail
      refine Rgs.region (by kernel_rfl) (by kernel_rfl) (fun (opn : Nat) (vl : Value) (_ : World) => match opn with | 0 => vl = .slice (some ⟨g, 0, none⟩) n c | 1 => vl = .int .i64 (k : Int) | 2 => vl = .slice (some ⟨g, 0, none⟩) n c | 3 => vl = .int .i64 (k : Int) | 4 => vl = .int .i64 ((k : Int) + 1) | 5 => vl = .slice (some ⟨g, 0, none⟩) n c | 6 => vl = .int .i64 (k : Int) | 7 => vl = .int .i64 ((k : Int) + 1) | 8 => vl = .pointer (some ⟨g, (k + 1) * 2, none⟩) | 9 => vl = .agg #[.int .i64 y.p, .int .i64 (y.n : Int)] | 10 => vl = .slice (some ⟨g, 0, none⟩) n c | 11 => vl = .int .i64 (k : Int) | 12 => vl = .pointer (some ⟨g, k * 2, none⟩) | 13 => vl = .agg #[.int .i64 x.p, .int .i64 (x.n : Int)] | 14 => vl = .pointer (some ⟨g, k * 2, none⟩) | 15 => vl = undef | 16 => vl = .pointer (some ⟨g, (k + 1) * 2, none⟩) | 17 => vl = undef | _ => True) (fun live _ w' => Rgs.StG wr.drew ((wr.drew.setCell ⟨g, k * 2, none⟩ (.int .i64 y.p)).setCell ⟨g, k * 2 + 1, none⟩ (.int .i64 (y.n : Int))) ((((wr.drew.setCell ⟨g, k * 2, none⟩ (.int .i64 y.p)).setCell ⟨g, k * 2 + 1, none⟩ (.int .i64 (y.n : Int))).setCell ⟨g, (k + 1) * 2, none⟩ (.int .i64 x.p)).setCell ⟨g, (k + 1) * 2 + 1, none⟩ (.int .i64 (x.n : Int))) 15 17 live w') rfl (Rgs.steps_of ?_) ?_
      · refine ⟨?_, ?_, ?_, ?_, ?_, ?_, ?_, ?_, ?_, ?_, ?_, ?_, ?_, ?_, ?_, ?_, ?_, ?_, trivial⟩
        · intro a w1 live S E D C h0 hk hW
          have e5 : a.eval (.tmp 5) = .slice (some ⟨g, 0, none⟩) n c := E 5 rfl
          exact Rgs.val rfl (Reg.wanted_free rfl) (.slice (some ⟨g, 0, none⟩) n c) (by have c := Reg.consts a; generalize a.eval = ρ at *; simp [execOp, go_sem, c.1, c.2, e5]) rfl (hW.upd (by decide) (by decide))
        · intro a w1 live S E D C h0 hk hW
          have e7 : a.eval (.tmp 7) = .int .i64 (k : Int) := E 7 rfl
          exact Rgs.val rfl (Reg.wanted_free rfl) (.int .i64 (k : Int)) (by have c := Reg.consts a; generalize a.eval = ρ at *; simp [execOp, go_sem, c.1, c.2, e7]) rfl (hW.upd (by decide) (by decide))
        · intro a w1 live S E D C h0 hk hW
          have e5 : a.eval (.tmp 5) = .slice (some ⟨g, 0, none⟩) n c := E 5 rfl
          exact Rgs.val rfl (Reg.wanted_free rfl) (.slice (some ⟨g, 0, none⟩) n c) (by have c := Reg.consts a; generalize a.eval = ρ at *; simp [execOp, go_sem, c.1, c.2, e5]) rfl (hW.upd (by decide) (by decide))
        · intro a w1 live S E D C h0 hk hW
          have e7 : a.eval (.tmp 7) = .int .i64 (k : Int) := E 7 rfl
          exact Rgs.val rfl (Reg.wanted_free rfl) (.int .i64 (k : Int)) (by have c := Reg.consts a; generalize a.eval = ρ at *; simp [execOp, go_sem, c.1, c.2, e7]) rfl (hW.upd (by decide) (by decide))
        · intro a w1 live S E D C h0 hk hW
          have d3 : a.eval (.tmp 37) = .int .i64 (k : Int) := D 3 rfl _ _ rfl rfl
          have hwr := HWR.out
          exact Rgs.val rfl (Reg.wanted_free rfl) (.int .i64 ((k : Int) + 1)) (by have c := Reg.consts a; generalize a.eval = ρ at *; simp [execOp, go_sem, c.1, c.2, d3, hwr]) rfl (hW.upd (by decide) (by decide))
        · intro a w1 live S E D C h0 hk hW
          have e5 : a.eval (.tmp 5) = .slice (some ⟨g, 0, none⟩) n c := E 5 rfl
          exact Rgs.val rfl (Reg.wanted_free rfl) (.slice (some ⟨g, 0, none⟩) n c) (by have c := Reg.consts a; generalize a.eval = ρ at *; simp [execOp, go_sem, c.1, c.2, e5]) rfl (hW.upd (by decide) (by decide))
        · intro a w1 live S E D C h0 hk hW
          have e7 : a.eval (.tmp 7) = .int .i64 (k : Int) := E 7 rfl
          exact Rgs.val rfl (Reg.wanted_free rfl) (.int .i64 (k : Int)) (by have c := Reg.consts a; generalize a.eval = ρ at *; simp [execOp, go_sem, c.1, c.2, e7]) rfl (hW.upd (by decide) (by decide))
        · intro a w1 live S E D C h0 hk hW
          have d6 : a.eval (.tmp 40) = .int .i64 (k : Int) := D 6 rfl _ _ rfl rfl
          have hwr := HWR.out
          exact Rgs.val rfl (Reg.wanted_free rfl) (.int .i64 ((k : Int) + 1)) (by have c := Reg.consts a; generalize a.eval = ρ at *; simp [execOp, go_sem, c.1, c.2, d6, hwr]) rfl (hW.upd (by decide) (by decide))
        · intro a w1 live S E D C h0 hk hW
          have d5 : a.eval (.tmp 39) = .slice (some ⟨g, 0, none⟩) n c := D 5 rfl _ _ rfl rfl
          have d7 : a.eval (.tmp 41) = .int .i64 ((k : Int) + 1) := D 7 rfl _ _ rfl rfl
          have i1 := HLT.out
          obtain ⟨i1, i2, i3, i4, i5, i6⟩ := i1
          have ead := mk_add (g) ((k + 1) * 2)
          exact Rgs.val rfl (Reg.wanted_free rfl) (.pointer (some ⟨g, (k + 1) * 2, none⟩)) (by have c := Reg.consts a; generalize a.eval = ρ at *; simp [execOp, go_sem, c.1, c.2, d5, d7, i1, i2, i3, i4, i5, i6, ead]) rfl (hW.upd (by decide) (by decide))
        · intro a w1 live S E D C h0 hk hW
          have d8 : a.eval (.tmp 42) = .pointer (some ⟨g, (k + 1) * 2, none⟩) := D 8 rfl _ _ rfl rfl
          have l15 := Reg.not_live C h0 (j := 15) rfl rfl
          have l17 := Reg.not_live C l15 (j := 17) rfl rfl
          have hw := hW.off l15 l17
          subst hw
          exact Rgs.val rfl (Reg.wanted_free rfl) (.agg #[.int .i64 y.p, .int .i64 (y.n : Int)]) (by have c := Reg.consts a; generalize a.eval = ρ at *; simp [execOp, go_sem, c.1, c.2, d8, cy0, cy1]) rfl (hW.upd (by decide) (by decide))
        · intro a w1 live S E D C h0 hk hW
          have e5 : a.eval (.tmp 5) = .slice (some ⟨g, 0, none⟩) n c := E 5 rfl
          exact Rgs.val rfl (Reg.wanted_free rfl) (.slice (some ⟨g, 0, none⟩) n c) (by have c := Reg.consts a; generalize a.eval = ρ at *; simp [execOp, go_sem, c.1, c.2, e5]) rfl (hW.upd (by decide) (by decide))
        · intro a w1 live S E D C h0 hk hW
          have e7 : a.eval (.tmp 7) = .int .i64 (k : Int) := E 7 rfl
          exact Rgs.val rfl (Reg.wanted_free rfl) (.int .i64 (k : Int)) (by have c := Reg.consts a; generalize a.eval = ρ at *; simp [execOp, go_sem, c.1, c.2, e7]) rfl (hW.upd (by decide) (by decide))
        · intro a w1 live S E D C h0 hk hW
          have d10 : a.eval (.tmp 44) = .slice (some ⟨g, 0, none⟩) n c := D 10 rfl _ _ rfl rfl
          have d11 : a.eval (.tmp 45) = .int .i64 (k : Int) := D 11 rfl _ _ rfl rfl
          have i1 := HLT.out
          obtain ⟨i1, i2, i3, i4, i5, i6⟩ := i1
          have ead := mk_add (g) (k * 2)
          exact Rgs.val rfl (Reg.wanted_free rfl) (.pointer (some ⟨g, k * 2, none⟩)) (by have c := Reg.consts a; generalize a.eval = ρ at *; simp [execOp, go_sem, c.1, c.2, d10, d11, i1, i2, i3, i4, i5, i6, ead]) rfl (hW.upd (by decide) (by decide))
        · intro a w1 live S E D C h0 hk hW
          have d12 : a.eval (.tmp 46) = .pointer (some ⟨g, k * 2, none⟩) := D 12 rfl _ _ rfl rfl
          have l15 := Reg.not_live C h0 (j := 15) rfl rfl
          have l17 := Reg.not_live C l15 (j := 17) rfl rfl
          have hw := hW.off l15 l17
          subst hw
          exact Rgs.val rfl (Reg.wanted_free rfl) (.agg #[.int .i64 x.p, .int .i64 (x.n : Int)]) (by have c := Reg.consts a; generalize a.eval = ρ at *; simp [execOp, go_sem, c.1, c.2, d12, cx0, cx1]) rfl (hW.upd (by decide) (by decide))
        · intro a w1 live S E D C h0 hk hW
          have d0 : a.eval (.tmp 34) = .slice (some ⟨g, 0, none⟩) n c := D 0 rfl _ _ rfl rfl
          have d1 : a.eval (.tmp 35) = .int .i64 (k : Int) := D 1 rfl _ _ rfl rfl
          have i1 := HLT.out
          obtain ⟨i1, i2, i3, i4, i5, i6⟩ := i1
          have ead := mk_add (g) (k * 2)
          exact Rgs.val rfl (Reg.wanted_free rfl) (.pointer (some ⟨g, k * 2, none⟩)) (by have c := Reg.consts a; generalize a.eval = ρ at *; simp [execOp, go_sem, c.1, c.2, d0, d1, i1, i2, i3, i4, i5, i6, ead]) rfl (hW.upd (by decide) (by decide))
        · intro a w1 live S E D C h0 hk hW
          have d14 : a.eval (.tmp 48) = .pointer (some ⟨g, k * 2, none⟩) := D 14 rfl _ _ rfl rfl
          have d9 : a.eval (.tmp 43) = .agg #[.int .i64 y.p, .int .i64 (y.n : Int)] := D 9 rfl _ _ rfl rfl
          have l17 := Reg.not_live C h0 (j := 17) rfl rfl
          have hw := hW.off h0 l17
          subst hw
          refine Rgs.store rfl (Reg.wanted_free rfl) ((wr.drew.setCell ⟨g, k * 2, none⟩ (.int .i64 y.p)).setCell ⟨g, k * 2 + 1, none⟩ (.int .i64 (y.n : Int))) ?_ rfl (Rgs.StG.put1 _ _ _ (by decide) _ l17) (fun j v _ h => h)
          generalize wr.drew = wd at cx0 cx1 fx0 fx1 ⊢
          have c := Reg.consts a; generalize a.eval = ρ at *; simp [execOp, go_sem, c.1, c.2, d14, d9, cx0, cx1, fx0, fx1]
        · intro a w1 live S E D C h0 hk hW
          have d2 : a.eval (.tmp 36) = .slice (some ⟨g, 0, none⟩) n c := D 2 rfl _ _ rfl rfl
          have d4 : a.eval (.tmp 38) = .int .i64 ((k : Int) + 1) := D 4 rfl _ _ rfl rfl
          have i1 := HLT.out
          obtain ⟨i1, i2, i3, i4, i5, i6⟩ := i1
          have ead := mk_add (g) ((k + 1) * 2)
          exact Rgs.val rfl (Reg.wanted_free rfl) (.pointer (some ⟨g, (k + 1) * 2, none⟩)) (by have c := Reg.consts a; generalize a.eval = ρ at *; simp [execOp, go_sem, c.1, c.2, d2, d4, i1, i2, i3, i4, i5, i6, ead]) rfl (hW.upd (by decide) (by decide))
        · intro a w1 live S E D C h0 hk hW
          have d16 : a.eval (.tmp 49) = .pointer (some ⟨g, (k + 1) * 2, none⟩) := D 16 rfl _ _ rfl rfl
          have d13 : a.eval (.tmp 47) = .agg #[.int .i64 x.p, .int .i64 (x.n : Int)] := D 13 rfl _ _ rfl rfl
          have hw := hW.mid (hk 15 rfl) h0
          subst hw
          refine Rgs.store rfl (Reg.wanted_free rfl) _ ?_ rfl (Rgs.StG.put2 _ _ _ _ _ _) (fun j v _ h => h)
          generalize (wr.drew.setCell ⟨g, k * 2, none⟩ (.int .i64 y.p)).setCell ⟨g, k * 2 + 1, none⟩ (.int .i64 (y.n : Int)) = wz at ez0 ez1 fz0 fz1 ⊢
          have c := Reg.consts a
          generalize a.eval = ρ at *
          simp [execOp, go_sem, c.1, c.2, d16, d13, ez0, ez1, fz0, fz1]
      · intro a w3 live hs hd E D' Hl hW
        rw [Rgs.act_ws a _ _ hs hd E [34, 35, 36, 37, 38, 39, 40, 41, 42, 43, 44, 45, 46, 47, 48, 49] (by kernel_rfl)]
        simp only [List.foldl, List.setIfInBounds_toArray, List.set_cons_succ, List.set_cons_zero]
        have hw := Rgs.StG.on hW (Hl 17 (by decide))
        subst hw
        clear E D' Hl hW cx0 cx1 cy0 cy1 ez0 ez1 fx0 fx1 fz0 fz1
        generalize a.eval = ρ
        clear a hs hd
        go_wp2_with fail
        go_roundw
        case rel => exact ⟨i + 1, _, by omega, by go_num, HN.out.1, HN.out.2.1, HN.out.2.2⟩
        case measure => simp [intOf]; omega
    · have hex : ¬ i < m ∨ (i < m ∧ ¬ i < 30) ∨ (i < m ∧ i < 30 ∧ ¬ 1 < n) := by omega
      have hfin : TurR L w (.returned (.slice A4 n c)) wr := ⟨A4, c, X, by rw [HLN.out], by rw [HLN.out]; exact ⟨HX.out.len, by rw [rs_flat]; exact HX.out.own.rd⟩, by rw [HLN.out]; exact HX.out.own.cap, HP.out, HB.out⟩
      have HFN := Lib.hid hfin
      clear hfin
      rcases hex with h1 | ⟨h1, h2⟩ | ⟨h1, h2, h3⟩
      · have h1i : ¬ (i : Int) < (m : Int) := by omega
        go_wp2_with fail
        go_ret
        exact HFN.out
      · have h1i : (i : Int) < (m : Int) := by omega
        have h2i : ¬ (i : Int) < 30 := by omega
        go_wp2_with fail
        go_ret
        exact HFN.out
      · have h1i : (i : Int) < (m : Int) := by omega
        have h2i : (i : Int) < 30 := by omega
        have h3i : ¬ (1 : Int) < (n : Int) := by omega
        go_wp2_with fail
        go_ret
        exact HFN.out
end Go.Proofs.Ytcdgofdnafbacaa
