/- The path of open nodes in memory: how often the next node is gone through; the path behind a node. -/
import Derived.Test.YtpjppglaieohlaaKids
import Derived.Test.YtpjppglaieohlaaInv
namespace Go.Proofs.Ytpjppglaieohlaa
open Go.RowKit Tab
set_option linter.unusedSimpArgs false
set_option linter.unusedVariables false

/-- A path as cells: the outermost first. -/
def os : List (Nat × Nat) → List Value
  | [] => []
  | (a, t) :: o => os o ++ [.int .i64 (a : Int), .int .i64 (t : Int)]
theorem os_length (st : List (Nat × Nat)) : (os st).length = st.length * 2 := by
  induction st with
  | nil => rfl
  | cons e o ih => obtain ⟨a, t⟩ := e; simp only [os, List.length_append, ih, List.length_cons, List.length_nil]; omega
theorem os_last (a t : Nat) (o : List (Nat × Nat)) : (os ((a, t) :: o))[o.length * 2]? = some (.int .i64 (a : Int)) ∧ (os ((a, t) :: o))[o.length * 2 + 1]? = some (.int .i64 (t : Int)) := by
  have := os_length o
  constructor
  · simp only [os]; rw [List.getElem?_append_right (by omega), this, Nat.sub_self]; rfl
  · simp only [os]; rw [List.getElem?_append_right (by omega), this, show o.length * 2 + 1 - o.length * 2 = 1 by omega]; rfl
theorem os_set (a t : Nat) (o : List (Nat × Nat)) (b : Nat) : (os ((a, t) :: o)).set (o.length * 2) (.int .i64 (b : Int)) = os ((b, t) :: o) := by
  have := os_length o
  simp only [os]
  rw [List.set_append_right _ _ (by omega), this, Nat.sub_self]
  rfl
theorem os_dec (a t : Nat) (o : List (Nat × Nat)) (h : 1 ≤ a) : (os ((a, t) :: o)).set (o.length * 2) (.int .i64 ((a : Int) - 1)) = os ((a - 1, t) :: o) := by
  rw [show (a : Int) - 1 = ((a - 1 : Nat) : Int) by omega]
  exact os_set a t o (a - 1)
/-- A path of the call's own. -/
def OwnP (w : World) (B : Nat) (A : Option Addr) (n c : Nat) (st : List (Nat × Nat)) : Prop := n = st.length ∧ OwnV 81 2 w B A n c (os st)
theorem OwnP.nil (w : World) (B : Nat) : OwnP w B none 0 0 [] := ⟨rfl, OwnV.nil _ _ _ _⟩

set_option maxHeartbeats 400000 in
theorem times_any (B : Nat) (A : Option Addr) (n c : Nat) (st : List (Nat × Nat)) (w : World) (h : OwnP w B A n c st) (hn : n ≤ 1099511627776) :
    Calls Try.prog 40 #[.slice A n c] w fun e w' => e = .returned (.int .i64 (times st : Nat)) ∧ w = w' := by
  obtain ⟨h0, h⟩ := h
  cases st with
  | nil =>
    simp only [List.length_nil] at h0
    subst h0
    go_enter Try.func40, Try.ntmps40
    go_wp2_with fail
    go_ret
    exact ⟨rfl, rfl⟩
  | cons e o =>
    obtain ⟨a, t⟩ := e
    obtain ⟨g, rfl, hg, hlt⟩ := h.block (by simp at h0; omega)
    have h1 := World.ownsRow.cellAt h (o.length * 2 + 1) (by simp at h0; omega)
    rw [(os_last a t o).2] at h1
    simp only [List.length_cons] at h0
    generalize o.length = k at h0 h1
    subst h0
    clear h
    have hk : ((k : Int) + 1 == 0) = false := beq_eq_false_iff_ne.2 (by omega)
    go_enter Try.func40, Try.ntmps40
    go_wp2_with fail
    go_ret
    exact ⟨rfl, rfl⟩
theorem OwnV.front {E s : Nat} {w : World} {B : Nat} {A : Option Addr} {n c : Nat} {l : List Value} (h : OwnV E s w B A n c l) (m : Nat) (hm : m ≤ n) : OwnV E s w B A m c (l.take (m * s)) := by
  have h0 : m * s ≤ n * s := Nat.mul_le_mul_right _ hm
  refine ⟨by rw [List.length_take, h.1]; omega, ?_⟩
  rcases h.2 with ⟨hv, hz⟩ | ⟨g, cap, cur, hv, hbg, hg, hnc, hcm, hcs, ht⟩
  · refine .inl ⟨?_, by omega⟩
    simp only [Value.slice.injEq] at hv ⊢
    exact ⟨hv.1, by omega, hv.2.2⟩
  · simp only [Value.slice.injEq] at hv
    obtain ⟨rfl, _, rfl⟩ := hv
    refine .inr ⟨g, c, cur, rfl, hbg, hg, by omega, hcm, hcs, ?_⟩
    rw [← ht, List.take_take, Nat.min_eq_left h0]
theorem os_take (a t : Nat) (o : List (Nat × Nat)) : (os ((a, t) :: o)).take (o.length * 2) = os o := by
  simp only [os]
  exact List.take_left' (os_length o)
/-- It answers a path of the call's own. -/
def Paths (B : Nat) (w : World) (st : List (Nat × Nat)) (e : Ending) (w' : World) : Prop := ∃ A n c, e = .returned (.slice A n c) ∧ OwnP w' B A n c st ∧ Below B w w'
theorem pops_more {a t : Nat} {o : List (Nat × Nat)} (h : 1 < a) : pops ((a, t) :: o) = (a - 1, t) :: o := by simp only [pops]; rw [if_pos h]
theorem pops_less {a t : Nat} {o : List (Nat × Nat)} (h : ¬ 1 < a) : pops ((a, t) :: o) = pops o := by simp only [pops]; rw [if_neg h]
set_option maxRecDepth 100000 in
set_option maxHeartbeats 1600000 in
theorem behind_leaf (B : Nat) (A : Option Addr) (n c : Nat) (st : List (Nat × Nat)) (k p z : Int) (w : World) (h : OwnP w B A n c st) (hB : B ≤ w.heap.size) (hn : n ≤ 1099511627776) (h3 : ¬ k = 3) (h4 : ¬ k = 4) (ha : ∀ e ∈ st, 1 ≤ e.1 ∧ e.1 ≤ 1099511627776) :
    Calls Try.prog 37 #[.slice A n c, nd k p z] w (Paths B w (pops st)) := by
  have h3' : (k == 3) = false := beq_eq_false_iff_ne.2 h3
  have h4' : (k == 4) = false := beq_eq_false_iff_ne.2 h4
  have hbl : Below B w (w.alloc (.cells #[.int .i64 k, .int .i64 p, .int .i64 z] 44)) := (Below.refl _ _).alloc hB _
  have hal : OwnV 81 2 (w.alloc (.cells #[.int .i64 k, .int .i64 p, .int .i64 z] 44)) B A n c (os st) := h.2.below rfl (bl1 _ _)
  obtain ⟨h0, _⟩ := h
  have H0 := Lib.hid h0
  have HA := Lib.hid ha
  clear h3 h4 h0 ha
  go_enter Try.func37, Try.ntmps37
  go_wp2_with fail
  go_loopw [0, 5] (fun q _ wr => ∃ (m : Nat) (st' : List (Nat × Nat)), q = .slice A m c ∧ m ≤ 1099511627776 ∧ OwnP wr B A m c st' ∧ pops st' = pops st ∧ (∀ e ∈ st', 1 ≤ e.1 ∧ e.1 ≤ 1099511627776) ∧ Below B w wr) (fun q _ _ => lenOf q)
  case atStart => exact ⟨n, st, rfl, hn, ⟨H0.out, hal⟩, rfl, HA.out, hbl⟩
  case round =>
    obtain ⟨m, st', rfl, hm, ⟨hm0, hw⟩, hp, ha, hb⟩ := hrel
    have HP := Lib.hid hp
    have HA' := Lib.hid ha
    clear hp ha hal hbl
    cases st' with
    | nil =>
      simp only [List.length_nil] at hm0
      subst hm0
      go_wp2_with fail
      go_ret
      exact ⟨A, 0, c, rfl, by rw [← HP.out]; exact ⟨rfl, hw⟩, hb⟩
    | cons e o =>
      obtain ⟨a, t⟩ := e
      obtain ⟨ha1, ha2⟩ := HA'.out (a, t) (by simp)
      dsimp only at ha1 ha2
      obtain ⟨g, rfl, hg, hlt⟩ := hw.block (by simp at hm0; omega)
      have c0 := World.ownsRow.cellAt hw (o.length * 2) (by simp at hm0; omega)
      rw [(os_last a t o).1] at c0
      have hfree := World.ownsRow.frozenAt hw (o.length * 2)
      have hst := (World.ownsRow.stored hw (o.length * 2) (.int .i64 ((a : Int) - 1))).1
      rw [os_dec a t o ha1] at hst
      have hbs := hb.setCell (p := ⟨g, o.length * 2, none⟩) hg (.int .i64 ((a : Int) - 1))
      have hfr : OwnV 81 2 _ B _ _ c _ := OwnV.front hst o.length (by simp at hm0; omega)
      rw [os_take] at hfr
      have hcap := hw.cap
      simp only [List.length_cons] at hm0
      generalize hod : o.length = q at hm0 c0 hfree hst hbs hfr
      have HOD := Lib.hid hod
      clear hod hw
      subst hm0
      by_cases h1 : 1 < a
      · go_wp2_with fail
        go_ret
        exact ⟨_, q + 1, c, rfl, by rw [← HP.out, pops_more h1]; exact ⟨by simp [HOD.out], hst⟩, hbs⟩
      · have h1' : a ≤ 1 := by omega
        go_wp2_with fail
        go_roundw
        case rel => exact ⟨q, o, rfl, by omega, ⟨HOD.out.symm, hfr⟩, by rw [← HP.out, pops_less (by omega)], fun e he => HA'.out e (by simp [he]), hbs⟩
        case measure => simp [lenOf]
end Go.Proofs.Ytpjppglaieohlaa
