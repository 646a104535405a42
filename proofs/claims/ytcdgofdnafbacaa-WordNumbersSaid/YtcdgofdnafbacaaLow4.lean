/- Contracts and mathematics that the texts behind it stand on: Rtidyw, Samem, Samb, War, Gram, Vec, Wref. -/
import Derived.Test.YtcdgofdnafbacaaLow3
import Derived.Test.YtcdgofdnafbacaaLow1
import Derived.Test.YtcdgofdnafbacaaLow2
import Derived.Laws.StructEq
import Derived.BigQuiet
import Derived.Deep.Cut
/- Tidying a row of runs in memory, by the document's own answer. -/
namespace Go.Proofs.Ytcdgofdnafbacaa
open Go.RowKit Tab
set_option linter.unusedSimpArgs false
set_option linter.unusedVariables false

set_option maxRecDepth 100000 in
set_option maxHeartbeats 4000000 in
theorem rtidy_any (A : Option Addr) (n cap : Nat) (L : List Rn) (w : World) (h : RdR w w.heap.size A n L) (hc : n ≤ cap) (hn : n ≤ 1048576) (ht : ticks L ≤ 1099511627776) :
    Calls Try.prog 18 #[.slice A n cap] w (MadeR (tidy L) w) := by
  go_enter Try.func18, Try.ntmps18
  go_wp2_with fail
  go_loopw [3, 9] (fun q s wr => ∃ (i m c' : Nat) (A' : Option Addr), i ≤ n ∧ s = .int .i64 i ∧ q = .slice A' m c' ∧ m ≤ i ∧ OwnV 31 2 wr w.heap.size A' m c' (rs (tidy (L.take i))) ∧ Below w.heap.size w wr) (fun _ s _ => n - (intOf s).toNat)
  case atStart => exact ⟨0, 0, 0, none, by omega, rfl, rfl, by omega, by simpa [tidy, tidyOn, rs] using OwnV.nil _ _ _ _, Below.refl _ _⟩
  case round =>
    obtain ⟨i, m, c', A', hi, rfl, rfl, hm, how, hb⟩ := hrel
    have HOW := Lib.hid how
    clear how
    by_cases hlt : i < n
    · obtain ⟨ad, r, rfl, had, hr, c0, c1⟩ := (h.on hb).at_ hlt
      have hmore := tidy_more hr
      have hcs := tpush_cases (tidy (L.take i)) r
      rw [← hmore] at hcs
      have hbl := bl1 wr (.cells #[.int .i64 r.p, .int .i64 (r.n : Int)] 31)
      have hb1 := hb.trans (hbl.mono hb.size)
      have hle := tidy_take_le L (i + 1)
      have how1 := HOW.out.below rfl hbl
      have hsum : ∀ o y, tidy (L.take i) = o ++ [y] → y.n + r.n ≤ ticks L := fun o y e => tidy_one hr e
      generalize tidy (L.take i) = T at HOW hcs how1 hsum
      generalize hT1 : tidy (L.take (i + 1)) = T1 at hcs hle
      have HT1 := Lib.hid hT1
      have HB1 := Lib.hid hb1
      clear hT1 hmore hr hbl hb1 HOW
      rcases hcs with ⟨h0, e⟩ | ⟨h0, e0, e⟩ | ⟨o, y, h0, e0, hp, e⟩ | ⟨o, y, h0, e0, hp, e⟩
      · have hr1 : (r.n : Int) < 1 := by omega
        subst e
        have HOW1 := Lib.hid how1
        clear how1 hsum h0
        go_wp2_with fail
        go_roundw
        case rel => exact ⟨i + 1, m, c', A', by omega, by go_num, rfl, by omega, by rw [HT1.out]; exact HOW1.out, HB1.out⟩
        case measure => simp [intOf]; omega
      · subst e0
        have hm0 : m = 0 := by have := how1.len; simp [rs] at this; omega
        subst hm0
        have hr1 : ¬ (r.n : Int) < 1 := by omega
        subst e
        clear hsum h0
        go_wp2_with fail
        go_quiet (fail)
        have hW0 : Below wr.heap.size wr ((wr.alloc (.cells #[.int .i64 r.p, .int .i64 (r.n : Int)] 31)).drewN nq) := Below.drewN (bl1 wr _) nq
        have hs0 : wr.heap.size < ((wr.alloc (.cells #[.int .i64 r.p, .int .i64 (r.n : Int)] 31)).drewN nq).heap.size := by simp
        have b0 : ((wr.alloc (.cells #[.int .i64 r.p, .int .i64 (r.n : Int)] 31)).drewN nq).cell? ⟨wr.heap.size, 0, none⟩ = some (.int .i64 r.p) := World.cell?_alloc_mark _ _ _ _ _
        have b1 : ((wr.alloc (.cells #[.int .i64 r.p, .int .i64 (r.n : Int)] 31)).drewN nq).cell? ⟨wr.heap.size, 1, none⟩ = some (.int .i64 (r.n : Int)) := World.cell?_alloc_mark _ _ _ _ _
        have how2 : OwnV 31 2 ((wr.alloc (.cells #[.int .i64 r.p, .int .i64 (r.n : Int)] 31)).drewN nq) w.heap.size A' 0 c' (rs []) := how1.keep fun _ _ _ => rfl
        generalize (wr.alloc (.cells #[.int .i64 r.p, .int .i64 (r.n : Int)] 31)).drewN nq = W at hW0 hs0 b0 b1 how2 ⊢
        have how3 := how2.below rfl (bl1 W (.cells #[.int .i64 r.p, .int .i64 (r.n : Int)] 31))
        have hrd := rdV_new W #[.int .i64 r.p, .int .i64 (r.n : Int)] 31 (rs [r]) rfl
        have hbW := (hb.trans (hW0.mono hb.size)).alloc (by have := hb.size; omega) (.cells #[.int .i64 r.p, .int .i64 (r.n : Int)] 31)
        have hn1 : 0 + 1 ≤ 1048577 := by omega
        clear how1 how2 c0 c1
        go_wp2_with (at_builtin; go_loud (refine wpList_appV elR rfl (.tmp 45) (.tmp 47) rfl rfl w.heap.size _ _ c' _ rfl how3 _ 1 1 _ _ rfl hrd rfl (rs_one _) (by omega) (by unfold maxLen; omega) hbW.size (0 + 1) rfl (rs ([] ++ [r])) (rs_append _ _).symm ?_; intro A2 c2 w2 hw2 hb2 _))
        go_roundw
        case rel => exact ⟨i + 1, _, c2, A2, by omega, by go_num, rfl, by omega, by rw [HT1.out]; exact hw2, hbW.trans hb2⟩
        case measure => simp [intOf]; omega
      · subst e0
        have hr1 : ¬ (r.n : Int) < 1 := by omega
        have hs1 := hsum o y rfl
        obtain ⟨ad', k, rfl, rfl, hL⟩ := LastR.of how1
        obtain ⟨yp, yn⟩ := y
        obtain ⟨rp, rn⟩ := r
        dsimp only at hp hr1 hs1 c0 c1 e h0 ⊢
        subst hp
        have HL := Lib.hid hL
        have d0 := hL.c0
        have d1 := hL.c1
        have d2 := hL.f1
        have d3 := hL.lt
        dsimp only at d0 d1 d2 d3
        clear hsum h0 hL how1
        go_wp2_with fail
        go_quiet (fail)
        go_wp2_with fail
        have hbW := hb.trans ((Below.drewN (bl1 wr (.cells #[.int .i64 yp, .int .i64 (rn : Int)] 31)) nq).mono hb.size)
        have b1 : ((wr.alloc (.cells #[.int .i64 yp, .int .i64 (rn : Int)] 31)).drewN nq).cell? ⟨wr.heap.size, 1, none⟩ = some (.int .i64 (rn : Int)) := World.cell?_alloc_mark _ _ _ _ _
        have HL2 := Lib.hid (HL.out.drewN nq)
        have d1 := HL2.out.c1
        have d2 := HL2.out.f1
        have d3 := HL2.out.lt
        dsimp only at d1 d2 d3
        have HB2 := Lib.hid hbW
        clear HL d0 c0 c1 hbW HB1
        generalize (wr.alloc (.cells #[.int .i64 yp, .int .i64 (rn : Int)] 31)).drewN nq = W at b1 HL2 d1 d2 d3 HB2 ⊢
        generalize wr.heap.size = gx at b1 ⊢
        have hmr := sum_any (yn : Int) (rn : Int) _ _ W.drew (by omega) (by omega) (by omega) rfl rfl
        have hkk : (k : Int) < (k : Int) + 1 := by omega
        have hkw : IntKind.i64.wrap (k : Int) = (k : Int) := IntWalk.i64_in _ (by omega)
        go_still_tail 14, (by kernel_rfl)
        still_call hmr
        repeat still_step
        refine wpStill_nil ?_
        clear hkw
        change wpList _ _ _ _ _ W.drew
        go_wp2_with fail
        obtain ⟨hw5, hb5⟩ := (HL2.out.drew).stored (yn + rn)
        rw [Int.natCast_add] at hw5 hb5
        rw [← e] at hw5
        go_roundw
        case rel => exact ⟨i + 1, _, c', some ad', by omega, by go_num, rfl, by omega, by rw [HT1.out]; exact hw5, hb5 _ HB2.out.drew⟩
        case measure => simp [intOf]; omega
      · subst e0
        have hr1 : ¬ (r.n : Int) < 1 := by omega
        obtain ⟨ad', k, rfl, rfl, hL⟩ := LastR.of how1
        have hpb : (y.p == r.p) = false := beq_eq_false_iff_ne.2 hp
        have d0 := hL.c0
        have d3 := hL.lt
        subst e
        clear hsum h0 hL hp
        go_wp2_with fail
        go_quiet (fail)
        have hW0 : Below wr.heap.size wr ((wr.alloc (.cells #[.int .i64 r.p, .int .i64 (r.n : Int)] 31)).drewN nq) := Below.drewN (bl1 wr _) nq
        have hs0 : wr.heap.size < ((wr.alloc (.cells #[.int .i64 r.p, .int .i64 (r.n : Int)] 31)).drewN nq).heap.size := by simp
        have b0 : ((wr.alloc (.cells #[.int .i64 r.p, .int .i64 (r.n : Int)] 31)).drewN nq).cell? ⟨wr.heap.size, 0, none⟩ = some (.int .i64 r.p) := World.cell?_alloc_mark _ _ _ _ _
        have b1 : ((wr.alloc (.cells #[.int .i64 r.p, .int .i64 (r.n : Int)] 31)).drewN nq).cell? ⟨wr.heap.size, 1, none⟩ = some (.int .i64 (r.n : Int)) := World.cell?_alloc_mark _ _ _ _ _
        have how2 : OwnV 31 2 ((wr.alloc (.cells #[.int .i64 r.p, .int .i64 (r.n : Int)] 31)).drewN nq) w.heap.size (some ad') (k + 1) c' (rs (o ++ [y])) := how1.keep fun _ _ _ => rfl
        generalize (wr.alloc (.cells #[.int .i64 r.p, .int .i64 (r.n : Int)] 31)).drewN nq = W at hW0 hs0 b0 b1 how2 ⊢
        have how3 := how2.below rfl (bl1 W (.cells #[.int .i64 r.p, .int .i64 (r.n : Int)] 31))
        have hrd := rdV_new W #[.int .i64 r.p, .int .i64 (r.n : Int)] 31 (rs [r]) rfl
        have hbW := (hb.trans (hW0.mono hb.size)).alloc (by have := hb.size; omega) (.cells #[.int .i64 r.p, .int .i64 (r.n : Int)] 31)
        have hn1 : (k + 1) + 1 ≤ 1048577 := by omega
        clear how1 how2 c0 c1
        go_wp2_with (at_builtin; go_loud (refine wpList_appV elR rfl (.tmp 45) (.tmp 47) rfl rfl w.heap.size _ _ c' _ rfl how3 _ 1 1 _ _ rfl hrd rfl (rs_one _) (by omega) (by unfold maxLen; omega) hbW.size ((k + 1) + 1) rfl (rs ((o ++ [y]) ++ [r])) (rs_append _ _).symm ?_; intro A2 c2 w2 hw2 hb2 _))
        go_roundw
        case rel => exact ⟨i + 1, _, c2, A2, by omega, by go_num, rfl, by omega, by rw [HT1.out]; exact hw2, hbW.trans hb2⟩
        case measure => simp [intOf]; omega
    · have hge : n ≤ i := by omega
      have e : L.take i = L := List.take_of_length_le (by rw [h.len]; exact hge)
      have how2 := HOW.out
      rw [e] at how2
      have HOW2 := Lib.hid how2
      clear e how2 HOW
      go_wp2_with fail
      go_ret
      have hl := HOW2.out.len
      rw [rs_length] at hl
      have hl2 : m = (tidy L).length := by omega
      subst hl2
      exact ⟨A', c', rfl, HOW2.out.rdr, HOW2.out.cap, hb, HOW2.out.newer⟩
end Go.Proofs.Ytcdgofdnafbacaa

/- Rows that are the same, or not: plain mathematics. -/
namespace Go.Proofs.Ytcdgofdnafbacaa
namespace Tab

def ndEq (x y : Nd) : Bool := decide (x.k = y.k) && decide (x.p = y.p) && decide (x.n = y.n)
theorem ndEq_iff (x y : Nd) : ndEq x y = true ↔ x = y := by
  obtain ⟨a, b, c⟩ := x
  obtain ⟨d, e, f⟩ := y
  unfold ndEq
  simp [Nd.mk.injEq, and_assoc]
def sameN : List Nd → List Nd → Bool
  | [], [] => true
  | x :: a, y :: b => ndEq x y && sameN a b
  | _, _ => false
theorem sameN_iff (a b : List Nd) : sameN a b = true ↔ a = b := by
  induction a generalizing b with
  | nil => cases b <;> simp [sameN]
  | cons x a ih =>
    cases b with
    | nil => simp [sameN]
    | cons y b => simp only [sameN, Bool.and_eq_true, ndEq_iff, ih, List.cons.injEq]
theorem sameN_len {a b : List Nd} (h : ¬ a.length = b.length) : sameN a b = false := by
  cases hs : sameN a b with
  | false => rfl
  | true => rw [sameN_iff] at hs; rw [hs] at h; exact absurd rfl h
def rnEq (x y : Rn) : Bool := decide (x.p = y.p) && decide (x.n = y.n)
theorem rnEq_iff (x y : Rn) : rnEq x y = true ↔ x = y := by
  obtain ⟨a, b⟩ := x
  obtain ⟨d, e⟩ := y
  unfold rnEq
  simp [Rn.mk.injEq]
def sameR : List Rn → List Rn → Bool
  | [], [] => true
  | x :: a, y :: b => rnEq x y && sameR a b
  | _, _ => false
theorem sameR_iff (a b : List Rn) : sameR a b = true ↔ a = b := by
  induction a generalizing b with
  | nil => cases b <;> simp [sameR]
  | cons x a ih =>
    cases b with
    | nil => simp [sameR]
    | cons y b => simp only [sameR, Bool.and_eq_true, rnEq_iff, ih, List.cons.injEq]
theorem sameR_len {a b : List Rn} (h : ¬ a.length = b.length) : sameR a b = false := by
  cases hs : sameR a b with
  | false => rfl
  | true => rw [sameR_iff] at hs; rw [hs] at h; exact absurd rfl h
theorem drop_rn {l : List Rn} {i : Nat} {x : Rn} (h : l[i]? = some x) : l.drop i = x :: l.drop (i + 1) := by
  obtain ⟨hi, e⟩ := List.getElem?_eq_some_iff.1 h
  rw [List.drop_eq_getElem_cons hi, e]
end Tab
end Go.Proofs.Ytcdgofdnafbacaa

/- Rows of nodes, of runs, held against each other in memory: a walk that only reads. -/
namespace Go.Proofs.Ytcdgofdnafbacaa
open Go.RowKit Tab
set_option linter.unusedSimpArgs false
set_option linter.unusedVariables false

/-- It answers v, and turns nothing; it may draw. -/
def Qui (v : Value) (w : World) (e : Ending) (w' : World) : Prop := e = .returned v ∧ ∃ m, w' = w.drewN m
theorem Qui.ans {v : Value} {w w' : World} {e : Ending} (h : Qui v w e w') : Ans v w e w' := by
  obtain ⟨h1, m, rfl⟩ := h
  exact ⟨h1, Below.drewN (Below.refl _ _) m⟩
/-- In a quiet walk behind draws. -/
theorem Qui.sum {P : Program} {f : FuncId} {args : Array Value} {w : World} {q n : Nat} {v : Value} (h : Calls P f args (w.drewN (q + n)) (Qui v (w.drewN (q + n)))) : Calls P f args (w.drewN (q + n)) fun e w'' => e = .returned v ∧ ∃ m, w'' = w.drewN (q + m) :=
  h.mono fun _ _ ⟨he, m, hm⟩ => ⟨he, n + m, by rw [hm, World.drewN_drewN, Nat.add_assoc]⟩
theorem rn_neqs (x y : Rn) (W : World) : (binOp .neq 31 (rv x.p (x.n : Int)) (rv y.p (y.n : Int))).run Try.prog W = .ok (.bool (!(rnEq x y))) W := by
  obtain ⟨a, b⟩ := x
  obtain ⟨d, e⟩ := y
  unfold rnEq
  by_cases h1 : a = d
  · by_cases h2 : b = e
    · subst h1; subst h2
      simp [run_neq_struct, go_sem]
    · subst h1
      have h3 : ¬ (b : Int) = (e : Int) := by omega
      simp [run_neq_struct, go_sem, h2, h3]
  · simp [run_neq_struct, go_sem, h1]
set_option maxRecDepth 100000 in
set_option maxHeartbeats 1600000 in
theorem eqr_any (A1 A2 : Option Addr) (n m c1 c2 : Nat) (l1 l2 : List Rn) (w : World) (h1 : RdR w w.heap.size A1 n l1) (h2 : RdR w w.heap.size A2 m l2) (hn : n ≤ 1048576) :
    Calls Try.prog 35 #[.slice A1 n c1, .slice A2 m c2] w (Qui (.bool (sameR l1 l2)) w) := by
  by_cases hnm : n = m
  · subst hnm
    generalize hb : sameR l1 l2 = b
    have HB := Lib.hid hb
    clear hb
    go_enter Try.func35, Try.ntmps35
    go_wp2_with fail
    go_loopw [5, 13] (fun _ s wr => ∃ i q : Nat, i ≤ n ∧ s = .int .i64 i ∧ sameR (l1.drop i) (l2.drop i) = b ∧ wr = w.drewN q) (fun _ s _ => n - (intOf s).toNat)
    case atStart => exact ⟨0, 0, by omega, rfl, by simpa using HB.out, rfl⟩
    case round =>
      obtain ⟨i, q, hi, rfl, hs, rfl⟩ := hrel
      have HS := Lib.hid hs
      clear hs
      by_cases hlt : i < n
      · obtain ⟨ad, x, rfl, _, hx, c0, c1'⟩ := h1.at_ hlt
        obtain ⟨ad2, y, rfl, _, hy, d0, d1⟩ := h2.at_ hlt
        have e1 := drop_rn hx
        have e2 := drop_rn hy
        have hst := HS.out
        rw [e1, e2] at hst
        simp only [sameR] at hst
        have HST := Lib.hid hst
        have hne := fun W => rn_neqs x y W
        obtain ⟨xp, xn⟩ := x
        obtain ⟨yp, yn⟩ := y
        dsimp only at c0 c1' d0 d1 hne
        clear hx hy e1 e2 hst HS
        generalize hE : rnEq ⟨xp, xn⟩ ⟨yp, yn⟩ = E at HST hne
        clear hE
        cases E with
        | true =>
          have hne : ∀ W, (binOp .neq 31 (rv xp (xn : Int)) (rv yp (yn : Int))).run Try.prog W = .ok (.bool false) W := hne
          go_wp2_with fail
          go_quiet (fail)
          go_wp2_with fail
          go_roundw
          case rel => exact ⟨i + 1, q + nq, by omega, by go_num, by simpa using HST.out, rfl⟩
          case measure => simp [intOf]; omega
        | false =>
          have hne : ∀ W, (binOp .neq 31 (rv xp (xn : Int)) (rv yp (yn : Int))).run Try.prog W = .ok (.bool true) W := hne
          go_wp2_with fail
          go_quiet (fail)
          go_wp2_with fail
          go_ret
          exact ⟨by have := HST.out; simp at this; rw [← this]; rfl, q + nq, by rw [World.drewN_drewN]⟩
      · have hge : n ≤ i := by omega
        have e1 : l1.drop i = [] := List.drop_eq_nil_of_le (by rw [h1.len]; exact hge)
        have e2 : l2.drop i = [] := List.drop_eq_nil_of_le (by rw [h2.len]; exact hge)
        have hst := HS.out
        rw [e1, e2] at hst
        have HST := Lib.hid hst
        clear hst HS e1 e2
        go_wp2_with fail
        go_ret
        exact ⟨by rw [← HST.out]; rfl, q, rfl⟩
  · have hb := sameR_len (a := l1) (b := l2) (by rw [h1.len, h2.len]; exact hnm)
    rw [hb]
    have h3 : ((n : Int) == (m : Int)) = false := beq_eq_false_iff_ne.2 (by omega)
    have h4 : ((n : Int) != (m : Int)) = true := by rw [bne, h3]; rfl
    clear hb h1 h2
    go_enter Try.func35, Try.ntmps35
    go_wp2_with fail
    go_ret
    exact ⟨rfl, 0, rfl⟩
set_option maxHeartbeats 400000 in
theorem rsame_any (A1 A2 : Option Addr) (n m c1 c2 : Nat) (l1 l2 : List Rn) (w : World) (h1 : RdR w w.heap.size A1 n l1) (h2 : RdR w w.heap.size A2 m l2) (hn : n ≤ 1048576) :
    Calls Try.prog 30 #[.slice A1 n c1, .slice A2 m c2] w (Qui (.bool (sameR l1 l2)) w) := by
  have H := Lib.hid (eqr_any A1 A2 n m c1 c2 l1 l2 w h1 h2 hn)
  clear h1 h2
  generalize sameR l1 l2 = b at H ⊢
  go_enter Try.func30, Try.ntmps30
  go_wp2_with fail
  refine H.out.mono ?_
  rintro e w1 ⟨rfl, q, rfl⟩
  go_wp2_with fail
  go_ret
  exact ⟨rfl, q, rfl⟩
set_option maxRecDepth 100000 in
set_option maxHeartbeats 1600000 in
theorem xsame_any (A1 A2 : Option Addr) (n m c1 c2 : Nat) (l1 l2 : List Rn) (w : World) (h1 : RdR w w.heap.size A1 n l1) (h2 : RdR w w.heap.size A2 m l2) (hn : n ≤ 1048576) :
    Calls Try.prog 12 #[.slice A1 n c1, .slice A2 m c2] w (Qui (.bool (sameR l1 l2)) w) := by
  by_cases hnm : n = m
  · subst hnm
    generalize hb : sameR l1 l2 = b
    have HB := Lib.hid hb
    clear hb
    go_enter Try.func12, Try.ntmps12
    go_wp2_with fail
    go_loopw [5, 13] (fun _ s wr => ∃ i q : Nat, i ≤ n ∧ s = .int .i64 i ∧ sameR (l1.drop i) (l2.drop i) = b ∧ wr = w.drewN q) (fun _ s _ => n - (intOf s).toNat)
    case atStart => exact ⟨0, 0, by omega, rfl, by simpa using HB.out, rfl⟩
    case round =>
      obtain ⟨i, q, hi, rfl, hs, rfl⟩ := hrel
      have HS := Lib.hid hs
      clear hs
      by_cases hlt : i < n
      · obtain ⟨ad, x, rfl, _, hx, c0, c1'⟩ := h1.at_ hlt
        obtain ⟨ad2, y, rfl, _, hy, d0, d1⟩ := h2.at_ hlt
        have e1 := drop_rn hx
        have e2 := drop_rn hy
        have hst := HS.out
        rw [e1, e2] at hst
        simp only [sameR] at hst
        have HST := Lib.hid hst
        have hne := fun W => rn_neqs x y W
        obtain ⟨xp, xn⟩ := x
        obtain ⟨yp, yn⟩ := y
        dsimp only at c0 c1' d0 d1 hne
        clear hx hy e1 e2 hst HS
        generalize hE : rnEq ⟨xp, xn⟩ ⟨yp, yn⟩ = E at HST hne
        clear hE
        cases E with
        | true =>
          have hne : ∀ W, (binOp .neq 31 (rv xp (xn : Int)) (rv yp (yn : Int))).run Try.prog W = .ok (.bool false) W := hne
          go_wp2_with fail
          go_quiet (fail)
          go_wp2_with fail
          go_roundw
          case rel => exact ⟨i + 1, q + nq, by omega, by go_num, by simpa using HST.out, rfl⟩
          case measure => simp [intOf]; omega
        | false =>
          have hne : ∀ W, (binOp .neq 31 (rv xp (xn : Int)) (rv yp (yn : Int))).run Try.prog W = .ok (.bool true) W := hne
          go_wp2_with fail
          go_quiet (fail)
          go_wp2_with fail
          go_ret
          exact ⟨by have := HST.out; simp at this; rw [← this]; rfl, q + nq, by rw [World.drewN_drewN]⟩
      · have hge : n ≤ i := by omega
        have e1 : l1.drop i = [] := List.drop_eq_nil_of_le (by rw [h1.len]; exact hge)
        have e2 : l2.drop i = [] := List.drop_eq_nil_of_le (by rw [h2.len]; exact hge)
        have hst := HS.out
        rw [e1, e2] at hst
        have HST := Lib.hid hst
        clear hst HS e1 e2
        go_wp2_with fail
        go_ret
        exact ⟨by rw [← HST.out]; rfl, q, rfl⟩
  · have hb := sameR_len (a := l1) (b := l2) (by rw [h1.len, h2.len]; exact hnm)
    rw [hb]
    have h3 : ((n : Int) == (m : Int)) = false := beq_eq_false_iff_ne.2 (by omega)
    have h4 : ((n : Int) != (m : Int)) = true := by rw [bne, h3]; rfl
    clear hb h1 h2
    go_enter Try.func12, Try.ntmps12
    go_wp2_with fail
    go_ret
    exact ⟨rfl, 0, rfl⟩
end Go.Proofs.Ytcdgofdnafbacaa

/- Closing a matrix: Warshall's recurrence, what it is (the least that is closed), what grows with it; who depends on whom, who sways whom, out of partitions and channels: plain mathematics. -/
namespace Go.Proofs.Ytcdgofdnafbacaa
namespace Tab

/-- What is reached by ways through those below k. -/
def War (m : Nat → Nat → Bool) : Nat → Nat → Nat → Bool
  | 0, a, b => m a b
  | k + 1, a, b => War m k a b || (War m k a k && War m k k b)
theorem war_ge (m : Nat → Nat → Bool) (k a b : Nat) (h : War m k a b = true) : War m (k + 1) a b = true := by
  simp only [War, h, Bool.true_or]
theorem war_up (m : Nat → Nat → Bool) (k d a b : Nat) (h : War m k a b = true) : War m (k + d) a b = true := by
  induction d with
  | zero => exact h
  | succ d ih => exact war_ge m (k + d) a b ih
theorem war_from (m : Nat → Nat → Bool) (n a b : Nat) (h : m a b = true) : War m n a b = true := by
  have := war_up m 0 n a b h
  rwa [Nat.zero_add] at this
/-- Row and column k stay in step k: so it may be done in place. -/
theorem war_col (m : Nat → Nat → Bool) (k a : Nat) : War m (k + 1) a k = War m k a k := by
  simp only [War]
  cases War m k a k <;> simp
theorem war_row (m : Nat → Nat → Bool) (k b : Nat) : War m (k + 1) k b = War m k k b := by
  simp only [War]
  cases War m k k k <;> cases War m k k b <;> simp
theorem war_step {m : Nat → Nat → Bool} {k a b : Nat} : War m (k + 1) a b = true ↔ War m k a b = true ∨ (War m k a k = true ∧ War m k k b = true) := by
  simp only [War, Bool.or_eq_true, Bool.and_eq_true]
theorem war_trans (m : Nat → Nat → Bool) (k : Nat) : ∀ a b c, c < k → War m k a c = true → War m k c b = true → War m k a b = true := by
  induction k with
  | zero => intro a b c h; omega
  | succ k ih =>
    intro a b c hc h1 h2
    by_cases hk : c = k
    · subst hk
      rw [war_col] at h1
      rw [war_row] at h2
      exact war_step.2 (.inr ⟨h1, h2⟩)
    · have hlt : c < k := by omega
      rw [war_step] at h1 h2 ⊢
      rcases h1 with h1 | ⟨h1, h1'⟩ <;> rcases h2 with h2 | ⟨h2, h2'⟩
      · exact .inl (ih a b c hlt h1 h2)
      · exact .inr ⟨ih a k c hlt h1 h2, h2'⟩
      · exact .inr ⟨h1, ih k b c hlt h1' h2⟩
      · exact .inr ⟨h1, h2'⟩
/-- Closed below n. -/
def Shut (n : Nat) (M : Nat → Nat → Bool) : Prop := ∀ a b c, a < n → b < n → c < n → M a c = true → M c b = true → M a b = true
theorem war_shut (m : Nat → Nat → Bool) (n : Nat) : Shut n (War m n) := fun a b c _ _ hc h1 h2 => war_trans m n a b c hc h1 h2
/-- No closed one that has m has less. -/
theorem war_least {m M : Nat → Nat → Bool} {n : Nat} (hM : Shut n M) (hm : ∀ a b, a < n → b < n → m a b = true → M a b = true) (k : Nat) (hk : k ≤ n) : ∀ a b, a < n → b < n → War m k a b = true → M a b = true := by
  induction k with
  | zero => intro a b ha hb h; exact hm a b ha hb h
  | succ k ih =>
    intro a b ha hb h
    rcases war_step.1 h with h | ⟨h1, h2⟩
    · exact ih (by omega) a b ha hb h
    · exact hM a b k ha hb (by omega) (ih (by omega) a k ha (by omega) h1) (ih (by omega) k b (by omega) hb h2)
/-- What is closed stays. -/
theorem war_stays {M : Nat → Nat → Bool} {n : Nat} (hM : Shut n M) (a b : Nat) (ha : a < n) (hb : b < n) : War M n a b = M a b := by
  rw [Bool.eq_iff_iff]
  exact ⟨war_least hM (fun _ _ _ _ h => h) n (Nat.le_refl _) a b ha hb, war_from M n a b⟩
/-- Whatever closes m to the least is this. -/
theorem war_is {m M : Nat → Nat → Bool} {n : Nat} (hM : Shut n M) (hm : ∀ a b, a < n → b < n → m a b = true → M a b = true) (hl : ∀ a b, a < n → b < n → M a b = true → War m n a b = true) (a b : Nat) (ha : a < n) (hb : b < n) : M a b = War m n a b := by
  rw [Bool.eq_iff_iff]
  exact ⟨hl a b ha hb, war_least hM hm n (Nat.le_refl _) a b ha hb⟩
/-- More is reached by more. -/
theorem war_more {m M : Nat → Nat → Bool} {n : Nat} (hm : ∀ a b, a < n → b < n → m a b = true → M a b = true) : ∀ a b, a < n → b < n → War m n a b = true → War M n a b = true :=
  war_least (war_shut M n) (fun a b ha hb h => war_from M n a b (hm a b ha hb h)) n (Nat.le_refl _)
/-- It hangs on what is below n alone. -/
theorem war_congr {m M : Nat → Nat → Bool} {n : Nat} (h : ∀ a b, a < n → b < n → m a b = M a b) (k : Nat) (hk : k ≤ n) : ∀ a b, a < n → b < n → War m k a b = War M k a b := by
  induction k with
  | zero => intro a b ha hb; exact h a b ha hb
  | succ k ih =>
    intro a b ha hb
    simp only [War]
    rw [ih (by omega) a b ha hb, ih (by omega) a k ha (by omega), ih (by omega) k b (by omega) hb]

/-- A partition: may it change the schedule, stop all. -/
structure Pt where
  sched : Bool
  stop : Bool
/-- A channel: from whom, to whom, is it a queue. -/
structure Ch where
  from_ : Int
  to_ : Int
  queue : Bool
def inP (n : Nat) (p : Int) : Bool := decide (0 ≤ p) && decide (p < n)
def schedOf (P : List Pt) (a : Nat) : Bool := (P[a]?.map (·.sched)).getD false
def stopOf (P : List Pt) (a : Nat) : Bool := (P[a]?.map (·.stop)).getD false
/-- Does a channel join a and b, this way? -/
def joins (n : Nat) (x : Ch) (a b : Nat) : Bool := inP n x.from_ && inP n x.to_ && decide (x.from_ = a) && decide (x.to_ = b)
def depF (P : List Pt) (C : List Ch) (a b : Nat) : Bool := decide (a = b) || (schedOf P a && schedOf P b) || C.any fun x => joins P.length x a b || joins P.length x b a
def swayF (P : List Pt) (C : List Ch) (a b : Nat) : Bool := decide (a = b) || schedOf P a || stopOf P a || C.any fun x => joins P.length x a b || (x.queue && joins P.length x b a)
theorem depF_sym (P : List Pt) (C : List Ch) (a b : Nat) : depF P C a b = depF P C b a := by
  unfold depF
  congr 1
  · congr 1
    · exact decide_eq_decide.2 eq_comm
    · exact Bool.and_comm _ _
  · congr 1
    funext x
    exact Bool.or_comm _ _
theorem depF_self (P : List Pt) (C : List Ch) (a : Nat) : depF P C a a = true := by simp [depF]
theorem swayF_self (P : List Pt) (C : List Ch) (a : Nat) : swayF P C a a = true := by simp [swayF]
theorem depF_chan {P : List Pt} {C : List Ch} {x : Ch} {a b : Nat} (hx : x ∈ C) (h : joins P.length x a b = true) : depF P C a b = true ∧ depF P C b a = true := by
  have h1 : depF P C a b = true := by
    unfold depF
    simp only [Bool.or_eq_true, List.any_eq_true]
    exact .inr ⟨x, hx, .inl h⟩
  exact ⟨h1, by rw [depF_sym]; exact h1⟩
theorem swayF_chan {P : List Pt} {C : List Ch} {x : Ch} {a b : Nat} (hx : x ∈ C) (h : joins P.length x a b = true) : swayF P C a b = true ∧ (x.queue = true → swayF P C b a = true) := by
  unfold swayF
  simp only [Bool.or_eq_true, List.any_eq_true, Bool.and_eq_true]
  exact ⟨.inr ⟨x, hx, .inl h⟩, fun hq => .inr ⟨x, hx, .inr ⟨hq, h⟩⟩⟩
/-- With a channel more nobody sways fewer. -/
theorem swayF_more (P : List Pt) (C D : List Ch) (a b : Nat) (h : swayF P C a b = true) : swayF P (C ++ D) a b = true := by
  unfold swayF at h ⊢
  rw [List.any_append]
  revert h
  cases decide (a = b) <;> cases schedOf P a <;> cases stopOf P a <;> cases (C.any fun x => joins P.length x a b || (x.queue && joins P.length x b a)) <;> simp
/-- The channels one by one, from the first on: what a loop over them has done. -/
theorem depF_snoc (P : List Pt) (C : List Ch) (x : Ch) (a b : Nat) : depF P (C ++ [x]) a b = (depF P C a b || (joins P.length x a b || joins P.length x b a)) := by
  unfold depF
  rw [List.any_append, List.any_cons, List.any_nil, Bool.or_false, Bool.or_assoc _ _ (joins P.length x a b || joins P.length x b a)]
theorem swayF_snoc (P : List Pt) (C : List Ch) (x : Ch) (a b : Nat) : swayF P (C ++ [x]) a b = (swayF P C a b || (joins P.length x a b || (x.queue && joins P.length x b a))) := by
  unfold swayF
  rw [List.any_append, List.any_cons, List.any_nil, Bool.or_false, Bool.or_assoc _ _ (joins P.length x a b || (x.queue && joins P.length x b a))]
/-- Who reaches p, rising. -/
def reachL (P : List Pt) (C : List Ch) (p : Nat) : List Nat := (List.range P.length).filter fun a => War (swayF P C) P.length a p
theorem reachL_self (P : List Pt) (C : List Ch) (p : Nat) (h : p < P.length) : p ∈ reachL P C p := by
  unfold reachL
  rw [List.mem_filter, List.mem_range]
  exact ⟨h, war_from _ _ _ _ (swayF_self P C p)⟩
theorem filter_sub {q r : Nat → Bool} (l : List Nat) (h : ∀ a ∈ l, q a = true → r a = true) : (l.filter q).Sublist (l.filter r) := by
  induction l with
  | nil => exact List.Sublist.refl _
  | cons x l ih =>
    have h1 := ih fun a ha => h a (by simp [ha])
    cases hq : q x with
    | true => rw [List.filter_cons_of_pos hq, List.filter_cons_of_pos (h x (by simp) hq)]; exact h1.cons_cons x
    | false =>
      rw [List.filter_cons_of_neg (by simp [hq])]
      cases hr : r x with
      | true => rw [List.filter_cons_of_pos hr]; exact h1.cons x
      | false => rw [List.filter_cons_of_neg (by simp [hr])]; exact h1
/-- With channels more it is reached by those, and others between them. -/
theorem reachL_more (P : List Pt) (C D : List Ch) (p : Nat) (hp : p < P.length) : (reachL P C p).Sublist (reachL P (C ++ D) p) := by
  unfold reachL
  refine filter_sub _ fun a ha h => ?_
  rw [List.mem_range] at ha
  exact war_more (fun x y _ _ h => swayF_more P C D x y h) a p ha hp h
end Tab
end Go.Proofs.Ytcdgofdnafbacaa

/- Searching a graph by a list of things to do; closing by searches; who reaches by channels, back from one: plain mathematics. -/
namespace Go.Proofs.Ytcdgofdnafbacaa
namespace Tab

/-- What is led to: the first ones, and whom a step leads to from there. -/
inductive Rch (S : Nat → List Nat) (F : List Nat) : Nat → Prop
  | base {a : Nat} : a ∈ F → Rch S F a
  | step {a b : Nat} : Rch S F b → a ∈ S b → Rch S F a
theorem Rch.from {S : Nat → List Nat} {F G : List Nat} (h : ∀ a ∈ F, Rch S G a) {a : Nat} (ha : Rch S F a) : Rch S G a := by
  induction ha with
  | base h1 => exact h _ h1
  | step _ h2 ih => exact .step ih h2
def put1 {α : Type} (f : Nat → α) (i : Nat) (v : α) : Nat → α := fun j => if j = i then v else f j
theorem put1_same {α : Type} (f : Nat → α) (i : Nat) (v : α) : put1 f i v i = v := if_pos rfl
theorem put1_other {α : Type} {f : Nat → α} {i j : Nat} {v : α} (h : j ≠ i) : put1 f i v j = f j := if_neg h
/-- Those below n that are not marked. -/
def un : Nat → (Nat → Bool) → Nat
  | 0, _ => 0
  | n + 1, M => un n M + if M n = true then 0 else 1
theorem un_congr {n : Nat} {M N : Nat → Bool} (h : ∀ j, j < n → M j = N j) : un n M = un n N := by
  induction n with
  | zero => rfl
  | succ n ih => simp only [un]; rw [ih fun j hj => h j (by omega), h n (by omega)]
theorem un_put {n : Nat} {M : Nat → Bool} {x : Nat} (hx : x < n) (h : M x = false) : un n (put1 M x true) + 1 = un n M := by
  induction n with
  | zero => omega
  | succ n ih =>
    simp only [un]
    by_cases e : x = n
    · subst e
      rw [put1_same, h, if_pos rfl, if_neg (by simp), un_congr (N := M) fun j hj => put1_other (by omega)]
    · have := ih (by omega)
      rw [put1_other (j := n) (by omega)]
      omega
/-- Whatever must be marked is, or is yet to come. -/
structure Cov (n : Nat) (S : Nat → List Nat) (F : List Nat) (M : Nat → Bool) (T : List (List Nat)) : Prop where
  first : ∀ x ∈ F, M x = true ∨ ∃ L ∈ T, x ∈ L
  next : ∀ b, b < n → M b = true → ∀ y ∈ S b, M y = true ∨ ∃ L ∈ T, y ∈ L
  snd : ∀ a, M a = true → Rch S F a
  todo : ∀ L ∈ T, ∀ x ∈ L, x < n ∧ Rch S F x
section
variable {n : Nat} {S : Nat → List Nat} {F : List Nat} {M : Nat → Bool} {T : List (List Nat)}
theorem Cov.start (hF : ∀ x ∈ F, x < n) : Cov n S F (fun _ => false) [F] :=
  ⟨fun x hx => .inr ⟨F, by simp, hx⟩, fun b _ h => by simp at h, fun a h => by simp at h, fun L hL x hx => by simp at hL; subst hL; exact ⟨hF x hx, .base hx⟩⟩
theorem Cov.pop {L : List Nat} (h : Cov n S F M (T ++ [L])) : Cov n S F M (L :: T) := by
  have e : ∀ K : List Nat, K ∈ T ++ [L] ↔ K ∈ L :: T := fun K => by simp [or_comm]
  refine ⟨fun x hx => (h.first x hx).imp id fun ⟨K, hK, h2⟩ => ⟨K, (e K).1 hK, h2⟩, fun b hb hm y hy => (h.next b hb hm y hy).imp id fun ⟨K, hK, h2⟩ => ⟨K, (e K).1 hK, h2⟩, h.snd, fun K hK => h.todo K ((e K).2 hK)⟩
theorem Cov.drop (h : Cov n S F M ([] :: T)) : Cov n S F M T := by
  refine ⟨fun x hx => (h.first x hx).imp id ?_, fun b hb hm y hy => (h.next b hb hm y hy).imp id ?_, h.snd, fun K hK => h.todo K (by simp [hK])⟩
  all_goals
    rintro ⟨K, hK, h2⟩
    rcases List.mem_cons.1 hK with e | hK
    · subst e; cases h2
    · exact ⟨K, hK, h2⟩
theorem Cov.skip {x : Nat} {L : List Nat} (h : Cov n S F M ((x :: L) :: T)) (hx : M x = true) : Cov n S F M (L :: T) := by
  have key : ∀ y, (M y = true ∨ ∃ K ∈ (x :: L) :: T, y ∈ K) → (M y = true ∨ ∃ K ∈ L :: T, y ∈ K) := by
    rintro y (h1 | ⟨K, hK, h2⟩)
    · exact .inl h1
    · rcases List.mem_cons.1 hK with e | hK
      · subst e
        rcases List.mem_cons.1 h2 with e | h2
        · subst e; exact .inl hx
        · exact .inr ⟨L, by simp, h2⟩
      · exact .inr ⟨K, by simp [hK], h2⟩
  refine ⟨fun y hy => key y (h.first y hy), fun b hb hm y hy => key y (h.next b hb hm y hy), h.snd, fun K hK y hy => ?_⟩
  rcases List.mem_cons.1 hK with e | hK
  · subst e; exact h.todo _ List.mem_cons_self y (List.mem_cons_of_mem _ hy)
  · exact h.todo K (by simp [hK]) y hy
theorem Cov.mark {x : Nat} {L : List Nat} (h : Cov n S F M ((x :: L) :: T)) (hS : ∀ b, b < n → ∀ y ∈ S b, y < n) : Cov n S F (put1 M x true) (L :: (T ++ [S x])) := by
  have hx := h.todo (x :: L) (by simp) x (by simp)
  have mono : ∀ y, M y = true → put1 M x true y = true := fun y hy => by
    by_cases e : y = x
    · subst e; exact put1_same _ _ _
    · rw [put1_other e]; exact hy
  have key : ∀ y, (M y = true ∨ ∃ K ∈ (x :: L) :: T, y ∈ K) → (put1 M x true y = true ∨ ∃ K ∈ L :: (T ++ [S x]), y ∈ K) := by
    rintro y (h1 | ⟨K, hK, h2⟩)
    · exact .inl (mono y h1)
    · rcases List.mem_cons.1 hK with e | hK
      · subst e
        rcases List.mem_cons.1 h2 with e | h2
        · subst e; exact .inl (put1_same _ _ _)
        · exact .inr ⟨L, by simp, h2⟩
      · exact .inr ⟨K, by simp [hK], h2⟩
  refine ⟨fun y hy => key y (h.first y hy), fun b hb hm y hy => ?_, fun a ha => ?_, fun K hK y hy => ?_⟩
  · by_cases e : b = x
    · subst e; exact .inr ⟨S b, by simp, hy⟩
    · rw [put1_other e] at hm
      exact key y (h.next b hb hm y hy)
  · by_cases e : a = x
    · subst e; exact hx.2
    · rw [put1_other e] at ha
      exact h.snd a ha
  · rcases List.mem_cons.1 hK with e | hK
    · subst e; exact h.todo _ List.mem_cons_self y (List.mem_cons_of_mem _ hy)
    · rcases List.mem_append.1 hK with hK | hK
      · exact h.todo K (by simp [hK]) y hy
      · simp at hK
        subst hK
        exact ⟨hS x hx.1 y hy, .step hx.2 hy⟩
theorem Cov.done (h : Cov n S F M []) (hF : ∀ x ∈ F, x < n) (hS : ∀ b, b < n → ∀ y ∈ S b, y < n) (a : Nat) : M a = true ↔ Rch S F a := by
  refine ⟨h.snd a, fun ha => ?_⟩
  have key : M a = true ∧ a < n := by
    induction ha with
    | base h1 =>
      rcases h.first _ h1 with h2 | ⟨K, hK, _⟩
      · exact ⟨h2, hF _ h1⟩
      · cases hK
    | step _ h2 ih =>
      rcases h.next _ ih.2 ih.1 _ h2 with h3 | ⟨K, hK, _⟩
      · exact ⟨h3, hS _ ih.2 _ h2⟩
      · cases hK
  exact key.1
end
/-- Where a row is true, rising. -/
def plcs (n : Nat) (r : Nat → Bool) : List Nat := (List.range n).filter r
theorem mem_plcs {n : Nat} {r : Nat → Bool} {a : Nat} : a ∈ plcs n r ↔ a < n ∧ r a = true := by simp [plcs, List.mem_filter]
theorem plcs_succ (n : Nat) (r : Nat → Bool) : plcs (n + 1) r = if r n = true then plcs n r ++ [n] else plcs n r := by
  unfold plcs
  rw [List.range_succ, List.filter_append]
  split <;> simp_all
theorem plcs_len (n : Nat) (r : Nat → Bool) : (plcs n r).length ≤ n := by
  unfold plcs
  have := List.length_filter_le r (List.range n)
  rwa [List.length_range] at this
theorem plcs_congr {n : Nat} {r s : Nat → Bool} (h : ∀ a, a < n → r a = s a) : plcs n r = plcs n s := by
  unfold plcs
  exact List.filter_congr fun a ha => h a (by simpa using ha)
/-- Searches from everywhere close a matrix. -/
theorem rch_war {n : Nat} {m M : Nat → Nat → Bool} (h : ∀ a, a < n → ∀ b, M a b = true ↔ Rch (fun x => plcs n (m x)) (plcs n (m a)) b) (a b : Nat) (ha : a < n) (hb : b < n) : M a b = War m n a b := by
  refine war_is (fun a b c ha hb hc h1 h2 => ?_) (fun a b ha hb h1 => ?_) (fun a b ha hb h1 => ?_) a b ha hb
  · rw [h a ha] at h1 ⊢
    rw [h c hc] at h2
    exact Rch.from (fun x hx => .step h1 hx) h2
  · rw [h a ha]
    exact .base (mem_plcs.2 ⟨hb, h1⟩)
  · rw [h a ha] at h1
    have key : b < n ∧ War m n a b = true := by
      clear hb
      induction h1 with
      | base h2 => exact ⟨(mem_plcs.1 h2).1, war_from m n _ _ (mem_plcs.1 h2).2⟩
      | step _ h2 ih =>
        have h3 := mem_plcs.1 h2
        exact ⟨h3.1, war_shut m n a _ _ ha h3.1 ih.1 ih.2 (war_from m n _ _ h3.2)⟩
    exact key.2
/-- The ways between partitions: what a loop over the channels gives. -/
def wayOf (n : Nat) (x : Ch) : List (Nat × Nat) := if inP n x.from_ && inP n x.to_ then (x.from_.toNat, x.to_.toNat) :: (if x.queue then [(x.to_.toNat, x.from_.toNat)] else []) else []
def wayL (n : Nat) (C : List Ch) : List (Nat × Nat) := C.flatMap (wayOf n)
theorem inP_iff {n : Nat} {p : Int} : inP n p = true ↔ 0 ≤ p ∧ p < n := by simp [inP]
theorem joins_iff {n : Nat} {x : Ch} {a b : Nat} : joins n x a b = true ↔ (inP n x.from_ = true ∧ inP n x.to_ = true) ∧ x.from_ = a ∧ x.to_ = b := by
  simp only [joins, Bool.and_eq_true, decide_eq_true_eq, and_assoc]
theorem mem_wayOf {n : Nat} {x : Ch} {a b : Nat} : (a, b) ∈ wayOf n x ↔ (joins n x a b || (x.queue && joins n x b a)) = true := by
  rw [Bool.or_eq_true, Bool.and_eq_true, joins_iff, joins_iff]
  unfold wayOf
  by_cases h1 : inP n x.from_ = true
  · by_cases h2 : inP n x.to_ = true
    · have k1 := inP_iff.1 h1
      have k2 := inP_iff.1 h2
      rw [h1, h2]
      simp only [Bool.and_self, if_true, List.mem_cons, Prod.mk.injEq, true_and]
      cases x.queue with
      | true =>
        simp only [if_true, List.mem_singleton, Prod.mk.injEq, true_and]
        omega
      | false =>
        simp only [Bool.false_eq_true, if_false, List.not_mem_nil, or_false, false_and]
        omega
    · simp only [Bool.not_eq_true] at h2
      rw [h2]
      simp
  · simp only [Bool.not_eq_true] at h1
    rw [h1]
    simp
theorem mem_wayL {n : Nat} {C : List Ch} {a b : Nat} : (a, b) ∈ wayL n C ↔ (C.any fun x => joins n x a b || (x.queue && joins n x b a)) = true := by
  unfold wayL
  rw [List.mem_flatMap, List.any_eq_true]
  exact ⟨fun ⟨x, h1, h2⟩ => ⟨x, h1, mem_wayOf.1 h2⟩, fun ⟨x, h1, h2⟩ => ⟨x, h1, mem_wayOf.2 h2⟩⟩
theorem wayL_lt {n : Nat} {C : List Ch} {a b : Nat} (h : (a, b) ∈ wayL n C) : a < n ∧ b < n := by
  rw [mem_wayL, List.any_eq_true] at h
  obtain ⟨x, _, h⟩ := h
  rw [Bool.or_eq_true, Bool.and_eq_true, joins_iff, joins_iff, inP_iff, inP_iff] at h
  omega
theorem swayF_iff {P : List Pt} {C : List Ch} {a b : Nat} : swayF P C a b = true ↔ a = b ∨ schedOf P a = true ∨ stopOf P a = true ∨ (a, b) ∈ wayL P.length C := by
  unfold swayF
  rw [mem_wayL]
  simp only [Bool.or_eq_true, decide_eq_true_eq, or_assoc]
theorem depF_iff {P : List Pt} {C : List Ch} {a b : Nat} : depF P C a b = true ↔ a = b ∨ (schedOf P a = true ∧ schedOf P b = true) ∨ (a, b) ∈ wayL P.length C ∨ (b, a) ∈ wayL P.length C := by
  unfold depF
  rw [mem_wayL, mem_wayL]
  simp only [Bool.or_eq_true, Bool.and_eq_true, decide_eq_true_eq, List.any_eq_true, or_assoc]
  constructor
  · rintro (h | h | ⟨x, hx, h | h⟩)
    · exact .inl h
    · exact .inr (.inl h)
    · exact .inr (.inr (.inl ⟨x, hx, .inl h⟩))
    · exact .inr (.inr (.inr ⟨x, hx, .inl h⟩))
  · rintro (h | h | ⟨x, hx, h | h⟩ | ⟨x, hx, h | h⟩)
    · exact .inl h
    · exact .inr (.inl h)
    · exact .inr (.inr ⟨x, hx, .inl h⟩)
    · exact .inr (.inr ⟨x, hx, .inr h.2⟩)
    · exact .inr (.inr ⟨x, hx, .inr h⟩)
    · exact .inr (.inr ⟨x, hx, .inl h.2⟩)
/-- The partitions that sway all. -/
def rulL (P : List Pt) : List Nat := plcs P.length fun a => schedOf P a || stopOf P a
/-- From whom a way leads to x, in the order of the ways. -/
def backL (W : List (Nat × Nat)) (x : Nat) : List Nat := (W.filter fun y => decide (y.2 = x)).map (·.1)
theorem mem_backL {W : List (Nat × Nat)} {x a : Nat} : a ∈ backL W x ↔ (a, x) ∈ W := by
  unfold backL
  rw [List.mem_map]
  constructor
  · rintro ⟨⟨p, q⟩, h1, rfl⟩
    rw [List.mem_filter] at h1
    simp only [decide_eq_true_eq] at h1
    obtain ⟨h1, rfl⟩ := h1
    exact h1
  · intro h
    exact ⟨(a, x), by rw [List.mem_filter]; exact ⟨h, by simp⟩, rfl⟩
theorem backL_snoc (W : List (Nat × Nat)) (y : Nat × Nat) (x : Nat) : backL (W ++ [y]) x = if y.2 = x then backL W x ++ [y.1] else backL W x := by
  unfold backL
  rw [List.filter_append, List.map_append]
  by_cases h : y.2 = x
  · simp [h]
  · simp [h]
/-- Back from p by the ways, and from those that sway all. -/
theorem rch_reach (P : List Pt) (C : List Ch) (p : Nat) (hp : p < P.length) (a : Nat) (ha : a < P.length) : Rch (backL (wayL P.length C)) (rulL P ++ [p]) a ↔ War (swayF P C) P.length a p = true := by
  constructor
  · intro h
    have key : a < P.length ∧ War (swayF P C) P.length a p = true := by
      induction h with
      | base h1 =>
        rename_i x
        rcases List.mem_append.1 h1 with h1 | h1
        · obtain ⟨h2, h3⟩ := mem_plcs.1 h1
          refine ⟨h2, war_from _ _ _ _ (swayF_iff.2 ?_)⟩
          rw [Bool.or_eq_true] at h3
          exact .inr (h3.imp id .inl)
        · simp at h1
          subst h1
          exact ⟨hp, war_from _ _ _ _ (swayF_self P C _)⟩
      | step _ h2 ih =>
        rw [mem_backL] at h2
        have h3 := wayL_lt h2
        have h4 := ih h3.2
        exact ⟨h3.1, war_shut _ _ _ _ _ h3.1 hp h3.2 (war_from _ _ _ _ (swayF_iff.2 (.inr (.inr (.inr h2))))) h4.2⟩
    exact key.2
  · intro h
    have key := war_least (m := swayF P C) (n := P.length) (M := fun x y => @decide (Rch (backL (wayL P.length C)) (rulL P ++ [p]) y → Rch (backL (wayL P.length C)) (rulL P ++ [p]) x) (Classical.propDecidable _)) ?_ ?_ P.length (Nat.le_refl _) a p ha hp h
    · simp only [decide_eq_true_eq] at key
      exact key (.base (by simp))
    · intro x y z _ _ _ h1 h2
      simp only [decide_eq_true_eq] at h1 h2 ⊢
      exact fun h => h1 (h2 h)
    · intro x y hx hy h1
      simp only [decide_eq_true_eq]
      intro h2
      rcases swayF_iff.1 h1 with h3 | h3 | h3 | h3
      · subst h3; exact h2
      · exact .base (List.mem_append.2 (.inl (mem_plcs.2 ⟨hx, by rw [h3]; rfl⟩)))
      · exact .base (List.mem_append.2 (.inl (mem_plcs.2 ⟨hx, by rw [h3, Bool.or_true]⟩)))
      · exact .step h2 (mem_backL.2 h3)
end Tab
end Go.Proofs.Ytcdgofdnafbacaa

/- Rows of cells that a call owns, as functions; matrices in memory; rows of numbers in rows. -/
namespace Go.Proofs.Ytcdgofdnafbacaa
open Go.RowKit Tab
set_option linter.unusedSimpArgs false
set_option linter.unusedVariables false

theorem elB : Elt 42 4 1 1 (.bool false) := ⟨Try.underlying42, by kernel_rfl, rfl, by omega⟩
theorem elBB : Elt 34 42 1 24 (.slice none 0 0) := ⟨Try.underlying34, by kernel_rfl, rfl, by omega⟩
/-- Block g, n cells, holds f. -/
structure Vec (w : World) (g n : Nat) (f : Nat → Value) : Prop where
  cell : ∀ j, j < n → w.cell? ⟨g, j, none⟩ = some (f j)
  thaw : ∀ j, w.frozen? ⟨g, j, none⟩ = false
  lt : g < w.heap.size
section
variable {w w' : World} {g n B : Nat} {f f' : Nat → Value}
theorem Vec.keep (h : Vec w g n f) (hk : w'.heap[g]? = w.heap[g]?) (hs : w.heap.size ≤ w'.heap.size) : Vec w' g n f :=
  ⟨fun j hj => (World.cell?_of_block hk).trans (h.cell j hj), fun j => (World.frozen?_of_block hk).trans (h.thaw j), Nat.lt_of_lt_of_le h.lt hs⟩
theorem Vec.below (h : Vec w g n f) (hb : Below B w w') (hg : g < B) : Vec w' g n f := h.keep (hb.block g hg) hb.size
theorem Vec.on (h : Vec w g n f) (hb : Below w.heap.size w w') : Vec w' g n f := h.below hb h.lt
theorem Vec.congr (h : Vec w g n f) (e : ∀ j, j < n → f j = f' j) : Vec w g n f' := ⟨fun j hj => by rw [← e j hj]; exact h.cell j hj, h.thaw, h.lt⟩
theorem Vec.set (h : Vec w g n f) (i : Nat) (v : Value) : Vec (w.setCell ⟨g, i, none⟩ v) g n (put1 f i v) := by
  refine ⟨fun j hj => ?_, fun j => by simpa using h.thaw j, by simpa using h.lt⟩
  by_cases e : j = i
  · subst e
    rw [put1_same]
    exact World.cell?_setCell_same _ _ _ (h.cell j hj)
  · rw [put1_other e, World.cell?_setCell_other _ _ _ _ (by intro e2; injection e2 with _ e3; omega)]
    exact h.cell j hj
theorem Vec.other (h : Vec w g n f) (p : Addr) (v : Value) (hp : g ≠ p.block) : Vec (w.setCell p v) g n f :=
  h.keep (Below.heap_setCell w p v g hp) (by simp)
theorem Vec.drewN (h : Vec w g n f) (q : Nat) : Vec (w.drewN q) g n f := ⟨h.cell, h.thaw, h.lt⟩
theorem Vec.lit (w : World) (C : Array Value) (t : TypeId) (n : Nat) (f : Nat → Value) (h : ∀ j, j < n → C[j]? = some (f j)) : Vec (w.alloc (.cells C t)) w.heap.size n f :=
  ⟨fun j hj => (World.cell?_alloc_mark _ _ _ _ _).trans (h j hj), fun j => by simp, by simp⟩
theorem Vec.rdc (h : Vec w g n f) : RdC w w.heap.size (some ⟨g, 0, none⟩) n f := fun _ => ⟨_, rfl, h.lt, fun j hj => by
  have e : (⟨g, 0, none⟩ : Addr).add j = ⟨g, j, none⟩ := by unfold Addr.add; split <;> simp_all
  rw [e]; exact h.cell j hj⟩
end
theorem made_get (z : Value) (n j : Nat) (h : j < n) : (madeCells #[z] n)[j]? = some z := by
  rw [← Array.getElem?_toList, toList_madeCells_one]
  simp [h]
theorem run_makeB (m : Nat) (hm : m ≤ 1048576) (W : World) : (Instr.makeSlice 42 (.int .i64 (m : Int)) (.int .i64 (m : Int))).run Try.prog W = .ok (.slice (some ⟨W.heap.size, 0, none⟩) m m) (W.alloc (.cells (madeCells #[.bool false] m) 4)) := by
  obtain ⟨i, hi, hz, hs, hby⟩ := info_parts elB.hi
  have hr := run_make (P := Try.prog) W 42 4 i _ elB.ht hi hz .i64 .i64 m m (by omega) (by omega) (by rw [hby]; omega) (by omega)
  rw [hs] at hr
  simp only [Int.toNat_natCast, Nat.mul_one] at hr
  exact hr
theorem run_makeBB (m : Nat) (hm : m ≤ 1048576) (W : World) : (Instr.makeSlice 34 (.int .i64 (m : Int)) (.int .i64 (m : Int))).run Try.prog W = .ok (.slice (some ⟨W.heap.size, 0, none⟩) m m) (W.alloc (.cells (madeCells #[.slice none 0 0] m) 42)) := by
  obtain ⟨i, hi, hz, hs, hby⟩ := info_parts elBB.hi
  have hr := run_make (P := Try.prog) W 34 42 i _ elBB.ht hi hz .i64 .i64 m m (by omega) (by omega) (by rw [hby]; omega) (by omega)
  rw [hs] at hr
  simp only [Int.toNat_natCast, Nat.mul_one] at hr
  exact hr
/-- A matrix of n by n in blocks of its own, B or behind: k rows are laid. -/
structure Mat (w : World) (B g n k : Nat) (G : Nat → Nat) (m : Nat → Nat → Bool) : Prop where
  outer : ∃ f, Vec w g n f ∧ ∀ i, i < k → f i = .slice (some ⟨G i, 0, none⟩) n n
  rows : ∀ i, i < k → Vec w (G i) n fun j => .bool (m i j)
  low : B ≤ g
  ge : ∀ i, i < k → B ≤ G i
  ne : ∀ i, i < k → G i ≠ g
  inj : ∀ i j, i < k → j < k → G i = G j → i = j
def put2 (m : Nat → Nat → Bool) (i j : Nat) (v : Bool) : Nat → Nat → Bool := fun a b => if a = i ∧ b = j then v else m a b
theorem put2_same (m : Nat → Nat → Bool) (i j : Nat) (v : Bool) : put2 m i j v i j = v := if_pos ⟨rfl, rfl⟩
section
variable {w w' : World} {g n k B : Nat} {G : Nat → Nat} {m m' : Nat → Nat → Bool}
theorem Mat.on (h : Mat w B g n k G m) (hb : Below w.heap.size w w') : Mat w' B g n k G m := by
  obtain ⟨f, h1, h2⟩ := h.outer
  exact ⟨⟨f, h1.on hb, h2⟩, fun i hi => (h.rows i hi).on hb, h.low, h.ge, h.ne, h.inj⟩
theorem Mat.drewN (h : Mat w B g n k G m) (q : Nat) : Mat (w.drewN q) B g n k G m := h.on (by
  exact ⟨rfl, rfl, rfl, Nat.le_refl _, fun _ _ => rfl⟩)
theorem Mat.congr (h : Mat w B g n k G m) (e : ∀ i j, i < k → j < n → m i j = m' i j) : Mat w B g n k G m' :=
  ⟨h.outer, fun i hi => (h.rows i hi).congr fun j hj => by rw [e i j hi hj], h.low, h.ge, h.ne, h.inj⟩
theorem Mat.start (w : World) (B n : Nat) (hB : B ≤ w.heap.size) (t : TypeId) (m : Nat → Nat → Bool) (G : Nat → Nat) : Mat (w.alloc (.cells (madeCells #[.slice none 0 0] n) t)) B w.heap.size n 0 G m :=
  ⟨⟨fun _ => .slice none 0 0, Vec.lit w _ t n _ fun j hj => made_get _ n j hj, fun i hi => by omega⟩, fun i hi => by omega, hB, fun i hi => by omega, fun i hi => by omega, fun i j hi => by omega⟩
/-- A row more. -/
theorem Mat.push (h : Mat w B g n k G m) {x : Nat} {b : Nat → Bool} (hx : Vec w x n fun j => .bool (b j)) (hB : B ≤ x) (hg : x ≠ g) (hG : ∀ i, i < k → G i ≠ x) (hk : k < n) :
    Mat (w.setCell ⟨g, k, none⟩ (.slice (some ⟨x, 0, none⟩) n n)) B g n (k + 1) (put1 G k x) (fun i j => if i = k then b j else m i j) := by
  obtain ⟨f, h1, h2⟩ := h.outer
  have hlt : ∀ i, i < k + 1 → i ≠ k → i < k := fun i _ _ => by omega
  refine ⟨⟨_, h1.set k _, fun i hi => ?_⟩, fun i hi => ?_, h.low, fun i hi => ?_, fun i hi => ?_, fun i j hi hj e => ?_⟩
  · by_cases e : i = k
    · subst e; rw [put1_same, put1_same]
    · rw [put1_other e, put1_other e]; exact h2 i (hlt i hi e)
  · by_cases e : i = k
    · subst e
      simp only [put1_same, if_true]
      exact hx.other _ _ hg
    · rw [put1_other e]
      simp only [e, if_false]
      exact (h.rows i (hlt i hi e)).other _ _ (h.ne i (hlt i hi e))
  · by_cases e : i = k
    · subst e; rw [put1_same]; exact hB
    · rw [put1_other e]; exact h.ge i (hlt i hi e)
  · by_cases e : i = k
    · subst e; rw [put1_same]; exact hg
    · rw [put1_other e]; exact h.ne i (hlt i hi e)
  · by_cases e1 : i = k
    · by_cases e2 : j = k
      · omega
      · subst e1
        rw [put1_same, put1_other e2] at e
        exact absurd e.symm (hG j (hlt j hj e2))
    · by_cases e2 : j = k
      · subst e2
        rw [put1_same, put1_other e1] at e
        exact absurd e (hG i (hlt i hi e1))
      · rw [put1_other e1, put1_other e2] at e
        exact h.inj i j (hlt i hi e1) (hlt j hj e2) e
/-- One place of it, and a store there. -/
theorem Mat.at_ (h : Mat w B g n k G m) {i j : Nat} (hi : i < k) (hk : k ≤ n) (hj : j < n) : ∃ x, G i = x ∧ x ≠ g ∧ B ≤ x ∧ g < w.heap.size ∧ x < w.heap.size ∧ w.cell? ⟨g, i, none⟩ = some (.slice (some ⟨x, 0, none⟩) n n) ∧ w.cell? ⟨x, j, none⟩ = some (.bool (m i j)) ∧ w.frozen? ⟨x, j, none⟩ = false ∧
    ∀ v, Mat (w.setCell ⟨x, j, none⟩ (.bool v)) B g n k G (put2 m i j v) ∧ ∀ V, Below B V w → Below B V (w.setCell ⟨x, j, none⟩ (.bool v)) := by
  obtain ⟨f, h1, h2⟩ := h.outer
  refine ⟨G i, rfl, h.ne i hi, h.ge i hi, h1.lt, (h.rows i hi).lt, (h1.cell i (by omega)).trans (by rw [h2 i hi]), (h.rows i hi).cell j hj, (h.rows i hi).thaw j, fun v => ⟨⟨⟨f, h1.other _ _ (h.ne i hi).symm, h2⟩, fun a ha => ?_, h.low, h.ge, h.ne, h.inj⟩, fun V hV => hV.setCell (p := ⟨G i, j, none⟩) (h.ge i hi) _⟩⟩
  by_cases e : a = i
  · subst e
    refine ((h.rows a ha).set j (.bool v)).congr fun b _ => ?_
    unfold put1 put2
    by_cases e2 : b = j <;> simp [e2]
  · refine ((h.rows a ha).other _ _ fun e2 => e (h.inj a i ha hi e2)).congr fun b _ => ?_
    unfold put2
    simp [e]
/-- A row of it, to be read. -/
theorem Mat.row (h : Mat w B g n k G m) {i : Nat} (hi : i < k) (hk : k ≤ n) : ∃ x, G i = x ∧ x ≠ g ∧ w.cell? ⟨g, i, none⟩ = some (.slice (some ⟨x, 0, none⟩) n n) ∧ Vec w x n fun j => .bool (m i j) := by
  obtain ⟨f, h1, h2⟩ := h.outer
  exact ⟨G i, rfl, h.ne i hi, (h1.cell i (by omega)).trans (by rw [h2 i hi]), h.rows i hi⟩
end
/-- A slice at A, of n rows, row i of l i bools: m. -/
def RdM (w : World) (B : Nat) (A : Option Addr) (n : Nat) (l : Nat → Nat) (m : Nat → Nat → Bool) : Prop :=
  ∃ R : Nat → Option Addr × Nat, RdC w B A n (fun i => .slice (R i).1 (l i) (R i).2) ∧ ∀ i, i < n → l i ≤ (R i).2 ∧ RdC w B (R i).1 (l i) fun j => .bool (m i j)
section
variable {w w' : World} {n B B' : Nat} {A : Option Addr} {l : Nat → Nat} {m m' : Nat → Nat → Bool}
theorem RdM.below (h : RdM w B A n l m) (hb : Below B w w') : RdM w' B A n l m := by
  obtain ⟨R, h1, h2⟩ := h
  exact ⟨R, h1.below hb, fun i hi => ⟨(h2 i hi).1, (h2 i hi).2.below hb⟩⟩
theorem RdM.more (h : RdM w B A n l m) (hB : B ≤ B') : RdM w B' A n l m := by
  obtain ⟨R, h1, h2⟩ := h
  exact ⟨R, h1.more hB, fun i hi => ⟨(h2 i hi).1, (h2 i hi).2.more hB⟩⟩
theorem RdM.on (h : RdM w w.heap.size A n l m) (hb : Below w.heap.size w w') : RdM w' w'.heap.size A n l m := (h.below hb).more hb.size
theorem RdM.drewN (h : RdM w B A n l m) (q : Nat) : RdM (w.drewN q) B A n l m := h
theorem RdC.congr {f f' : Nat → Value} (h : RdC w B A n f) (e : ∀ j, j < n → f j = f' j) : RdC w B A n f' := fun hn => by
  obtain ⟨ad, h1, h2, h3⟩ := h hn
  exact ⟨ad, h1, h2, fun j hj => by rw [← e j hj]; exact h3 j hj⟩
theorem RdM.congr (h : RdM w B A n l m) (e : ∀ i j, i < n → j < l i → m i j = m' i j) : RdM w B A n l m' := by
  obtain ⟨R, h1, h2⟩ := h
  exact ⟨R, h1, fun i hi => ⟨(h2 i hi).1, (h2 i hi).2.congr fun j hj => by rw [e i j hi hj]⟩⟩
theorem RdM.at_ (h : RdM w B A n l m) {i : Nat} (hi : i < n) : ∃ ad R c, A = some ad ∧ ad.block < B ∧ w.cell? (ad.add i) = some (.slice R (l i) c) ∧ l i ≤ c ∧ RdC w B R (l i) fun j => .bool (m i j) := by
  obtain ⟨R, h1, h2⟩ := h
  obtain ⟨ad, e, hb, hc⟩ := h1.at_ hi
  exact ⟨ad, _, _, e, hb, hc, (h2 i hi).1, (h2 i hi).2⟩
theorem RdM.front (h : RdM w B A n l m) (k : Nat) (hk : k ≤ n) : RdM w B A k l m := by
  obtain ⟨R, h1, h2⟩ := h
  refine ⟨R, fun h0 => ?_, fun i hi => h2 i (by omega)⟩
  obtain ⟨ad, e, hb, hc⟩ := h1 (by omega)
  exact ⟨ad, e, hb, fun j hj => hc j (by omega)⟩
theorem RdM.none (w : World) (B : Nat) (l : Nat → Nat) (m : Nat → Nat → Bool) : RdM w B .none 0 l m := ⟨fun _ => (.none, 0), fun h => by omega, fun i hi => by omega⟩
theorem Mat.rdm {g : Nat} {G : Nat → Nat} (h : Mat w B g n n G m) : RdM w w.heap.size (some ⟨g, 0, .none⟩) n (fun _ => n) m := by
  obtain ⟨f, h1, h2⟩ := h.outer
  exact ⟨fun i => (some ⟨G i, 0, .none⟩, n), (h1.congr h2).rdc, fun i hi => ⟨Nat.le_refl _, (h.rows i hi).rdc⟩⟩
end
/-- It answers a square matrix, new. -/
def MadM (n : Nat) (m : Nat → Nat → Bool) (w : World) (e : Ending) (w' : World) : Prop := ∃ A c, e = .returned (.slice A n c) ∧ n ≤ c ∧ RdM w' w'.heap.size A n (fun _ => n) m ∧ Below w.heap.size w w'
/-- It answers a square matrix in blocks of its own. -/
def MadG (n : Nat) (m : Nat → Nat → Bool) (w : World) (e : Ending) (w' : World) : Prop := ∃ g G, e = .returned (.slice (some ⟨g, 0, none⟩) n n) ∧ Mat w' w.heap.size g n n G m ∧ Below w.heap.size w w'
theorem MadG.m {n : Nat} {m : Nat → Nat → Bool} {w w' : World} {e : Ending} (h : MadG n m w e w') : MadM n m w e w' := by
  obtain ⟨g, G, rfl, h1, h2⟩ := h
  exact ⟨_, _, rfl, Nat.le_refl _, h1.rdm, h2⟩
/-- Rows of numbers in a row. -/
def RdS (w : World) (B : Nat) (A : Option Addr) (n : Nat) (S : Nat → List Nat) : Prop :=
  ∃ R : Nat → Option Addr × Nat, RdC w B A n (fun i => .slice (R i).1 (S i).length (R i).2) ∧ ∀ i, i < n → (S i).length ≤ (R i).2 ∧ RdI w B (R i).1 (S i).length ((S i).map fun x : Nat => (x : Int))
section
variable {w w' : World} {n B B' : Nat} {A : Option Addr} {S : Nat → List Nat}
theorem RdS.below (h : RdS w B A n S) (hb : Below B w w') : RdS w' B A n S := by
  obtain ⟨R, h1, h2⟩ := h
  exact ⟨R, h1.below hb, fun i hi => ⟨(h2 i hi).1, (h2 i hi).2.below hb⟩⟩
theorem RdS.more (h : RdS w B A n S) (hB : B ≤ B') : RdS w B' A n S := by
  obtain ⟨R, h1, h2⟩ := h
  exact ⟨R, h1.more hB, fun i hi => ⟨(h2 i hi).1, (h2 i hi).2.more hB⟩⟩
theorem RdS.on (h : RdS w w.heap.size A n S) (hb : Below w.heap.size w w') : RdS w' w'.heap.size A n S := (h.below hb).more hb.size
theorem RdS.at_ (h : RdS w B A n S) {i : Nat} (hi : i < n) : ∃ ad R c, A = some ad ∧ ad.block < B ∧ w.cell? (ad.add i) = some (.slice R (S i).length c) ∧ (S i).length ≤ c ∧ RdI w B R (S i).length ((S i).map fun x : Nat => (x : Int)) := by
  obtain ⟨R, h1, h2⟩ := h
  obtain ⟨ad, e, hb, hc⟩ := h1.at_ hi
  exact ⟨ad, _, _, e, hb, hc, (h2 i hi).1, (h2 i hi).2⟩
end
theorem OwnV.frontC {E s B n c : Nat} {w : World} {A : Option Addr} {l : List Value} (h : OwnV E s w B A n c l) (k : Nat) (hk : k ≤ n) : OwnV E s w B A k c (l.take (k * s)) := by
  have hl := h.1
  have hle : k * s ≤ n * s := Nat.mul_le_mul_right _ hk
  refine ⟨by rw [List.length_take]; omega, ?_⟩
  rcases h.2 with ⟨hv, h0⟩ | ⟨g, cap, cur, hv, hbg, hg, hnc, hcm, hcs, htake⟩
  · injection hv with h1 h2 h3
    subst h1; subst h3
    exact .inl ⟨by rw [show k = 0 by omega], by omega⟩
  · injection hv with h1 h2 h3
    subst h1; subst h3
    exact .inr ⟨g, c, cur, rfl, hbg, hg, by omega, hcm, hcs, by rw [← htake, List.take_take, Nat.min_eq_left hle]⟩
end Go.Proofs.Ytcdgofdnafbacaa

/- The document's own answers to what two see of a row, to whether rows are the same to all. -/
namespace Go.Proofs.Ytcdgofdnafbacaa
open Go.RowKit Tab
set_option linter.unusedSimpArgs false
set_option linter.unusedVariables false

set_option maxRecDepth 100000 in
set_option maxHeartbeats 4000000 in
theorem rproj_any (A : Option Addr) (n cap : Nat) (L : List Rn) (a b : Int) (w : World) (h : RdR w w.heap.size A n L) (hc : n ≤ cap) (hn : n ≤ 1048576) (ht : ticks L ≤ 1099511627776) :
    Calls Try.prog 27 #[.slice A n cap, .int .i64 a, .int .i64 b] w (MadeR (proj a b L) w) := by
  have hfl := ticks_filter (sees a b) L
  go_enter Try.func27, Try.ntmps27
  go_wp2_with fail
  go_loopw [7, 9, 12] (fun q _ s wr => ∃ (i m c' : Nat) (A' : Option Addr), i ≤ n ∧ s = .int .i64 i ∧ q = .slice A' m c' ∧ m ≤ i ∧ OwnV 31 2 wr w.heap.size A' m c' (rs (prj a b (L.take i))) ∧ Below w.heap.size w wr) (fun _ _ s _ => n - (intOf s).toNat)
  case atStart => exact ⟨0, 0, 0, none, by omega, rfl, rfl, by omega, by simpa [prj, rs] using OwnV.nil _ _ _ _, Below.refl _ _⟩
  case round =>
    obtain ⟨i, m, c', A', hi, rfl, rfl, hm, how, hb⟩ := hrel
    by_cases hlt : i < n
    · have hlti : (i : Int) < (n : Int) := by omega
      obtain ⟨ad, r, rfl, had, hr, c0, c1⟩ := (h.on hb).at_ hlt
      have hmore := prj_more (a := a) (b := b) hr
      have hbl := bl1 wr (.cells #[.int .i64 r.p, .int .i64 (r.n : Int)] 31)
      have hb1 := hb.trans (hbl.mono hb.size)
      have how1 := how.below rfl hbl
      have f0 : (wr.alloc (.cells #[.int .i64 r.p, .int .i64 (r.n : Int)] 31)).cell? ⟨wr.heap.size, 0, none⟩ = some (.int .i64 r.p) := World.cell?_alloc_mark _ _ _ _ _
      have f1 : (wr.alloc (.cells #[.int .i64 r.p, .int .i64 (r.n : Int)] 31)).cell? ⟨wr.heap.size, 1, none⟩ = some (.int .i64 (r.n : Int)) := World.cell?_alloc_mark _ _ _ _ _
      clear how hb hbl hr
      go_upto_region 5 with fail
      generalize wr.alloc (.cells #[.int .i64 r.p, .int .i64 (r.n : Int)] 31) = W1 at hb1 how1 f0 f1 ⊢
      generalize wr.heap.size = gx at f0 f1 ⊢
      clear c0 c1
      by_cases hs : sees a b r = true
      · rw [if_pos hs] at hmore
        have HMO := Lib.hid hmore
        have hbl := bl1 W1 (.cells #[.int .i64 r.p, .int .i64 (r.n : Int)] 31)
        have how2 := how1.below rfl hbl
        have hrd := rdV_new W1 #[.int .i64 r.p, .int .i64 (r.n : Int)] 31 (rs [r]) rfl
        have hb2 := hb1.trans (hbl.mono hb1.size)
        have hs2 := hb2.size
        have HB2 := Lib.hid hb2
        have hs' := sees_iff.1 hs
        clear hmore how1 hb1 hbl hb2 hs
        by_cases ha : r.p = a
        · have ha' : (r.p == a) = true := beq_iff_eq.2 ha
          clear hs' ha
          go_wp2_with (at_builtin; go_loud (refine wpList_appX elR rfl (.tmp 26) (.tmp 28) rfl rfl w.heap.size A' m c' _ rfl how2 _ 1 1 _ _ rfl hrd rfl Nat.one_pos (rs_one _) (by omega) (by unfold maxLen; omega) hs2 (m + 1) rfl (rs (prj a b (L.take (i + 1)))) (by rw [HMO.out]; exact (rs_append _ _).symm) ?_; intro A4 c4 w4 hw4 hb4 hot))
          go_roundw
          case rel => exact ⟨i + 1, m + 1, c4, A4, by omega, by go_num, rfl, by omega, hw4, HB2.out.trans hb4⟩
          case measure => simp [intOf]; omega
        · have ha' : (r.p == a) = false := beq_eq_false_iff_ne.2 ha
          have hb' : (r.p == b) = true := beq_iff_eq.2 (hs'.resolve_left ha)
          clear hs' ha
          go_wp2_with (at_builtin; go_loud (refine wpList_appX elR rfl (.tmp 26) (.tmp 28) rfl rfl w.heap.size A' m c' _ rfl how2 _ 1 1 _ _ rfl hrd rfl Nat.one_pos (rs_one _) (by omega) (by unfold maxLen; omega) hs2 (m + 1) rfl (rs (prj a b (L.take (i + 1)))) (by rw [HMO.out]; exact (rs_append _ _).symm) ?_; intro A4 c4 w4 hw4 hb4 hot))
          go_roundw
          case rel => exact ⟨i + 1, m + 1, c4, A4, by omega, by go_num, rfl, by omega, hw4, HB2.out.trans hb4⟩
          case measure => simp [intOf]; omega
      · rw [if_neg hs] at hmore
        rw [← hmore] at how1
        have HOW := Lib.hid how1
        have HB1 := Lib.hid hb1
        have ha : r.p ≠ a := fun e => hs (sees_iff.2 (.inl e))
        have hb : r.p ≠ b := fun e => hs (sees_iff.2 (.inr e))
        have ha' : (r.p == a) = false := beq_eq_false_iff_ne.2 ha
        have hb' : (r.p == b) = false := beq_eq_false_iff_ne.2 hb
        clear hmore how1 hb1 hs ha hb
        go_wp2_with fail
        go_roundw
        case rel => exact ⟨i + 1, m, c', A', by omega, by go_num, rfl, by omega, HOW.out, HB1.out⟩
        case measure => simp [intOf]; omega
    · have hge : ¬ (i : Int) < (n : Int) := by omega
      have e : L.take i = L := List.take_of_length_le (by rw [h.len]; omega)
      rw [e] at how
      have hcp := how.cap
      have HT := Lib.hid (rtidy_any A' m c' (prj a b L) wr how.rdr hcp (by omega) (by unfold prj; omega))
      have HB := Lib.hid hb
      clear how hb e
      go_wp2_with fail
      refine HT.out.mono ?_
      rintro e w5 ⟨A5, c5, rfl, hr5, hc5, hb5, hnew⟩
      have H5 := Lib.hid hr5
      have HB5 := Lib.hid (HB.out.trans (hb5.mono HB.out.size))
      have HN := Lib.hid hnew
      clear hr5 hb5 hnew
      go_wp2_with fail
      go_ret
      exact ⟨A5, c5, rfl, H5.out, hc5, HB5.out, fun ad e => Nat.le_trans HB.out.size (HN.out ad e)⟩
/-- Do two depend, by a square? -/
def depW (n : Nat) (m : Nat → Nat → Bool) (a b : Int) : Bool := decide (a = b) || (inP n a && inP n b && (m a.toNat b.toNat || m b.toNat a.toNat))
theorem depW_sym (n : Nat) (m : Nat → Nat → Bool) (a b : Int) : depW n m a b = depW n m b a := by
  unfold depW
  rw [show decide (a = b) = decide (b = a) from by by_cases h : a = b <;> simp [h, eq_comm], Bool.and_comm (inP n a), Bool.or_comm (m a.toNat b.toNat)]
set_option maxRecDepth 100000 in
set_option maxHeartbeats 4000000 in
theorem rdepw_any (A : Option Addr) (n c : Nat) (m : Nat → Nat → Bool) (a b : Nat) (w : World) (h : RdM w w.heap.size A n (fun _ => n) m) (hn : n ≤ 1024) (ha : a ≤ 1024) (hb : b ≤ 1024) :
    Calls Try.prog 33 #[.slice A n c, .int .i64 (a : Int), .int .i64 (b : Int)] w (Ans (.bool (depW n m a b)) w) := by
  have hv : ∀ v, v = depW n m a b → Ans (.bool (depW n m a b)) w (.returned (.bool v)) w := fun v e => by rw [e]; exact Ans.mk rfl (Below.refl _ _)
  have HV := Lib.hid hv
  clear hv
  by_cases hab : a = b
  · subst hab
    go_enter Try.func33, Try.ntmps33
    go_wp2_with fail
    go_ret
    exact HV.out _ (by simp [depW])
  · have hab' : ((a : Int) == (b : Int)) = false := beq_eq_false_iff_ne.2 (by omega)
    have habd : decide ((a : Int) = (b : Int)) = false := decide_eq_false (by omega)
    by_cases han : a < n
    · have hani : (a : Int) < (n : Int) := by omega
      have ia : inP n (a : Int) = true := inP_iff.2 ⟨by omega, hani⟩
      by_cases hbn : b < n
      · have hbni : (b : Int) < (n : Int) := by omega
        have ib : inP n (b : Int) = true := inP_iff.2 ⟨by omega, hbni⟩
        have hd : depW n m a b = (m a b || m b a) := by unfold depW; rw [habd, ia, ib]; simp
        obtain ⟨ad, R, c1, rfl, had, p0, _, hr0⟩ := h.at_ han
        obtain ⟨ad', R', c2, e, _, p1, _, hr1⟩ := h.at_ hbn
        injection e with e
        subst e
        obtain ⟨ar, rfl, _, u0⟩ := hr0.at_ hbn
        obtain ⟨ar', rfl, _, u1⟩ := hr1.at_ han
        have HD := Lib.hid hd
        clear hr0 hr1 h hd
        go_enter Try.func33, Try.ntmps33
        generalize m a b = v0 at u0 HD
        generalize m b a = v1 at u1 HD
        cases v0
        all_goals
          go_wp2_with fail
          go_ret
          exact HV.out _ (by rw [HD.out]; simp)
      · have hbni : ¬ (b : Int) < (n : Int) := by omega
        have ib : inP n (b : Int) = false := by
          cases e : inP n (b : Int) with
          | false => rfl
          | true => have := (inP_iff.1 e).2; omega
        have hd : depW n m a b = false := by unfold depW; rw [habd, ib]; simp
        have HD := Lib.hid hd
        clear h hd
        go_enter Try.func33, Try.ntmps33
        go_wp2_with fail
        go_ret
        exact HV.out _ (by rw [HD.out])
    · have hani : ¬ (a : Int) < (n : Int) := by omega
      have ia : inP n (a : Int) = false := by
        cases e : inP n (a : Int) with
        | false => rfl
        | true => have := (inP_iff.1 e).2; omega
      have hd : depW n m a b = false := by unfold depW; rw [habd, ia]; simp
      have HD := Lib.hid hd
      clear h hd
      go_enter Try.func33, Try.ntmps33
      go_wp2_with fail
      go_ret
      exact HV.out _ (by rw [HD.out])
end Go.Proofs.Ytcdgofdnafbacaa
