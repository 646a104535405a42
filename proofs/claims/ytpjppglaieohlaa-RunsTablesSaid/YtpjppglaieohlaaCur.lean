/- A cursor in memory: what is left of its leaf, taking of it, the next leaf, the next tick. -/
import Derived.Test.YtpjppglaieohlaaEnter
import Derived.Laws.ResultCell
namespace Go.Proofs.Ytpjppglaieohlaa
open Go.RowKit Tab
set_option linter.unusedSimpArgs false
set_option linter.unusedVariables false

/-- A cursor over the table l at block b: the leaves td are to come, of the first tk ticks are taken; gn are gone. -/
structure Cur (w : World) (b : Nat) (A : Option Addr) (n cap : Nat) (l : List Nd) (td : List Rn) (tk gn : Nat) : Prop where
  tb : Tb w b A n cap l
  ex : ∃ (c : Nat → Value) (st : List (Nat × Nat)) (p : Nat), Blk w b c ∧ PathC c st ∧ c 0 = .slice A n cap ∧ c 34 = .int .i64 (p : Int) ∧ c 35 = .int .i64 (tk : Int) ∧ c 36 = .int .i64 (gn : Int) ∧ AtL l st p td
  low : ∀ r s, td = r :: s → tk < r.n
  low0 : td = [] → tk = 0
  sum : gn + ticks td ≤ 1048576 + tk
  pos : ∀ r ∈ td, 1 ≤ r.n
theorem Cur.lt {w : World} {b : Nat} {A : Option Addr} {n cap : Nat} {l : List Nd} {td : List Rn} {tk gn : Nat} (h : Cur w b A n cap l td tk gn) : b < w.heap.size := by
  obtain ⟨c, st, p, hB, _⟩ := h.ex
  exact hB.lt
theorem Cur.below {w w' : World} {b : Nat} {A : Option Addr} {n cap : Nat} {l : List Nd} {td : List Rn} {tk gn : Nat} (h : Cur w b A n cap l td tk gn) (hb : Below w.heap.size w w') : Cur w' b A n cap l td tk gn := by
  obtain ⟨c, st, p, hB, r⟩ := h.ex
  have hlt := hB.lt
  exact ⟨⟨⟨h.tb.rd.len, h.tb.rd.rd.keep fun q hq => World.cell?_of_block (hb.block q.block (by omega)), h.tb.rd.bd⟩, h.tb.cap, h.tb.hn⟩, ⟨c, st, p, hB.keep (hb.block b hlt), r⟩, h.low, h.low0, h.sum, h.pos⟩
theorem Below.drewN {B : Nat} {w w' : World} (h : Below B w w') (q : Nat) : Below B w (w'.drewN q) := ⟨h.os, h.tape, h.output, h.size, h.block⟩
/-- The run that is left: of none -1, 0. -/
def leftR : List Rn → Nat → Rn
  | [], _ => ⟨-1, 0⟩
  | r :: _, tk => ⟨r.p, r.n - tk⟩
abbrev rv (p n : Int) : Value := .agg #[.int .i64 p, .int .i64 n]
theorem loadVar_run {w : World} {g : Nat} {x y : Int} (h0 : w.cell? ⟨g, 0, none⟩ = some (.int .i64 x)) (h1 : w.cell? ⟨g, 1, none⟩ = some (.int .i64 y)) : (loadVar 30 ⟨g, 0, none⟩).run Try.prog w = .ok (rv x y) w := by
  have e : (isAgg 30).run Try.prog w = .ok true w := by go_simp
  have e2 : (sizeOf 30).run Try.prog w = .ok 2 w := by go_simp
  unfold loadVar
  rw [Sem.run_bind, e, Result.andThen_ok]
  simp only [if_true]
  rw [Sem.run_bind, e2, Result.andThen_ok, Sem.run_bind]
  have := run_loadCells_list (P := Try.prog) (w := w) ⟨g, 0, none⟩ [.int .i64 x, .int .i64 y] (fun j v hj => by
    match j with
    | 0 => simp at hj; subst hj; simpa [Addr.add] using h0
    | 1 => simp at hj; subst hj; simpa [Addr.add] using h1
    | j + 2 => simp at hj)
  simp only [List.length_cons, List.length_nil] at this
  rw [this, Result.andThen_ok]
  rfl
theorem results_cell1 {fn : Func} {p : Tmp} {ty : TypeId} (h : fn.results = #[.cell p ty]) (tmps : Array Value) (P : Program) (w : World) :
    (results fn tmps).run P w = ((asAddr (tmps.getD p undef)).run P w).andThen fun a w₁ => (loadVar ty a).run P w₁ := by
  simp only [results, h]
  simp [Sem.run_bind, Result.andThen]
theorem results_run {fn : Func} {p : Tmp} (h : fn.results = #[.cell p 30]) {tmps : Array Value} {w : World} {g : Nat} {x y : Int} (hp : tmps.getD p undef = .pointer (some ⟨g, 0, none⟩)) (h0 : w.cell? ⟨g, 0, none⟩ = some (.int .i64 x)) (h1 : w.cell? ⟨g, 1, none⟩ = some (.int .i64 y)) :
    (results fn tmps).run Try.prog w = .ok (rv x y) w := by
  have e : (asAddr (.pointer (some ⟨g, 0, none⟩))).run Try.prog w = .ok ⟨g, 0, none⟩ w := rfl
  rw [results_cell1 h, hp, e, Result.andThen_ok, loadVar_run h0 h1]
theorem results_run2 {fn : Func} {p q : Tmp} (h : fn.results = #[.cell p 30, .tmp q]) {tmps : Array Value} {w : World} {g : Nat} {x y : Int} (hp : tmps.getD p undef = .pointer (some ⟨g, 0, none⟩)) (h0 : w.cell? ⟨g, 0, none⟩ = some (.int .i64 x)) (h1 : w.cell? ⟨g, 1, none⟩ = some (.int .i64 y)) :
    (results fn tmps).run Try.prog w = .ok (.tuple #[rv x y, tmps.getD q undef]) w := by
  have e : (asAddr (.pointer (some ⟨g, 0, none⟩))).run Try.prog w = .ok ⟨g, 0, none⟩ w := rfl
  rw [results_cell_tmp h, hp, e, Result.andThen_ok, loadVar_run h0 h1, Result.andThen_ok]
set_option maxRecDepth 100000 in
set_option maxHeartbeats 3200000 in
theorem left_any (b : Nat) (A : Option Addr) (n cap : Nat) (l : List Nd) (td : List Rn) (tk gn : Nat) (w : World) (h : Cur w b A n cap l td tk gn) :
    Calls Try.prog 43 #[.pointer (some ⟨b, 0, none⟩)] w (Ans (rv (leftR td tk).p ((leftR td tk).n : Int)) w) := by
  obtain ⟨c, st, p, hB, hP, e0, e34, e35, e36, hA⟩ := h.ex
  have hlt := hB.lt
  obtain ⟨W, hW⟩ : ∃ W, W = w.alloc (.cells #[.int .i64 0, .int .i64 0] 30) := ⟨_, rfl⟩
  have hBW : Blk W b c := hB.keep (by rw [hW]; exact Below.heap_alloc w _ b hlt)
  have hTW : Tb W b A n cap l := ⟨⟨h.tb.rd.len, h.tb.rd.rd.keep fun q hq => by rw [hW]; exact World.cell?_alloc_lt w _ q (by omega), h.tb.rd.bd⟩, h.tb.cap, h.tb.hn⟩
  have n0 : W.cell? ⟨w.heap.size, 0, none⟩ = some (.int .i64 0) := by rw [hW]; exact World.cell?_alloc_mark _ _ _ _ _
  have n1 : W.cell? ⟨w.heap.size, 1, none⟩ = some (.int .i64 0) := by rw [hW]; exact World.cell?_alloc_mark _ _ _ _ _
  have g0 : W.frozen? ⟨w.heap.size, 0, none⟩ = false := by rw [hW]; simp
  have g1 : W.frozen? ⟨w.heap.size, 1, none⟩ = false := by rw [hW]; simp
  have hbW : Below w.heap.size w W := by rw [hW]; exact bl1 _ _
  have hgs : w.heap.size < W.heap.size := by rw [hW]; simp
  have c0 := (hBW 0 (by omega)).1
  have c34 := (hBW 34 (by omega)).1
  have c35 := (hBW 35 (by omega)).1
  rw [e0] at c0
  rw [e34] at c34
  rw [e35] at c35
  have HW := Lib.hid hW
  have hlen := h.tb.rd.len
  have hn := h.tb.hn
  have hcap := h.tb.cap
  rcases hA with ⟨_, hp, rfl⟩ | ⟨x, u, hf, h3, h4, hx, _, _, rfl⟩
  · rw [hlen] at hp
    subst hp
    clear h hB hBW hTW hP e0 e34 e35 e36 hlen hW
    go_enter Try.func43, Try.ntmps43
    go_wp2_with fail
    rw [← HW.out]
    clear HW
    generalize hg : w.heap.size = g at n0 n1 g0 g1 hbW hgs ⊢
    have HGS := Lib.hid hg
    clear hg
    go_quiet (fail)
    go_wp2_with fail
    refine bodyPost_ret (results_run rfl rfl (x := -1) (y := 0) ?_ ?_) rfl ⟨rfl, ?_⟩
    · rw [World.cell?_setCell_other _ _ _ _ (by simp)]
      exact World.cell?_setCell_same _ _ _ (u := .int .i64 0) n0
    · exact World.cell?_setCell_same _ _ _ (u := .int .i64 0) ((World.cell?_setCell_other _ _ _ _ (by simp)).trans n1)
    · rw [HGS.out]
      exact ((Below.drewN hbW nq).setCell (p := ⟨g, 0, none⟩) (Nat.le_refl _) _).setCell (p := ⟨g, 1, none⟩) (Nat.le_refl _) _
  · obtain ⟨xk, xp, xn⟩ := x
    have hpl : p < n := by rw [← hlen]; exact (List.getElem?_eq_some_iff.1 hx).1
    obtain ⟨ad, y, rfl, hab, hy, hin, d0, d1, d2⟩ := hTW.rd.at_ hpl
    rw [hx] at hy
    injection hy with hy
    subst hy
    have hn1 := fine_one hf
    obtain ⟨N, rfl⟩ := Int.eq_ofNat_of_zero_le (show 0 ≤ xn by dsimp only at hn1; omega)
    have hn2 : (N : Int) ≤ 9223372036854775807 := hin.2.2.2
    have htk : tk < N := by have := h.low _ _ rfl; simpa using this
    have hw1 : IntKind.i64.wrap ((N : Int) - (tk : Int)) = (N : Int) - (tk : Int) := IntWalk.i64_in _ (by omega)
    have HW1 := Lib.hid hw1
    have hdne : ((p : Int) == (n : Int)) = false := beq_eq_false_iff_ne.2 (by omega)
    have hlt0 : (p : Int) < (n : Int) := by omega
    have hlt1 : 0 ≤ (p : Int) := by omega
    have hal : (ad.add (p * 3)).block < W.heap.size := by rw [add_block]; omega
    have hbl : b < W.heap.size := by omega
    have hwho : (leftR (⟨whose ⟨xk, xp, (N : Int)⟩, (N : Int).toNat⟩ :: u) tk) = ⟨if xk = 2 then -1 else xp, N - tk⟩ := by
      simp only [leftR, whose, Int.toNat_natCast]
    generalize leftR (⟨whose ⟨xk, xp, (N : Int)⟩, (N : Int).toNat⟩ :: u) tk = R at hwho ⊢
    have HR := Lib.hid hwho
    clear h hB hBW hTW hP e0 e34 e35 e36 hlen hW hf hx hin hwho hw1 h3 h4
    go_enter Try.func43, Try.ntmps43
    go_wp2_with fail
    rw [← HW.out]
    clear HW
    generalize hg : w.heap.size = g at n0 n1 g0 g1 hbW hgs ⊢
    have HGS := Lib.hid hg
    clear hg
    go_quiet (fail)
    go_wp2_with fail
    obtain ⟨W1, hW1⟩ : ∃ W1, W1 = W.drewN nq := ⟨_, rfl⟩
    have E0 : W1.cell? ⟨b, 0, none⟩ = some (.slice (some ad) n cap) := by rw [hW1]; exact c0
    have E34 : W1.cell? ⟨b, 34, none⟩ = some (.int .i64 (p : Int)) := by rw [hW1]; exact c34
    have E35 : W1.cell? ⟨b, 35, none⟩ = some (.int .i64 (tk : Int)) := by rw [hW1]; exact c35
    have F0 : W1.cell? (ad.add (p * 3)) = some (.int .i64 xk) := by rw [hW1]; exact d0
    have F1 : W1.cell? ⟨(ad.add (p * 3)).block, (ad.add (p * 3)).off + 1, none⟩ = some (.int .i64 xp) := by rw [hW1]; exact d1
    have F2 : W1.cell? ⟨(ad.add (p * 3)).block, (ad.add (p * 3)).off + 2, none⟩ = some (.int .i64 (N : Int)) := by rw [hW1]; exact d2
    have N0 : W1.cell? ⟨g, 0, none⟩ = some (.int .i64 0) := by rw [hW1]; exact n0
    have N1 : W1.cell? ⟨g, 1, none⟩ = some (.int .i64 0) := by rw [hW1]; exact n1
    have G0 : W1.frozen? ⟨g, 0, none⟩ = false := by rw [hW1]; exact g0
    have G1 : W1.frozen? ⟨g, 1, none⟩ = false := by rw [hW1]; exact g1
    have hbl' : b < W1.heap.size := by rw [hW1]; exact hbl
    have hal' : (ad.add (p * 3)).block < W1.heap.size := by rw [hW1]; exact hal
    have hgs' : g < W1.heap.size := by rw [hW1]; exact hgs
    have hbW1 : Below g w W1 := by rw [hW1]; exact Below.drewN hbW nq
    rw [← hW1]
    clear c0 c34 c35 d0 d1 d2 hW1 n0 n1 g0 g1 hbl hal hgs hbW
    go_region
    obtain ⟨W2, hW2⟩ : ∃ W2, W2 = (W1.alloc (.cells #[.int .i64 xk, .int .i64 xp, .int .i64 (N : Int)] 44)).drew := ⟨_, rfl⟩
    have K35 : W2.cell? ⟨b, 35, none⟩ = some (.int .i64 (tk : Int)) := by rw [hW2]; exact (World.cell?_alloc_lt W1 _ ⟨b, 35, none⟩ hbl').trans E35
    have Q0 : W2.cell? ⟨W1.heap.size, 0, none⟩ = some (.int .i64 xk) := by rw [hW2]; exact World.cell?_alloc_mark _ _ _ _ _
    have Q1 : W2.cell? ⟨W1.heap.size, 1, none⟩ = some (.int .i64 xp) := by rw [hW2]; exact World.cell?_alloc_mark _ _ _ _ _
    have Q2 : W2.cell? ⟨W1.heap.size, 2, none⟩ = some (.int .i64 (N : Int)) := by rw [hW2]; exact World.cell?_alloc_mark _ _ _ _ _
    have M0 : W2.cell? ⟨g, 0, none⟩ = some (.int .i64 0) := by rw [hW2]; exact (World.cell?_alloc_lt W1 _ ⟨g, 0, none⟩ hgs').trans N0
    have M1 : W2.cell? ⟨g, 1, none⟩ = some (.int .i64 0) := by rw [hW2]; exact (World.cell?_alloc_lt W1 _ ⟨g, 1, none⟩ hgs').trans N1
    have P0 : W2.frozen? ⟨g, 0, none⟩ = false := by rw [hW2]; exact (World.frozen?_of_block (a := ⟨g, 0, none⟩) (Below.heap_alloc W1 _ g hgs')).trans G0
    have P1 : W2.frozen? ⟨g, 1, none⟩ = false := by rw [hW2]; exact (World.frozen?_of_block (a := ⟨g, 1, none⟩) (Below.heap_alloc W1 _ g hgs')).trans G1
    have hbW2 : Below g w W2 := by rw [hW2]; exact (hbW1.alloc (Nat.le_of_lt hgs') _).drew
    rw [← hW2]
    clear hW2 E0 E34 E35 F0 F1 F2 N0 N1 G0 G1 hal' hbW1 hgs'
    generalize W1.heap.size = g2 at Q0 Q1 Q2 ⊢
    have hfin : ∀ v : Int, v = R.p → Ans (rv R.p (R.n : Int)) w (.returned (rv v ((N : Int) - (tk : Int)))) ((W2.drew.setCell ⟨g, 0, none⟩ (.int .i64 v)).setCell ⟨g, 1, none⟩ (.int .i64 ((N : Int) - (tk : Int)))) := fun v hv => by
      refine ⟨?_, ?_⟩
      · rw [hv, HR.out]
        dsimp only
        rw [show ((N - tk : Nat) : Int) = (N : Int) - (tk : Int) by omega]
      · rw [HGS.out]
        exact ((hbW2.drew).setCell (p := ⟨g, 0, none⟩) (Nat.le_refl _) _).setCell (p := ⟨g, 1, none⟩) (Nat.le_refl _) _
    have HF := Lib.hid hfin
    clear hfin
    go_wp2_with fail
    all_goals
      have hw1 := HW1.out
      go_still_tail 9, (by kernel_rfl)
      change wpList _ _ _ _ _ W2.drew
      go_wp2_with fail
      refine bodyPost_ret (results_run rfl rfl ?_ ?_) rfl (HF.out _ ?_)
      · rw [World.cell?_drew, World.cell?_setCell_other _ _ _ _ (by simp)]
        exact World.cell?_setCell_same _ _ _ (u := .int .i64 0) M0
      · rw [World.cell?_drew]
        exact World.cell?_setCell_same _ _ _ (u := .int .i64 0) ((World.cell?_setCell_other _ _ _ _ (by simp)).trans M1)
      · rw [HR.out]
        simp only [beq_iff_eq, beq_eq_false_iff_ne, ne_eq] at *
        simp [*]
end Go.Proofs.Ytpjppglaieohlaa
