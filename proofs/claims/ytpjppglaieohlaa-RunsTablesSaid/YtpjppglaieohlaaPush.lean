/- The path behind a node that has children. -/
import Derived.Test.YtpjppglaieohlaaTimes
import Derived.Great.BuildSlice
namespace Go.Proofs.Ytpjppglaieohlaa
open Go.RowKit Tab
set_option linter.unusedSimpArgs false
set_option linter.unusedVariables false

theorem run_push (w : World) (B : Nat) (A : Option Addr) (n c : Nat) (st : List (Nat × Nat)) (N T : Nat) (h : OwnP w B A n c st) (hn : n ≤ 1099511627776) (hB : B ≤ w.heap.size) (g : Nat)
    (c0 : w.cell? ⟨g, 0, none⟩ = some (.int .i64 (N : Int))) (c1 : w.cell? ⟨g, 1, none⟩ = some (.int .i64 (T : Int))) :
    ∃ A' c' w', (Builtin.append_ #[63, 63] 63 #[.slice A n c, .slice (some ⟨g, 0, none⟩) 1 1]).run Try.prog w = .ok (.slice A' (n + 1) c') w' ∧ OwnP w' B A' (n + 1) c' ((N, T) :: st) ∧ Below B w w' ∧ OwnP w' B A n c st ∧
      ∀ k, (∀ g', A = some ⟨g', 0, none⟩ → k ≠ g') → k < w.heap.size → w'.heap[k]? = w.heap[k]? := by
  obtain ⟨h0, h⟩ := h
  have hc : ∀ j u, ([.int .i64 (N : Int), .int .i64 (T : Int)] : List Value)[j]? = some u → w.cell? ((⟨g, 0, none⟩ : Addr).add j) = some u := by
    intro j u hu
    match j, hu with
    | 0, hu => simp at hu; subst hu; exact c0
    | 1, hu => simp at hu; subst hu; exact c1
  have hone : ∀ u ∈ ([.int .i64 (N : Int), .int .i64 (T : Int)] : List Value), u.oneCell' = true := by
    intro u hu
    simp at hu
    rcases hu with rfl | rfl <;> rfl
  have hlen : ((N, T) :: st).length = st.length + 1 := rfl
  cases A with
  | none =>
    have hgl : g < w.heap.size := World.block_lt_of_cell? w _ c0
    obtain ⟨A', c', w', h1, h2, h3, h4⟩ := run_appV elO w B none n c (os st) h (some ⟨g, 0, none⟩) 1 1 [.int .i64 (N : Int), .int .i64 (T : Int)] w.heap.size (fun _ => ⟨_, rfl, hgl, hc⟩) rfl hone (by omega) (by unfold maxLen; omega) hB
    refine ⟨A', c', w', h1, ⟨by rw [hlen, h0], h2⟩, h3, ⟨h0, ?_⟩, fun k _ hk => h4 0 (fun g' hg' => by cases hg') k (Nat.zero_le _) hk⟩
    exact h.keep fun b _ hb => h4 0 (fun g' hg' => by cases hg') b (Nat.zero_le _) hb
  | some ad =>
    have e : ∃ g', ad = ⟨g', 0, none⟩ := by
      rcases h.2 with ⟨hv, _⟩ | ⟨g', cap, cur, hv, _⟩
      · cases hv
      · injection hv with h1; injection h1 with h1; exact ⟨g', h1⟩
    obtain ⟨g', rfl⟩ := e
    obtain ⟨A', c', w', h1, h2, h3, h4, h5⟩ := run_appK elO w B g' n c (os st) h ⟨g, 0, none⟩ 1 1 [.int .i64 (N : Int), .int .i64 (T : Int)] hc rfl hone (by omega) (by unfold maxLen; omega) hB
    exact ⟨A', c', w', h1, ⟨by rw [hlen, h0], h2⟩, h3, ⟨h0, h4⟩, fun k hk hlt => h5 k (hk g' rfl) hlt⟩

/-- A literal's new block that holds a pair. -/
def LitP (bx N T : Nat) (v : Value) (w : World) : Prop := ∃ g, v = .slice (some ⟨g, 0, none⟩) 1 1 ∧ bx < g ∧ g < w.heap.size ∧ w.cell? ⟨g, 0, none⟩ = some (.int .i64 (N : Int)) ∧ w.cell? ⟨g, 1, none⟩ = some (.int .i64 (T : Int))
def PushP (B n : Nat) (st : List (Nat × Nat)) (v : Value) (w : World) : Prop := ∃ A' c', v = .slice A' (n + 1) c' ∧ OwnP w B A' (n + 1) c' st
/-- What stands while a pair is pushed. -/
structure PushW (B : Nat) (A : Option Addr) (n c : Nat) (st : List (Nat × Nat)) (bx : Nat) (z : Int) (w0 w : World) : Prop where
  bel : Below B w0 w
  own : OwnP w B A n c st
  cell : w.cell? ⟨bx, 2, none⟩ = some (.int .i64 z)
  lt : bx < w.heap.size
  low : ∀ g, A = some ⟨g, 0, none⟩ → g < bx
theorem OwnP.keep {w w' : World} {B n c : Nat} {A : Option Addr} {st : List (Nat × Nat)} (h : OwnP w B A n c st) (hk : ∀ b, B ≤ b → b < w.heap.size → w'.heap[b]? = w.heap[b]?) : OwnP w' B A n c st := ⟨h.1, h.2.keep hk⟩
theorem cell_block {w w' : World} {g o : Nat} (h : w'.heap[g]? = w.heap[g]?) : w'.cell? ⟨g, o, none⟩ = w.cell? ⟨g, o, none⟩ := World.cell?_of_block h
theorem LitP.keep {bx N T : Nat} {v : Value} {w w' : World} (h : LitP bx N T v w) (hs : w.heap.size ≤ w'.heap.size) (hk : ∀ k, bx < k → k < w.heap.size → w'.heap[k]? = w.heap[k]?) : LitP bx N T v w' := by
  obtain ⟨g, e, h1, h2, h3, h4⟩ := h
  have := hk g h1 h2
  exact ⟨g, e, h1, by omega, (cell_block this).trans h3, (cell_block this).trans h4⟩
theorem PushP.keep {B n : Nat} {st : List (Nat × Nat)} {v : Value} {w w' : World} (h : PushP B n st v w) (hk : ∀ k, k < w.heap.size → w'.heap[k]? = w.heap[k]?) : PushP B n st v w' := by
  obtain ⟨A', c', e, h⟩ := h
  exact ⟨A', c', e, h.keep fun b _ hb => hk b hb⟩
theorem PushW.alloc {B : Nat} {A : Option Addr} {n c : Nat} {st : List (Nat × Nat)} {bx : Nat} {z : Int} {w0 w : World} (h : PushW B A n c st bx z w0 w) (hB : B ≤ w0.heap.size) (o : Obj) : PushW B A n c st bx z w0 (w.alloc o) := by
  have hs := h.bel.size
  refine ⟨h.bel.alloc (by omega) o, h.own.keep fun b _ hb => Below.heap_alloc w o b hb, ?_, by simp; have := h.lt; omega, h.low⟩
  exact (cell_block (Below.heap_alloc w o bx h.lt)).trans h.cell
theorem built_pair (x y : Int) : Try.prog.built 81 [(0, .int .i64 x), (1, .int .i64 y)] = some #[.int .i64 x, .int .i64 y] := by
  rfl
theorem hl_hold (a b h : Nat) (e : hold a b = h) : hl (a : Int) (b : Int) = (h : Int) := by
  rw [← e]
  unfold hl hold
  rw [← Int.natCast_mul]
  split <;> split <;> omega
def SqV (B : Nat) (A : Option Addr) (n c : Nat) (st : List (Nat × Nat)) (bx N T : Nat) (j : Nat) (v : Value) (w : World) : Prop :=
  match j with
  | 0 => v = .slice A n c
  | 1 => v = .pointer (some ⟨bx, 2, none⟩)
  | 2 => v = .int .i64 (N : Int)
  | 3 => v = .slice A n c
  | 4 => v = .int .i64 (T : Int)
  | 5 => v = .agg #[.int .i64 (N : Int), .int .i64 (T : Int)]
  | 6 => LitP bx N T v w
  | 7 => PushP B n ((N, T) :: st) v w
  | 8 => PushP B n ((N, T) :: st) v w
  | _ => True
theorem SqV.keep {B : Nat} {A : Option Addr} {n c : Nat} {st : List (Nat × Nat)} {bx N T : Nat} {w w' : World} (hs : w.heap.size ≤ w'.heap.size) (hk : ∀ k, k < w.heap.size → w'.heap[k]? = w.heap[k]?) (j : Nat) (v : Value) (h : SqV B A n c st bx N T j v w) : SqV B A n c st bx N T j v w' := by
  unfold SqV at h ⊢
  split at h <;> first | exact h | exact LitP.keep h hs (fun k _ hk' => hk k hk') | exact PushP.keep h hk
theorem SqV.push {B : Nat} {A : Option Addr} {n c : Nat} {st : List (Nat × Nat)} {bx N T : Nat} {w w' : World} (hlow : ∀ g, A = some ⟨g, 0, none⟩ → g < bx) (hs : w.heap.size ≤ w'.heap.size) (hk : ∀ k, (∀ g', A = some ⟨g', 0, none⟩ → k ≠ g') → k < w.heap.size → w'.heap[k]? = w.heap[k]?) (j : Nat) (hj : j ≠ 7) (hj2 : j ≠ 8) (v : Value) (h : SqV B A n c st bx N T j v w) : SqV B A n c st bx N T j v w' := by
  unfold SqV at h ⊢
  split at h <;> first | exact h | exact LitP.keep h hs (fun k hk1 hk' => hk k (fun g' hg' => by have := hlow g' hg'; omega) hk') | (exact absurd rfl hj) | (exact absurd rfl hj2)
set_option maxRecDepth 100000 in
set_option maxHeartbeats 1600000 in
theorem behind_seq (B : Nat) (A : Option Addr) (n c : Nat) (st : List (Nat × Nat)) (p : Int) (N : Nat) (w : World) (h : OwnP w B A n c st) (hB : B ≤ w.heap.size) (hn : n ≤ 1099511627776) :
    Calls Try.prog 37 #[.slice A n c, nd 3 p (N : Int)] w (Paths B w ((N, times st) :: st)) := by
  generalize hTd : times st = T
  have HT : Hid (times st = T) := Lib.hid hTd
  clear hTd
  have hlow : ∀ g, A = some ⟨g, 0, none⟩ → g < w.heap.size := fun g hg => by
    rcases h.2.2 with ⟨hv, _⟩ | ⟨g', cap, cur, hv, _, hg', _⟩
    · rw [hg] at hv; cases hv
    · rw [hg] at hv
      injection hv with h1; injection h1 with h1; injection h1 with h1
      rw [h1]
      exact (Array.getElem?_eq_some_iff.1 hg').1
  have hw0 : PushW B A n c st w.heap.size (N : Int) w (w.alloc (.cells #[.int .i64 3, .int .i64 p, .int .i64 (N : Int)] 44)) :=
    ⟨(Below.refl _ _).alloc hB _, h.keep fun b _ hb => Below.heap_alloc w _ b hb, by simp [World.cell?_alloc_mark], by simp, hlow⟩
  have hB0 := hB
  clear h hlow
  have HW := Lib.hid hw0
  clear hw0
  go_enter Try.func37, Try.ntmps37
  go_wp2_with fail
  have hw0 := HW.out
  clear HW
  generalize w.alloc (.cells #[.int .i64 3, .int .i64 p, .int .i64 (N : Int)] 44) = ws at hw0 ⊢
  generalize w.heap.size = bx at hw0 ⊢
  refine Reg.region (by kernel_rfl) (by kernel_rfl) (SqV B A n c st bx N T) (PushW B A n c st bx (N : Int) w) ⟨hw0.bel.drew, hw0.own, hw0.cell, hw0.lt, hw0.low⟩ (Reg.steps_of ?_) ?_
  · refine ⟨?_, ?_, ?_, ?_, ?_, ?_, ?_, ?_, ?_, trivial⟩
    · intro a w1 E D hW
      have e0 : a.eval (.tmp 0) = .slice A n c := E 0 rfl
      exact Reg.val rfl (Reg.wanted_free rfl) hW (.slice A n c) (by have c := Reg.consts a; generalize a.eval = ρ at *; simp [go_sem, c.1, c.2, e0]) rfl
    · intro a w1 E D hW
      have e3 : a.eval (.tmp 3) = .pointer (some ⟨bx, 0, none⟩) := E 3 rfl
      exact Reg.val rfl (Reg.wanted_free rfl) hW (.pointer (some ⟨bx, 2, none⟩)) (by have c := Reg.consts a; generalize a.eval = ρ at *; simp [go_sem, c.1, c.2, e3]) rfl
    · intro a w1 E D hW
      have d1 : a.eval (.tmp 11) = .pointer (some ⟨bx, 2, none⟩) := D 1 rfl
      have hc := hW.cell
      exact Reg.val rfl (Reg.wanted_free rfl) hW (.int .i64 (N : Int)) (by have c := Reg.consts a; generalize a.eval = ρ at *; simp [go_sem, c.1, c.2, d1, hc]) rfl
    · intro a w1 E D hW
      have e0 : a.eval (.tmp 0) = .slice A n c := E 0 rfl
      exact Reg.val rfl (Reg.wanted_free rfl) hW (.slice A n c) (by have c := Reg.consts a; generalize a.eval = ρ at *; simp [go_sem, c.1, c.2, e0]) rfl
    · intro a w1 E D hW
      have d3 : a.eval (.tmp 13) = .slice A n c := D 3 rfl
      refine Reg.call rfl (Reg.wanted_free rfl) 40 #[.slice A n c] (by have c := Reg.consts a; generalize a.eval = ρ at *; simp [go_sem, c.1, c.2, d3]) ?_
      refine (times_any B A n c st w1 hW.own hn).mono ?_
      rintro e w2 ⟨rfl, rfl⟩
      exact ⟨_, rfl, HT.out ▸ rfl, hW, fun _ _ h => h⟩
    · intro a w1 E D hW
      have d2 : a.eval (.tmp 12) = .int .i64 (N : Int) := D 2 rfl
      have d4 : a.eval (.tmp 14) = .int .i64 (T : Int) := D 4 rfl
      have hbd := built_pair (N : Int) (T : Int)
      exact Reg.val rfl (Reg.wanted_free rfl) hW (.agg #[.int .i64 (N : Int), .int .i64 (T : Int)]) (by have c := Reg.consts a; generalize a.eval = ρ at *; simp [execOp, go_sem, c.1, c.2, d2, d4, hbd]) rfl
    · intro a w1 E D hW
      have d5 : a.eval (.tmp 15) = .agg #[.int .i64 (N : Int), .int .i64 (T : Int)] := D 5 rfl
      refine Reg.grow rfl (Reg.wanted_free rfl) (.slice (some ⟨w1.heap.size, 0, none⟩) 1 1) (w1.alloc (.cells #[.int .i64 (N : Int), .int .i64 (T : Int)] 81)) ?_ ?_ (hW.alloc hB0 _) (fun j v _ h => SqV.keep (by simp) (fun k hk => Below.heap_alloc w1 _ k hk) j v h)
      · have c := Reg.consts a
        generalize a.eval = ρ at *
        simp [execOp, go_sem, c.1, c.2, d5]
      · exact ⟨w1.heap.size, rfl, hW.lt, by simp, by simp [World.cell?_alloc_mark], by simp [World.cell?_alloc_mark]⟩
    · intro a w1 E D hW
      have d0 : a.eval (.tmp 10) = .slice A n c := D 0 rfl
      obtain ⟨g, d6, hg1, hg2, hg3, hg4⟩ : LitP bx N T (a.eval (.tmp 16)) w1 := D 6 rfl
      have hB1 : B ≤ w1.heap.size := by have := hW.bel.size; omega
      obtain ⟨A', c', w', hrun, h1, h2, h3, h4⟩ := run_push w1 B A n c st N T hW.own hn hB1 g hg3 hg4
      have hs := h2.size
      refine Reg.growL rfl (Reg.wanted_free rfl) (.slice A' (n + 1) c') w' ?_ ⟨A', c', rfl, h1⟩ ⟨hW.bel.trans h2, h3, (cell_block (h4 bx (fun g' hg' => by have := hW.low g' hg'; omega) hW.lt)).trans hW.cell, by have := hW.lt; omega, hW.low⟩ ?_
      · have c := Reg.consts a
        generalize a.eval = ρ at *
        simp only [execOp, resolve, invoke, builtin, Sem.run_bind, Sem.run_pure, Result.andThen_ok, List.map_toArray, List.map_cons, List.map_nil, d0, d6, hrun]
      · intro live hcl h0 j v hj hv
        refine SqV.push hW.low hs h4 j ?_ ?_ v hv
        · rintro rfl; rw [h0] at hj; cases hj
        · rintro rfl
          have := Reg.not_live hcl h0 (j := 8) rfl rfl
          rw [this] at hj; cases hj
    · intro a w1 E D hW
      obtain ⟨A', c', d7, h1⟩ : PushP B n ((N, T) :: st) (a.eval (.tmp 17)) w1 := D 7 rfl
      exact Reg.val rfl (Reg.wanted_free rfl) hW (.slice A' (n + 1) c') (by have c := Reg.consts a; generalize a.eval = ρ at *; simp [go_sem, c.1, c.2, d7]) ⟨A', c', rfl, h1⟩
  · intro a w3 hs hd E D hW
    obtain ⟨A', c', d8, h1⟩ : PushP B n ((N, T) :: st) (a.eval (.tmp 4)) w3 := D 8 (by decide)
    have hb3 := hW.bel
    rw [Reg.act_lit a 53 hs, hd]
    simp only [List.range, List.range.loop, List.map, d8]
    clear E D d8 hW hw0
    generalize a.eval = ρ
    clear a hs hd
    go_wp2_with fail
    go_ret
    exact ⟨A', n + 1, c', rfl, h1, hb3⟩
def RpV (B : Nat) (A : Option Addr) (n c : Nat) (st : List (Nat × Nat)) (bx N T H : Nat) (j : Nat) (v : Value) (w : World) : Prop :=
  match j with
  | 0 => v = .slice A n c
  | 1 => v = .pointer (some ⟨bx, 2, none⟩)
  | 2 => v = .int .i64 (N : Int)
  | 3 => v = .slice A n c
  | 4 => v = .int .i64 (T : Int)
  | 5 => v = .int .i64 (H : Int)
  | 6 => v = .agg #[.int .i64 1, .int .i64 (H : Int)]
  | 7 => LitP bx 1 H v w
  | 8 => PushP B n ((1, H) :: st) v w
  | 9 => PushP B n ((1, H) :: st) v w
  | _ => True
theorem RpV.keep {B : Nat} {A : Option Addr} {n c : Nat} {st : List (Nat × Nat)} {bx N T H : Nat} {w w' : World} (hs : w.heap.size ≤ w'.heap.size) (hk : ∀ k, k < w.heap.size → w'.heap[k]? = w.heap[k]?) (j : Nat) (v : Value) (h : RpV B A n c st bx N T H j v w) : RpV B A n c st bx N T H j v w' := by
  unfold RpV at h ⊢
  split at h <;> first | exact h | exact LitP.keep h hs (fun k _ hk' => hk k hk') | exact PushP.keep h hk
theorem RpV.push {B : Nat} {A : Option Addr} {n c : Nat} {st : List (Nat × Nat)} {bx N T H : Nat} {w w' : World} (hlow : ∀ g, A = some ⟨g, 0, none⟩ → g < bx) (hs : w.heap.size ≤ w'.heap.size) (hk : ∀ k, (∀ g', A = some ⟨g', 0, none⟩ → k ≠ g') → k < w.heap.size → w'.heap[k]? = w.heap[k]?) (j : Nat) (hj : j ≠ 8) (hj2 : j ≠ 9) (v : Value) (h : RpV B A n c st bx N T H j v w) : RpV B A n c st bx N T H j v w' := by
  unfold RpV at h ⊢
  split at h <;> first | exact h | exact LitP.keep h hs (fun k hk1 hk' => hk k (fun g' hg' => by have := hlow g' hg'; omega) hk') | (exact absurd rfl hj) | (exact absurd rfl hj2)
set_option maxRecDepth 100000 in
set_option maxHeartbeats 1600000 in
theorem behind_rep (B : Nat) (A : Option Addr) (n c : Nat) (st : List (Nat × Nat)) (p : Int) (N : Nat) (w : World) (h : OwnP w B A n c st) (hB : B ≤ w.heap.size) (hn : n ≤ 1099511627776) (hN : 1 ≤ N) (hN2 : N ≤ 9223372036854775807) (hT1 : 1 ≤ times st) (hT2 : times st ≤ 4097) :
    Calls Try.prog 37 #[.slice A n c, nd 4 p (N : Int)] w (Paths B w ((1, hold N (times st)) :: st)) := by
  generalize hTd : times st = T at hT1 hT2 ⊢
  generalize hHd : hold N T = H
  have HT : Hid (times st = T) := Lib.hid hTd
  have HH : Hid (hl (N : Int) (T : Int) = (H : Int)) := Lib.hid (hl_hold N T H hHd)
  clear hHd
  clear hTd
  have hlow : ∀ g, A = some ⟨g, 0, none⟩ → g < w.heap.size := fun g hg => by
    rcases h.2.2 with ⟨hv, _⟩ | ⟨g', cap, cur, hv, _, hg', _⟩
    · rw [hg] at hv; cases hv
    · rw [hg] at hv
      injection hv with h1; injection h1 with h1; injection h1 with h1
      rw [h1]
      exact (Array.getElem?_eq_some_iff.1 hg').1
  have hw0 : PushW B A n c st w.heap.size (N : Int) w (w.alloc (.cells #[.int .i64 4, .int .i64 p, .int .i64 (N : Int)] 44)) :=
    ⟨(Below.refl _ _).alloc hB _, h.keep fun b _ hb => Below.heap_alloc w _ b hb, by simp [World.cell?_alloc_mark], by simp, hlow⟩
  have hB0 := hB
  clear h hlow
  have HW := Lib.hid hw0
  clear hw0
  go_enter Try.func37, Try.ntmps37
  go_wp2_with fail
  have hw0 := HW.out
  clear HW
  generalize w.alloc (.cells #[.int .i64 4, .int .i64 p, .int .i64 (N : Int)] 44) = ws at hw0 ⊢
  generalize w.heap.size = bx at hw0 ⊢
  refine Reg.region (by kernel_rfl) (by kernel_rfl) (RpV B A n c st bx N T H) (PushW B A n c st bx (N : Int) w) ⟨hw0.bel.drew, hw0.own, hw0.cell, hw0.lt, hw0.low⟩ (Reg.steps_of ?_) ?_
  · refine ⟨?_, ?_, ?_, ?_, ?_, ?_, ?_, ?_, ?_, ?_, trivial⟩
    · intro a w1 E D hW
      have e0 : a.eval (.tmp 0) = .slice A n c := E 0 rfl
      exact Reg.val rfl (Reg.wanted_free rfl) hW (.slice A n c) (by have c := Reg.consts a; generalize a.eval = ρ at *; simp [go_sem, c.1, c.2, e0]) rfl
    · intro a w1 E D hW
      have e3 : a.eval (.tmp 3) = .pointer (some ⟨bx, 0, none⟩) := E 3 rfl
      exact Reg.val rfl (Reg.wanted_free rfl) hW (.pointer (some ⟨bx, 2, none⟩)) (by have c := Reg.consts a; generalize a.eval = ρ at *; simp [go_sem, c.1, c.2, e3]) rfl
    · intro a w1 E D hW
      have d1 : a.eval (.tmp 21) = .pointer (some ⟨bx, 2, none⟩) := D 1 rfl
      have hc := hW.cell
      exact Reg.val rfl (Reg.wanted_free rfl) hW (.int .i64 (N : Int)) (by have c := Reg.consts a; generalize a.eval = ρ at *; simp [go_sem, c.1, c.2, d1, hc]) rfl
    · intro a w1 E D hW
      have e0 : a.eval (.tmp 0) = .slice A n c := E 0 rfl
      exact Reg.val rfl (Reg.wanted_free rfl) hW (.slice A n c) (by have c := Reg.consts a; generalize a.eval = ρ at *; simp [go_sem, c.1, c.2, e0]) rfl
    · intro a w1 E D hW
      have d3 : a.eval (.tmp 23) = .slice A n c := D 3 rfl
      refine Reg.call rfl (Reg.wanted_free rfl) 40 #[.slice A n c] (by have c := Reg.consts a; generalize a.eval = ρ at *; simp [go_sem, c.1, c.2, d3]) ?_
      refine (times_any B A n c st w1 hW.own hn).mono ?_
      rintro e w2 ⟨rfl, rfl⟩
      exact ⟨_, rfl, HT.out ▸ rfl, hW, fun _ _ h => h⟩
    · intro a w1 E D hW
      have d2 : a.eval (.tmp 22) = .int .i64 (N : Int) := D 2 rfl
      have d4 : a.eval (.tmp 24) = .int .i64 (T : Int) := D 4 rfl
      refine Reg.call rfl (Reg.wanted_free rfl) 39 #[.int .i64 (N : Int), .int .i64 (T : Int)] (by have c := Reg.consts a; generalize a.eval = ρ at *; simp [go_sem, c.1, c.2, d2, d4]) ?_
      refine (held_any (N : Int) (T : Int) w1 (by omega) (by omega) (by omega) (by omega)).mono ?_
      rintro e w2 ⟨rfl, rfl⟩
      exact ⟨_, rfl, HH.out ▸ rfl, hW, fun _ _ h => h⟩
    · intro a w1 E D hW
      have d5 : a.eval (.tmp 25) = .int .i64 (H : Int) := D 5 rfl
      have hbd := built_pair 1 (H : Int)
      exact Reg.val rfl (Reg.wanted_free rfl) hW (.agg #[.int .i64 1, .int .i64 (H : Int)]) (by have c := Reg.consts a; generalize a.eval = ρ at *; simp [execOp, go_sem, c.1, c.2, d5, hbd]) rfl
    · intro a w1 E D hW
      have d6 : a.eval (.tmp 26) = .agg #[.int .i64 1, .int .i64 (H : Int)] := D 6 rfl
      refine Reg.grow rfl (Reg.wanted_free rfl) (.slice (some ⟨w1.heap.size, 0, none⟩) 1 1) (w1.alloc (.cells #[.int .i64 1, .int .i64 (H : Int)] 81)) ?_ ?_ (hW.alloc hB0 _) (fun j v _ h => RpV.keep (by simp) (fun k hk => Below.heap_alloc w1 _ k hk) j v h)
      · have c := Reg.consts a
        generalize a.eval = ρ at *
        simp [execOp, go_sem, c.1, c.2, d6]
      · exact ⟨w1.heap.size, rfl, hW.lt, by simp, by simp [World.cell?_alloc_mark], by simp [World.cell?_alloc_mark]⟩
    · intro a w1 E D hW
      have d0 : a.eval (.tmp 20) = .slice A n c := D 0 rfl
      obtain ⟨g, d7, hg1, hg2, hg3, hg4⟩ : LitP bx 1 H (a.eval (.tmp 27)) w1 := D 7 rfl
      have hB1 : B ≤ w1.heap.size := by have := hW.bel.size; omega
      obtain ⟨A', c', w', hrun, h1, h2, h3, h4⟩ := run_push w1 B A n c st 1 H hW.own hn hB1 g hg3 hg4
      have hs := h2.size
      refine Reg.growL rfl (Reg.wanted_free rfl) (.slice A' (n + 1) c') w' ?_ ⟨A', c', rfl, h1⟩ ⟨hW.bel.trans h2, h3, (cell_block (h4 bx (fun g' hg' => by have := hW.low g' hg'; omega) hW.lt)).trans hW.cell, by have := hW.lt; omega, hW.low⟩ ?_
      · have c := Reg.consts a
        generalize a.eval = ρ at *
        simp only [execOp, resolve, invoke, builtin, Sem.run_bind, Sem.run_pure, Result.andThen_ok, List.map_toArray, List.map_cons, List.map_nil, d0, d7, hrun]
      · intro live hcl h0 j v hj hv
        refine RpV.push hW.low hs h4 j ?_ ?_ v hv
        · rintro rfl; rw [h0] at hj; cases hj
        · rintro rfl
          have := Reg.not_live hcl h0 (j := 9) rfl rfl
          rw [this] at hj; cases hj
    · intro a w1 E D hW
      obtain ⟨A', c', d8, h1⟩ : PushP B n ((1, H) :: st) (a.eval (.tmp 28)) w1 := D 8 rfl
      exact Reg.val rfl (Reg.wanted_free rfl) hW (.slice A' (n + 1) c') (by have c := Reg.consts a; generalize a.eval = ρ at *; simp [go_sem, c.1, c.2, d8]) ⟨A', c', rfl, h1⟩
  · intro a w3 hs hd E D hW
    obtain ⟨A', c', d9, h1⟩ : PushP B n ((1, H) :: st) (a.eval (.tmp 4)) w3 := D 9 (by decide)
    have hb3 := hW.bel
    rw [Reg.act_lit a 53 hs, hd]
    simp only [List.range, List.range.loop, List.map, d9]
    clear E D d9 hW hw0
    generalize a.eval = ρ
    clear a hs hd
    go_wp2_with fail
    go_ret
    exact ⟨A', n + 1, c', rfl, h1, hb3⟩
end Go.Proofs.Ytpjppglaieohlaa
