/- Closing a matrix by searches. -/
import Derived.Test.YtknlhhbkahollaaGled
namespace Go.Proofs.Ytknlhhbkahollaa
open Go.RowKit Tab
set_option linter.unusedSimpArgs false
set_option linter.unusedVariables false

theorem OwnV.obk_ge {E s B n c b : Nat} {w : World} {A : Option Addr} {l : List Value} (h : OwnV E s w B A n c l) (hA : obk A = some b) : B ≤ b ∧ b < w.heap.size := by
  rcases h.2 with ⟨hv, _⟩ | ⟨g, cap, cur, hv, hbg, hg, _⟩
  · injection hv with h1
    subst h1
    cases hA
  · injection hv with h1
    subst h1
    injection hA with hA
    have hA : g = b := hA
    subst hA
    exact ⟨hbg, (Array.getElem?_eq_some_iff.1 hg).1⟩
def cast (l : List Nat) : List Int := l.map fun x : Nat => (x : Int)
/-- Rows of numbers of a call's own in a row of its own: k of them are laid. -/
structure Stp (w : World) (B g n k : Nat) (R : Nat → Option Addr × Nat) (S : Nat → List Nat) : Prop where
  outer : ∃ f, Vec w g n f ∧ ∀ i, i < k → f i = .slice (R i).1 (S i).length (R i).2
  rows : ∀ i, i < k → OwnV 3 1 w B (R i).1 (S i).length (R i).2 (is (cast (S i)))
  low : B ≤ g
  ne : ∀ i, i < k → obk (R i).1 ≠ some g
  inj : ∀ i j b, i < k → j < k → i ≠ j → obk (R i).1 = some b → obk (R j).1 ≠ some b
section
variable {w w' : World} {g n k B : Nat} {R : Nat → Option Addr × Nat} {S : Nat → List Nat}
theorem Stp.on (h : Stp w B g n k R S) (hb : Below w.heap.size w w') : Stp w' B g n k R S := by
  obtain ⟨f, h1, h2⟩ := h.outer
  exact ⟨⟨f, h1.on hb, h2⟩, fun i hi => (h.rows i hi).below rfl hb, h.low, h.ne, h.inj⟩
theorem Stp.push (h : Stp w B g n k R S) {A : Option Addr} {c : Nat} {l : List Nat} (hx : OwnV 3 1 w B A l.length c (is (cast l))) (hg : obk A ≠ some g) (hA : ∀ i b, i < k → obk (R i).1 = some b → obk A ≠ some b) (hk : k < n) :
    Stp (w.setCell ⟨g, k, none⟩ (.slice A l.length c)) B g n (k + 1) (put1 R k (A, c)) (put1 S k l) := by
  obtain ⟨f, h1, h2⟩ := h.outer
  have hlt : ∀ i, i < k + 1 → i ≠ k → i < k := fun i _ _ => by omega
  have hset : ∀ A n c l, OwnV 3 1 w B A n c l → obk A ≠ some g → ∀ v, OwnV 3 1 (w.setCell ⟨g, k, none⟩ v) B A n c l := fun A n c l ho hne v =>
    ho.keep' fun b hb => Below.heap_setCell _ _ _ _ fun e => hne (by rw [hb]; exact congrArg some e)
  refine ⟨⟨_, h1.set k _, fun i hi => ?_⟩, fun i hi => ?_, h.low, fun i hi => ?_, fun i j b hi hj hij e => ?_⟩
  · by_cases e : i = k
    · subst e; rw [put1_same, put1_same, put1_same]
    · rw [put1_other e, put1_other e, put1_other e]; exact h2 i (hlt i hi e)
  · by_cases e : i = k
    · subst e; rw [put1_same, put1_same]; exact hset _ _ _ _ hx hg _
    · rw [put1_other e, put1_other e]; exact hset _ _ _ _ (h.rows i (hlt i hi e)) (h.ne i (hlt i hi e)) _
  · by_cases e : i = k
    · subst e; rw [put1_same]; exact hg
    · rw [put1_other e]; exact h.ne i (hlt i hi e)
  · by_cases e1 : i = k
    · subst e1
      have e2 : j ≠ i := fun e => hij e.symm
      rw [put1_same] at e
      rw [put1_other e2]
      exact fun e3 => hA j b (hlt j hj e2) e3 e
    · rw [put1_other e1] at e
      by_cases e2 : j = k
      · subst e2; rw [put1_same]; exact hA i b (hlt i hi e1) e
      · rw [put1_other e2]; exact h.inj i j b (hlt i hi e1) (hlt j hj e2) hij e
theorem Stp.rds (h : Stp w B g n n R S) : RdS w w.heap.size (some ⟨g, 0, none⟩) n S := by
  obtain ⟨f, h1, h2⟩ := h.outer
  exact ⟨R, (h1.congr h2).rdc, fun i hi => ⟨(h.rows i hi).cap, ⟨by simp, (h.rows i hi).rd⟩⟩⟩
theorem RdS.congr {A : Option Addr} {T : Nat → List Nat} (h : RdS w B A n S) (e : ∀ i, i < n → S i = T i) : RdS w B A n T := by
  obtain ⟨R, h1, h2⟩ := h
  exact ⟨R, h1.congr fun i hi => by rw [e i hi], fun i hi => by rw [← e i hi]; exact h2 i hi⟩
end
theorem add_one'' (g k : Nat) : (⟨g, 0, none⟩ : Addr).add k = ⟨g, k, none⟩ := by
  unfold Addr.add
  split
  · rename_i h
    rw [h]
  · simp
theorem Mat.weak {w : World} {B B' g n k : Nat} {G : Nat → Nat} {m : Nat → Nat → Bool} (h : Mat w B g n k G m) (hB : B' ≤ B) : Mat w B' g n k G m :=
  ⟨h.outer, h.rows, Nat.le_trans hB h.low, fun i hi => Nat.le_trans hB (h.ge i hi), h.ne, h.inj⟩
set_option maxRecDepth 100000 in
set_option maxHeartbeats 4000000 in
theorem closure_any (A : Option Addr) (n c : Nat) (m : Nat → Nat → Bool) (w : World) (h : RdM w w.heap.size A n (fun _ => n) m) (hn : n ≤ 1024) :
    Calls Try.prog 12 #[.slice A n c] w (MadG n (War m n) w) := by
  have HSQ := Lib.hid (square_any A n c _ m w h hn)
  have hsq : sqB n (fun _ => n) = true := sqB_iff.2 fun _ _ => rfl
  rw [hsq] at HSQ
  have hmk := run_makeII n (by omega)
  have hmb := run_makeBB n (by omega)
  clear hsq
  go_enter Try.func12, Try.ntmps12
  go_wp2_with fail
  refine HSQ.out.mono ?_
  rintro e w1 ⟨rfl, hb1⟩
  have h1 := h.on hb1
  obtain ⟨B, hB⟩ : ∃ B, B = w.heap.size := ⟨_, rfl⟩
  have HB := Lib.hid hB
  have hBw : B ≤ w1.heap.size := by rw [hB]; exact hb1.size
  have hS0 : Stp (w1.alloc (.cells (madeCells #[.slice none 0 0] n) 28)) B w1.heap.size n 0 (fun _ => (none, 0)) (fun x => plcs n (m x)) :=
    ⟨⟨fun _ => .slice none 0 0, Vec.lit _ _ _ n _ fun j hj => made_get _ n j hj, fun i hi => by omega⟩, fun i hi => by omega, hBw, fun i hi => by omega, fun i j b hi => by omega⟩
  have hb2 : Below B w (w1.alloc (.cells (madeCells #[.slice none 0 0] n) 28)) := by
    rw [hB]; exact hb1.trans ((bl1 _ _).mono hb1.size)
  have h2 := h1.on (bl1 w1 (.cells (madeCells #[.slice none 0 0] n) 28))
  have hgs : w1.heap.size < (w1.alloc (.cells (madeCells #[.slice none 0 0] n) 28)).heap.size := by simp
  have HRM : Hid (RdM w B A n (fun _ => n) m) := Lib.hid (by rw [hB]; exact h)
  clear HSQ h hB h1 hb1 h2
  go_wp2_with fail
  generalize w1.alloc (.cells (madeCells #[.slice none 0 0] n) 28) = W0 at hS0 hb2 hgs ⊢
  generalize w1.heap.size = g at hS0 hgs hBw ⊢
  clear hmk
  go_loopw [4, 5, 16] (fun _ _ s wr => ∃ (i : Nat) (R : Nat → Option Addr × Nat) (S : Nat → List Nat), i ≤ n ∧ s = .int .i64 i ∧ Stp wr B g n i R S ∧ (∀ j, j < i → S j = plcs n (m j)) ∧ Below B w wr) (fun _ _ s _ => n - (intOf s).toNat)
  case atStart => exact ⟨0, _, _, by omega, rfl, hS0, fun j hj => by omega, hb2⟩
  case round =>
    obtain ⟨i, R, S, hi, rfl, hS, hSp, hb⟩ := hrel
    have HSP := Lib.hid hSp
    clear hSp
    have hgl : g < wr.heap.size := by
      obtain ⟨f, h1, _⟩ := hS.outer
      exact h1.lt
    by_cases hlt : i < n
    · obtain ⟨ad, Ra, ca, rfl, had, c0, hca, hrow⟩ := (HRM.out.below hb).at_ hlt
      have HPL := Lib.hid (places_any Ra n ca (m i) wr (hrow.more (by omega)) hn)
      clear hrow
      go_wp2_with fail
      refine HPL.out.mono ?_
      rintro e w5 ⟨A5, c5, rfl, ho5, hb5⟩
      have hS5 := hS.on hb5
      have hb6 := hb.trans (hb5.mono (by omega))
      obtain ⟨f, hf, _⟩ := hS5.outer
      have d0 := hf.cell i hlt
      have d1 := hf.thaw i
      have hP := hS5.push (A := A5) (c := c5) (l := plcs n (m i)) (ho5.weak (by omega)) (fun e => by
        have := (ho5.obk_ge e).1
        omega) (fun j b hj e e2 => by
        have h1 := (ho5.obk_ge e2).1
        have h2 := ((hS.rows j hj).obk_ge e).2
        omega) hlt
      have hb7 := hb6.setCell (p := ⟨g, i, none⟩) hBw (.slice A5 (plcs n (m i)).length c5)
      have HP := Lib.hid hP
      have HB7 := Lib.hid hb7
      clear hS hS5 hb hb5 hb6 hP hb7 hf HPL c0 ho5
      generalize (plcs n (m i)).length = z at HP HB7 ⊢
      go_wp2_with fail
      go_roundw
      case rel => exact ⟨i + 1, _, _, by omega, by go_num, HP.out, fun j hj => by
        by_cases e : j = i
        · subst e; rw [put1_same]
        · rw [put1_other e]; exact HSP.out j (by omega), HB7.out⟩
      case measure => simp [intOf]; omega
    · have hge : n ≤ i := by omega
      obtain rfl : n = i := by omega
      have hR := hS.rds.congr HSP.out
      have HR := Lib.hid hR
      have hM0 := Mat.start wr wr.heap.size n (Nat.le_refl _) 40 m (fun _ => 0)
      have hb9 := bl1 wr (.cells (madeCells #[.slice none 0 0] n) 40)
      have HBB := Lib.hid hb
      have hBx : B ≤ wr.heap.size := by omega
      clear hS HSP hR hb hgl
      go_wp2_with fail
      obtain ⟨w2, hw2⟩ : ∃ w2, w2 = wr := ⟨_, rfl⟩
      rw [← hw2] at HR hM0 hb9 HBB hBx ⊢
      obtain ⟨x, hx⟩ : ∃ x, x = w2.heap.size := ⟨_, rfl⟩
      rw [← hx] at HR hM0 hb9 hBx ⊢
      generalize w2.alloc (.cells (madeCells #[.slice none 0 0] n) 40) = W2 at hM0 hb9 ⊢
      clear hw2 hmb
      have HX := Lib.hid hx
      clear hx
      go_loopw [7, 32] (fun _ s wx => ∃ (i : Nat) (G : Nat → Nat) (M : Nat → Nat → Bool), i ≤ n ∧ s = .int .i64 i ∧ Mat wx x x n i G M ∧ (∀ a, a < i → ∀ b, M a b = true ↔ Rch (fun x => plcs n (m x)) (plcs n (m a)) b) ∧ Below x w2 wx) (fun _ s _ => n - (intOf s).toNat)
      case atStart => exact ⟨0, _, _, by omega, rfl, hM0, fun j hj => by omega, hb9⟩
      case round =>
        obtain ⟨i, G, M, hi, rfl, hM, hMp, hb⟩ := hrel
        have HMP := Lib.hid hMp
        clear hMp
        have hxl : x < wr.heap.size := by
          obtain ⟨f, h1, _⟩ := hM.outer
          exact h1.lt
        by_cases hlt : i < n
        · have hR2 := (HR.out.below hb).more (Nat.le_of_lt hxl)
          obtain ⟨ad, Ra, ca, e, had, c0, hca, hrow⟩ := hR2.at_ hlt
          injection e with e
          subst e
          have e1 : (⟨g, 0, none⟩ : Addr).add i = ⟨g, i, none⟩ := add_one'' g i
          rw [e1] at c0
          have HLD := Lib.hid (led_any (some ⟨g, 0, none⟩) Ra n n ca (fun x => plcs n (m x)) (plcs n (m i)) wr hR2 hrow hca hn (fun y hy => (mem_plcs.1 hy).1) (fun b _ y hy => (mem_plcs.1 hy).1) (by have := plcs_len n (m i); omega) (fun b _ => by have := plcs_len n (m b); omega))
          clear hrow hR2
          generalize (plcs n (m i)).length = z at c0 hca HLD
          go_wp2_with fail
          refine HLD.out.mono ?_
          rintro e w5 ⟨h5, M5, rfl, hv5, hh5, hb5, hm5⟩
          have hM5 := hM.on hb5
          have hb6 := hb.trans (hb5.mono (Nat.le_of_lt hxl))
          obtain ⟨f, hf, _⟩ := hM5.outer
          have d0 := hf.cell i hlt
          have d1 := hf.thaw i
          have hP := hM5.push hv5 (by omega) (by omega) (fun j hj => by
            have := (hM.rows j hj).lt
            omega) hlt
          have hb7 := hb6.setCell (p := ⟨x, i, none⟩) (Nat.le_refl _) (.slice (some ⟨h5, 0, none⟩) n n)
          have HP := Lib.hid hP
          have HB7 := Lib.hid hb7
          have HM5 := Lib.hid hm5
          clear hM hM5 hb hb5 hb6 hP hb7 hf HLD c0 hv5 hm5
          go_wp2_with fail
          go_roundw
          case rel => exact ⟨i + 1, _, _, by omega, by go_num, HP.out, fun a ha b => by
            by_cases e : a = i
            · subst e; simp only [if_true]; exact HM5.out b
            · simp only [e, if_false]; exact HMP.out a (by omega) b, HB7.out⟩
          case measure => simp [intOf]; omega
        · have hge : n ≤ i := by omega
          obtain rfl : n = i := by omega
          have hfin := (hM.congr (m' := War m n) fun a b ha hb => by rw [rch_war HMP.out a b ha hb]).weak hBx
          clear hM
          go_wp2_with fail
          go_ret
          refine ⟨x, G, rfl, by rw [← HB.out]; exact hfin, ?_⟩
          have := HBB.out.trans (hb.mono hBx)
          rw [HB.out] at this
          exact this
/-- Of what is not square: none. -/
theorem closure_none (A : Option Addr) (n c : Nat) (l : Nat → Nat) (m : Nat → Nat → Bool) (w : World) (h : RdM w w.heap.size A n l m) (hn : n ≤ 1024) (hs : sqB n l = false) :
    Calls Try.prog 12 #[.slice A n c] w (Ans (.slice none 0 0) w) := by
  have HSQ := Lib.hid (square_any A n c _ m w h hn)
  rw [hs] at HSQ
  clear h hs
  go_enter Try.func12, Try.ntmps12
  go_wp2_with fail
  refine HSQ.out.mono ?_
  rintro e w1 ⟨rfl, hb1⟩
  go_wp2_with fail
  go_ret
  exact ⟨rfl, hb1⟩
end Go.Proofs.Ytknlhhbkahollaa
