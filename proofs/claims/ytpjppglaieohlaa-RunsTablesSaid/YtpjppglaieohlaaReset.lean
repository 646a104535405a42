/- A cursor in memory: back to the beginning. -/
import Derived.Test.YtpjppglaieohlaaTake
namespace Go.Proofs.Ytpjppglaieohlaa
open Go.RowKit Tab
set_option linter.unusedSimpArgs false
set_option linter.unusedVariables false

/-- Noughts from cell o on, so many. -/
def zr (c : Nat → Value) (o m : Nat) : Nat → Value := fun j => if o ≤ j ∧ j < o + m then .int .i64 0 else c j
theorem zr_in {c : Nat → Value} {o m j : Nat} (h : o ≤ j ∧ j < o + m) : zr c o m j = .int .i64 0 := if_pos h
theorem zr_out {c : Nat → Value} {o m j : Nat} (h : ¬ (o ≤ j ∧ j < o + m)) : zr c o m j = c j := if_neg h
theorem zr_step (c : Nat → Value) (o m : Nat) : zr (upd c o (.int .i64 0)) (o + 1) m = zr c o (m + 1) := by
  funext j
  by_cases h1 : o + 1 ≤ j ∧ j < o + 1 + m
  · rw [zr_in h1, zr_in (by omega)]
  · rw [zr_out h1]
    by_cases h2 : j = o
    · subst h2
      rw [upd_same, zr_in (by omega)]
    · rw [upd_other h2, zr_out (by omega)]
theorem run_zeros (b m : Nat) : ∀ (i : Nat) (c : Nat → Value) (a w : World), Blk w b c → 1 + i + m ≤ 37 → a.grownBy w (some b) → ∃ w', (storeCells ⟨b, 1, none⟩ (List.replicate m (.int .i64 0)) i).run Try.prog w = .ok () w' ∧ Blk w' b (zr c (1 + i) m) ∧ a.grownBy w' (some b) := by
  induction m with
  | zero =>
    intro i c a w h hi hg
    refine ⟨w, rfl, ?_, hg⟩
    have : zr c (1 + i) 0 = c := by
      funext j
      exact zr_out (by omega)
    rw [this]
    exact h
  | succ m ih =>
    intro i c a w h hi hg
    have hadd : (⟨b, 1, none⟩ : Addr).add i = ⟨b, 1 + i, none⟩ := by unfold Addr.add; split <;> simp_all
    obtain ⟨w', h1, h2, h3⟩ := ih (i + 1) _ a _ (h.set (i := 1 + i) (by omega) (.int .i64 0)) (by omega) (gb_set hg _ _)
    refine ⟨w', ?_, ?_, h3⟩
    · rw [List.replicate_succ]
      have hst : (store ((⟨b, 1, none⟩ : Addr).add i) (.int .i64 0)).run Try.prog w = .ok () (w.setCell ⟨b, 1 + i, none⟩ (.int .i64 0)) := by
        rw [hadd, run_store Try.prog w _ _ _ rfl, (h (1 + i) (by omega)).1, (h (1 + i) (by omega)).2]
        rfl
      simp only [storeCells, Sem.run_bind, hst, Result.andThen_ok]
      exact h1
    · rw [← zr_step, show 1 + i + 1 = 1 + (i + 1) by omega]
      exact h2
theorem run_path0 (b : Nat) (c : Nat → Value) (a w : World) (h : Blk w b c) (hg : a.grownBy w (some b)) : ∃ w', (storeVar 72 ⟨b, 1, none⟩ (.agg (List.replicate 33 (.int .i64 0)).toArray)).run Try.prog w = .ok () w' ∧ Blk w' b (zr c 1 33) ∧ a.grownBy w' (some b) := by
  obtain ⟨w', h1, h2, h3⟩ := run_zeros b 33 0 c a w h (by omega) hg
  refine ⟨w', ?_, h2, h3⟩
  have e2 : (sizeOf 72).run Try.prog w = .ok 33 w := by go_simp
  unfold storeVar
  rw [Sem.run_bind, e2, Result.andThen_ok]
  simp only [Value.cells]
  exact h1
theorem wpList_path0 {ops : Array Oper} {rest : List Oper} {o : Oper} {a : Act} {Q : Exit → Act → World → Prop} {w w0 : World} (hgd : o.guard = none) (x y : Operand)
    (ho : o.op = .store 72 x y) (b : Nat) (c : Nat → Value) (hx : a.eval x = .pointer (some ⟨b, 1, none⟩)) (hy : a.eval y = .agg (List.replicate 33 (.int .i64 0)).toArray) (h : Blk w b c) (hg : w0.grownBy w (some b))
    (hK : ∀ w', Blk w' b (zr c 1 33) → w0.grownBy w' (some b) → wpList Try.prog ops Q rest (a.put o.dst undef) w') : wpList Try.prog ops Q (o :: rest) a w := by
  refine wpList_plain hgd fun K hk => ?_
  obtain ⟨w', hrun, h1, h2⟩ := run_path0 b c w0 w h hg
  unfold Oper.wp execOp
  simp only [ho, Instr.storeAt, Instr.sureAddr, Sem.run_bind, Sem.run_pure, Result.andThen_ok, hx, hy, hrun]
  exact hk _ _ (hK w' h1 h2)
set_option maxRecDepth 100000 in
set_option maxHeartbeats 3200000 in
theorem reset_any (b : Nat) (A : Option Addr) (n cap : Nat) (x : Nd) (k : F) (c : Nat → Value) (w : World) (h : Blk w b c) (hT : Tb w b A n cap (x :: k.flat)) (h0 : c 0 = .slice A n cap) (hok : (F.cons x k .nil).ok) (hd : k.dep + 1 ≤ 16) (hl : ticks (one x k.lvs) ≤ 1048576) :
    Calls Try.prog 42 #[.pointer (some ⟨b, 0, none⟩)] w (CurN b A n cap (x :: k.flat) (one x k.lvs) 0 0 (.tuple #[]) w) := by
  have H := Lib.hid h
  have HT := Lib.hid hT
  have H0 := Lib.hid h0
  clear h hT h0
  go_enter Try.func42, Try.ntmps42
  go_wp2_with (refine wpList_path0 (w0 := w) rfl (.tmp 8) (.tmp 6) rfl b c rfl rfl H.out (gb_refl _ _) ?_; intro w1 hB1 hG1; have z34 := (hB1 34 (by omega)).1; have z35 := (hB1 35 (by omega)).1; have z36 := (hB1 36 (by omega)).1; have y34 := (hB1 34 (by omega)).2; have y35 := (hB1 35 (by omega)).2; have y36 := (hB1 36 (by omega)).2)
  have hB2 := ((hB1.set (i := 34) (by omega) (.int .i64 0)).set (i := 35) (by omega) (.int .i64 0)).set (i := 36) (by omega) (.int .i64 0)
  have hG2 := gb_set (gb_set (gb_set hG1 34 (.int .i64 0)) 35 (.int .i64 0)) 36 (.int .i64 0)
  have hT2 := HT.out.gb (Nat.le_of_lt H.out.lt) hG2
  have hA : Ats (x :: k.flat) [] 0 (one x k.lvs) := Ats.start hok hd
  have hpos : ∀ r ∈ one x k.lvs, 1 ≤ r.n := fun r hr => lvs_pos hok r (by simpa [F.lvs] using hr)
  have h00 : (upd (upd (upd (zr c 1 33) 34 (.int .i64 0)) 35 (.int .i64 0)) 36 (.int .i64 0)) 0 = .slice A n cap := by
    rw [upd_other (by omega), upd_other (by omega), upd_other (by omega), zr_out (by omega)]; exact H0.out
  refine (enter_any b A n cap _ _ [] 0 _ _ hB2 hT2 ⟨trivial, by rw [upd_other (by omega), upd_other (by omega), upd_other (by omega), zr_in (by omega)]; rfl, by simp⟩ h00 (by rw [upd_other (by omega), upd_other (by omega), upd_same]; rfl) hA).mono ?_
  rintro e w5 ⟨rfl, c5, st5, p5, hB5, hP5, e34, e0, e35, e36, hA5, hG6⟩
  clear z34 z35 z36 y34 y35 y36
  go_wp2_with fail
  go_end0
  refine ⟨rfl, ⟨hT2.gb (Nat.le_of_lt hB2.lt) hG6, ⟨c5, st5, p5, hB5, hP5, by rw [e0]; exact h00, e34, ?_, ?_, hA5⟩, fun r' s' e => ?_, fun _ => rfl, by omega, hpos⟩, gb_trans hG2 hG6⟩
  · rw [e35, upd_other (by omega), upd_same]; rfl
  · rw [e36, upd_same]; rfl
  · exact hpos r' (by rw [e]; exact List.mem_cons_self)
theorem reset_cur (b : Nat) (A : Option Addr) (n cap : Nat) (x : Nd) (k : F) (td : List Rn) (tk gn : Nat) (w : World) (h : Cur w b A n cap (x :: k.flat) td tk gn) (hok : (F.cons x k .nil).ok) (hd : k.dep + 1 ≤ 16) (hl : ticks (one x k.lvs) ≤ 1048576) :
    Calls Try.prog 42 #[.pointer (some ⟨b, 0, none⟩)] w (CurN b A n cap (x :: k.flat) (one x k.lvs) 0 0 (.tuple #[]) w) := by
  obtain ⟨c, st, p, hB, hP, e0, _⟩ := h.ex
  exact reset_any b A n cap x k c w hB h.tb e0 hok hd hl
/-- A cursor goes on in block b alone, of those that were there. -/
theorem Cur.gb {w w' : World} {b b' : Nat} {A : Option Addr} {n cap : Nat} {l : List Nd} {td : List Rn} {tk gn : Nat} (h : Cur w b A n cap l td tk gn) (hg : w.grownBy w' (some b')) (hb : b < b') : Cur w' b A n cap l td tk gn := by
  obtain ⟨c, st, p, hB, r⟩ := h.ex
  have hlt := hB.lt
  exact ⟨⟨⟨h.tb.rd.len, h.tb.rd.rd.keep fun q hq => World.cell?_of_block (hg.block q.block (by omega) (fun e => by injection e with e; omega)), h.tb.rd.bd⟩, h.tb.cap, h.tb.hn⟩, ⟨c, st, p, hB.keep (hg.block b hlt (fun e => by injection e with e; omega)), r⟩, h.low, h.low0, h.sum, h.pos⟩
theorem gb_bl {a w w' : World} {x : Option Nat} (h : a.grownBy w x) (k : Below w.heap.size w w') : a.grownBy w' x := gb_below h k h.size
end Go.Proofs.Ytpjppglaieohlaa
