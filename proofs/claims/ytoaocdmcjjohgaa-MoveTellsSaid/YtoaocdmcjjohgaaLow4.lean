/- Contracts and mathematics that the texts behind it stand on: Enter, Cur, Rlv, Reset, Runl, Tidyw, Rtidyw, Samem, Samb. -/
import Derived.Test.YtoaocdmcjjohgaaLow3
import Derived.Laws.ResultCell
import Derived.Deep.RegionWith
import Derived.Great.BuildSlice
import Derived.Test.YtoaocdmcjjohgaaLow2
import Derived.StillTailTactics
import Derived.Laws.OwnMore
import Derived.Laws.StructEq
import Derived.BigQuiet
/- A cursor in memory: from a node down to its first leaf. -/
namespace Go.Proofs.Ytoaocdmcjjohgaa
open Go.RowKit Tab
set_option linter.unusedSimpArgs false
set_option linter.unusedVariables false

/-- The cursor's table, below its block. -/
structure Tb (w : World) (b : Nat) (A : Option Addr) (n cap : Nat) (l : List Nd) : Prop where
  rd : RdN w b A n l
  cap : n ≤ cap
  hn : n ≤ 128
theorem RdN.gb {w w' : World} {b n : Nat} {A : Option Addr} {l : List Nd} (h : RdN w b A n l) (hb : b ≤ w.heap.size) (hg : w.grownBy w' (some b)) : RdN w' b A n l :=
  ⟨h.len, h.rd.keep fun p hp => World.cell?_of_block (hg.block p.block (by omega) (fun e => by injection e with e; omega)), h.bd⟩
theorem Tb.gb {w w' : World} {b n cap : Nat} {A : Option Addr} {l : List Nd} (h : Tb w b A n cap l) (hb : b ≤ w.heap.size) (hg : w.grownBy w' (some b)) : Tb w' b A n cap l := ⟨h.rd.gb hb hg, h.cap, h.hn⟩
theorem Tb.drewN {w : World} {b n cap : Nat} {A : Option Addr} {l : List Nd} (h : Tb w b A n cap l) (q : Nat) : Tb (w.drewN q) b A n cap l := ⟨⟨h.rd.len, h.rd.rd, h.rd.bd⟩, h.cap, h.hn⟩
def atOf (w : World) (b : Nat) : Nat := match w.cell? ⟨b, 34, none⟩ with
  | some (.int _ z) => z.toNat
  | _ => 0
theorem atOf_eq {w : World} {b : Nat} {c : Nat → Value} {d : Nat} (h : Blk w b c) (e : c 34 = .int .i64 (d : Int)) : atOf w b = d := by
  unfold atOf
  rw [(h 34 (by omega)).1, e]
  simp
/-- What enter leaves. -/
def Entd (b : Nat) (A : Option Addr) (n cap : Nat) (l : List Nd) (c : Nat → Value) (td : List Rn) (w : World) (e : Ending) (w' : World) : Prop :=
  e = .returned (.tuple #[]) ∧ ∃ (c' : Nat → Value) (st : List (Nat × Nat)) (p : Nat), Blk w' b c' ∧ PathC c' st ∧ c' 34 = .int .i64 (p : Int) ∧ c' 0 = c 0 ∧ c' 35 = c 35 ∧ c' 36 = c 36 ∧ AtL l st p td ∧ w.grownBy w' (some b)
end Go.Proofs.Ytoaocdmcjjohgaa

/- A cursor in memory: what is left of its leaf, taking of it, the next leaf, the next tick. -/
namespace Go.Proofs.Ytoaocdmcjjohgaa
open Go.RowKit Tab
set_option linter.unusedSimpArgs false
set_option linter.unusedVariables false

/-- A cursor over the table l at block b: the leaves td are to come, of the first tk ticks are taken; gn are gone. -/
structure Cur (w : World) (b : Nat) (A : Option Addr) (n cap : Nat) (l : List Nd) (td : List Rn) (tk gn : Nat) : Prop where
  tb : Tb w b A n cap l
  ex : ∃ (c : Nat → Value) (st : List (Nat × Nat)) (p : Nat), Blk w b c ∧ PathC c st ∧ c 0 = .slice A n cap ∧ c 34 = .int .i64 (p : Int) ∧ c 35 = .int .i64 (tk : Int) ∧ c 36 = .int .i64 (gn : Int) ∧ AtL l st p td
  low : ∀ r s, td = r :: s → tk < r.n
  low0 : td = [] → tk = 0
  sum : gn + ticks td ≤ 1048576 + tk
  pos : ∀ r ∈ td, 1 ≤ r.n
theorem Cur.lt {w : World} {b : Nat} {A : Option Addr} {n cap : Nat} {l : List Nd} {td : List Rn} {tk gn : Nat} (h : Cur w b A n cap l td tk gn) : b < w.heap.size := by
  obtain ⟨c, st, p, hB, _⟩ := h.ex
  exact hB.lt
theorem Cur.below {w w' : World} {b : Nat} {A : Option Addr} {n cap : Nat} {l : List Nd} {td : List Rn} {tk gn : Nat} (h : Cur w b A n cap l td tk gn) (hb : Below w.heap.size w w') : Cur w' b A n cap l td tk gn := by
  obtain ⟨c, st, p, hB, r⟩ := h.ex
  have hlt := hB.lt
  exact ⟨⟨⟨h.tb.rd.len, h.tb.rd.rd.keep fun q hq => World.cell?_of_block (hb.block q.block (by omega)), h.tb.rd.bd⟩, h.tb.cap, h.tb.hn⟩, ⟨c, st, p, hB.keep (hb.block b hlt), r⟩, h.low, h.low0, h.sum, h.pos⟩
theorem Below.drewN {B : Nat} {w w' : World} (h : Below B w w') (q : Nat) : Below B w (w'.drewN q) := ⟨h.os, h.tape, h.output, h.size, h.block⟩
/-- The run that is left: of none -1, 0. -/
def leftR : List Rn → Nat → Rn
  | [], _ => ⟨-1, 0⟩
  | r :: _, tk => ⟨r.p, r.n - tk⟩
abbrev rv (p n : Int) : Value := .agg #[.int .i64 p, .int .i64 n]
theorem loadVar_run {w : World} {g : Nat} {x y : Int} (h0 : w.cell? ⟨g, 0, none⟩ = some (.int .i64 x)) (h1 : w.cell? ⟨g, 1, none⟩ = some (.int .i64 y)) : (loadVar 39 ⟨g, 0, none⟩).run Try.prog w = .ok (rv x y) w := by
  have e : (isAgg 39).run Try.prog w = .ok true w := by go_simp
  have e2 : (sizeOf 39).run Try.prog w = .ok 2 w := by go_simp
  unfold loadVar
  rw [Sem.run_bind, e, Result.andThen_ok]
  simp only [if_true]
  rw [Sem.run_bind, e2, Result.andThen_ok, Sem.run_bind]
  have := run_loadCells_list (P := Try.prog) (w := w) ⟨g, 0, none⟩ [.int .i64 x, .int .i64 y] (fun j v hj => by
    match j with
    | 0 => simp at hj; subst hj; simpa [Addr.add] using h0
    | 1 => simp at hj; subst hj; simpa [Addr.add] using h1
    | j + 2 => simp at hj)
  simp only [List.length_cons, List.length_nil] at this
  rw [this, Result.andThen_ok]
  rfl
theorem results_cell1 {fn : Func} {p : Tmp} {ty : TypeId} (h : fn.results = #[.cell p ty]) (tmps : Array Value) (P : Program) (w : World) :
    (results fn tmps).run P w = ((asAddr (tmps.getD p undef)).run P w).andThen fun a w₁ => (loadVar ty a).run P w₁ := by
  simp only [results, h]
  simp [Sem.run_bind, Result.andThen]
theorem results_run {fn : Func} {p : Tmp} (h : fn.results = #[.cell p 39]) {tmps : Array Value} {w : World} {g : Nat} {x y : Int} (hp : tmps.getD p undef = .pointer (some ⟨g, 0, none⟩)) (h0 : w.cell? ⟨g, 0, none⟩ = some (.int .i64 x)) (h1 : w.cell? ⟨g, 1, none⟩ = some (.int .i64 y)) :
    (results fn tmps).run Try.prog w = .ok (rv x y) w := by
  have e : (asAddr (.pointer (some ⟨g, 0, none⟩))).run Try.prog w = .ok ⟨g, 0, none⟩ w := rfl
  rw [results_cell1 h, hp, e, Result.andThen_ok, loadVar_run h0 h1]
theorem results_run2 {fn : Func} {p q : Tmp} (h : fn.results = #[.cell p 39, .tmp q]) {tmps : Array Value} {w : World} {g : Nat} {x y : Int} (hp : tmps.getD p undef = .pointer (some ⟨g, 0, none⟩)) (h0 : w.cell? ⟨g, 0, none⟩ = some (.int .i64 x)) (h1 : w.cell? ⟨g, 1, none⟩ = some (.int .i64 y)) :
    (results fn tmps).run Try.prog w = .ok (.tuple #[rv x y, tmps.getD q undef]) w := by
  have e : (asAddr (.pointer (some ⟨g, 0, none⟩))).run Try.prog w = .ok ⟨g, 0, none⟩ w := rfl
  rw [results_cell_tmp h, hp, e, Result.andThen_ok, loadVar_run h0 h1, Result.andThen_ok]
end Go.Proofs.Ytoaocdmcjjohgaa

/- The leaves of a table that is right, by the document's own answer. -/
namespace Go.Proofs.Ytoaocdmcjjohgaa
open Go.RowKit Tab
set_option linter.unusedSimpArgs false
set_option linter.unusedVariables false

/-- It answers a row of runs, new. -/
def MadeR (L : List Rn) (w : World) (e : Ending) (w' : World) : Prop := ∃ A c, e = .returned (.slice A L.length c) ∧ RdR w' w'.heap.size A L.length L ∧ L.length ≤ c ∧ Below w.heap.size w w' ∧ ∀ ad, A = some ad → w.heap.size ≤ ad.block
theorem OwnV.rdr {w : World} {B n c : Nat} {A : Option Addr} {L : List Rn} (h : OwnV 39 2 w B A n c (rs L)) : RdR w w.heap.size A n L := ⟨by have := h.len; rw [rs_length] at this; omega, h.rd⟩
set_option maxHeartbeats 400000 in
theorem rLeaves_right (A : Option Addr) (n cap : Nat) (x : Nd) (k : F) (w : World) (h : RdN w w.heap.size A n (x :: k.flat)) (hc : n ≤ cap) (hok : (F.cons x k .nil).ok) (hn : n ≤ 128) (hl : F.tick x k.len ≤ 4096) :
    Calls Try.prog 34 #[.slice A n cap] w (MadeR (one x k.lvs) w) := by
  have hpos : ∀ r ∈ one x k.lvs, 1 ≤ r.n := fun r hr => lvs_pos hok r (by simpa [F.lvs] using hr)
  have hlen := length_le_ticks hpos
  rw [one_ticks, lvs_ticks] at hlen
  have hdr : (x :: k.flat).drop 0 = (F.cons x k .nil).flat ++ [] := by simp [F.flat]
  have hL : Calls Try.prog 56 #[.slice A n cap, .int .i64 0, .slice none 0 0] w (MoreR w.heap.size none (one x k.lvs) w) := by
    have := rleaves_any w.heap.size A n cap _ hc (by omega) (k.sz + 1) 0 x k .nil [] w none 0 0 [] (by omega) h hok hdr (Nat.le_refl _) rfl (OwnV.nil _ _ _ _) (by omega)
    simpa using this
  have HL := Lib.hid hL
  clear hL hpos hlen hdr hok
  generalize one x k.lvs = L at HL ⊢
  go_enter Try.func34, Try.ntmps34
  go_wp2_with fail
  refine HL.out.mono ?_
  rintro e w1 ⟨A1, c1, rfl, ho, hb, _⟩
  have HO := Lib.hid ho
  clear ho
  generalize hq : L.length = q
  have HQ := Lib.hid hq
  clear hq
  go_wp2_with fail
  go_ret
  refine ⟨A1, c1, by rw [HQ.out]; rfl, HO.out.rdr, HO.out.cap, hb, HO.out.newer⟩
end Go.Proofs.Ytoaocdmcjjohgaa

/- A cursor in memory: back to the beginning. -/
namespace Go.Proofs.Ytoaocdmcjjohgaa
open Go.RowKit Tab
set_option linter.unusedSimpArgs false
set_option linter.unusedVariables false

/-- Noughts from cell o on, so many. -/
def zr (c : Nat → Value) (o m : Nat) : Nat → Value := fun j => if o ≤ j ∧ j < o + m then .int .i64 0 else c j
theorem zr_in {c : Nat → Value} {o m j : Nat} (h : o ≤ j ∧ j < o + m) : zr c o m j = .int .i64 0 := if_pos h
theorem zr_out {c : Nat → Value} {o m j : Nat} (h : ¬ (o ≤ j ∧ j < o + m)) : zr c o m j = c j := if_neg h
theorem zr_step (c : Nat → Value) (o m : Nat) : zr (upd c o (.int .i64 0)) (o + 1) m = zr c o (m + 1) := by
  funext j
  by_cases h1 : o + 1 ≤ j ∧ j < o + 1 + m
  · rw [zr_in h1, zr_in (by omega)]
  · rw [zr_out h1]
    by_cases h2 : j = o
    · subst h2
      rw [upd_same, zr_in (by omega)]
    · rw [upd_other h2, zr_out (by omega)]
theorem run_zeros (b m : Nat) : ∀ (i : Nat) (c : Nat → Value) (a w : World), Blk w b c → 1 + i + m ≤ 37 → a.grownBy w (some b) → ∃ w', (storeCells ⟨b, 1, none⟩ (List.replicate m (.int .i64 0)) i).run Try.prog w = .ok () w' ∧ Blk w' b (zr c (1 + i) m) ∧ a.grownBy w' (some b) := by
  induction m with
  | zero =>
    intro i c a w h hi hg
    refine ⟨w, rfl, ?_, hg⟩
    have : zr c (1 + i) 0 = c := by
      funext j
      exact zr_out (by omega)
    rw [this]
    exact h
  | succ m ih =>
    intro i c a w h hi hg
    have hadd : (⟨b, 1, none⟩ : Addr).add i = ⟨b, 1 + i, none⟩ := by unfold Addr.add; split <;> simp_all
    obtain ⟨w', h1, h2, h3⟩ := ih (i + 1) _ a _ (h.set (i := 1 + i) (by omega) (.int .i64 0)) (by omega) (gb_set hg _ _)
    refine ⟨w', ?_, ?_, h3⟩
    · rw [List.replicate_succ]
      have hst : (store ((⟨b, 1, none⟩ : Addr).add i) (.int .i64 0)).run Try.prog w = .ok () (w.setCell ⟨b, 1 + i, none⟩ (.int .i64 0)) := by
        rw [hadd, run_store Try.prog w _ _ _ rfl, (h (1 + i) (by omega)).1, (h (1 + i) (by omega)).2]
        rfl
      simp only [storeCells, Sem.run_bind, hst, Result.andThen_ok]
      exact h1
    · rw [← zr_step, show 1 + i + 1 = 1 + (i + 1) by omega]
      exact h2
/-- A cursor goes on in block b alone, of those that were there. -/
theorem Cur.gb {w w' : World} {b b' : Nat} {A : Option Addr} {n cap : Nat} {l : List Nd} {td : List Rn} {tk gn : Nat} (h : Cur w b A n cap l td tk gn) (hg : w.grownBy w' (some b')) (hb : b < b') : Cur w' b A n cap l td tk gn := by
  obtain ⟨c, st, p, hB, r⟩ := h.ex
  have hlt := hB.lt
  exact ⟨⟨⟨h.tb.rd.len, h.tb.rd.rd.keep fun q hq => World.cell?_of_block (hg.block q.block (by omega) (fun e => by injection e with e; omega)), h.tb.rd.bd⟩, h.tb.cap, h.tb.hn⟩, ⟨c, st, p, hB.keep (hg.block b hlt (fun e => by injection e with e; omega)), r⟩, h.low, h.low0, h.sum, h.pos⟩
theorem gb_bl {a w w' : World} {x : Option Nat} (h : a.grownBy w x) (k : Below w.heap.size w w') : a.grownBy w' x := gb_below h k h.size
end Go.Proofs.Ytoaocdmcjjohgaa

/- Rows of runs beside a cursor. -/
namespace Go.Proofs.Ytoaocdmcjjohgaa
open Go.RowKit Tab
set_option linter.unusedSimpArgs false
set_option linter.unusedVariables false

theorem RdR.at_gb {w w' : World} {b n : Nat} {A : Option Addr} {L : List Rn} (h : RdR w w.heap.size A n L) (hg : w.grownBy w' (some b)) (hf : ∀ ad, A = some ad → ad.block ≠ b) {i : Nat} (hi : i < n) : ∃ (ad : Addr) (r : Rn), A = some ad ∧ L[i]? = some r ∧
    w'.cell? (ad.add (i * 2)) = some (.int .i64 r.p) ∧ w'.cell? ⟨(ad.add (i * 2)).block, (ad.add (i * 2)).off + 1, none⟩ = some (.int .i64 (r.n : Int)) := by
  obtain ⟨ad, r, rfl, hlt, hr, c0, c1⟩ := h.at_ hi
  have hk : w'.heap[ad.block]? = w.heap[ad.block]? := hg.block _ hlt (fun e => by injection e with e; exact hf ad rfl e)
  exact ⟨ad, r, rfl, hr, (World.cell?_of_block (by rw [add_block]; exact hk)).trans c0, (World.cell?_of_block (a := ⟨(ad.add (i * 2)).block, (ad.add (i * 2)).off + 1, none⟩) (by rw [add_block]; exact hk)).trans c1⟩
theorem take_more {L : List Rn} {i : Nat} {r : Rn} (h : L[i]? = some r) : ticks (L.take (i + 1)) = ticks (L.take i) + r.n := by
  obtain ⟨hi, e⟩ := List.getElem?_eq_some_iff.1 h
  rw [List.take_succ_eq_append_getElem hi, ticks_append, e]
  simp [ticks]
theorem drop_more {L : List Rn} {i : Nat} {r : Rn} (h : L[i]? = some r) : L.drop i = r :: L.drop (i + 1) := by
  obtain ⟨hi, e⟩ := List.getElem?_eq_some_iff.1 h
  rw [List.drop_eq_getElem_cons hi, e]
theorem take_ticks (L : List Rn) (i : Nat) : ticks (L.take i) ≤ ticks L := by
  have := ticks_append (L.take i) (L.drop i)
  rw [List.take_append_drop] at this
  omega
end Go.Proofs.Ytoaocdmcjjohgaa

/- Tidying a row of runs in memory, by the program. -/
namespace Go.Proofs.Ytoaocdmcjjohgaa
open Go.RowKit Tab
set_option linter.unusedSimpArgs false
set_option linter.unusedVariables false

theorem tidy_take_ticks (L : List Rn) (i : Nat) : ticks (tidy (L.take i)) ≤ ticks L := by rw [ticks_tidy]; exact take_ticks L i
theorem tidy_one {L : List Rn} {i : Nat} {o : List Rn} {y r : Rn} (hr : L[i]? = some r) (ho : tidy (L.take i) = o ++ [y]) : y.n + r.n ≤ ticks L := by
  have h1 := tidy_take_ticks L (i + 1)
  rw [tidy_more hr, ho, ticks_push, ticks_append] at h1
  simp only [ticks] at h1
  omega
/-- The last run of a row of the call's own. -/
structure LastR (W : World) (B : Nat) (ad : Addr) (k c : Nat) (o : List Rn) (y : Rn) : Prop where
  g : ∃ g, ad = ⟨g, 0, none⟩ ∧ OwnV 39 2 W B (some ⟨g, 0, none⟩) (k + 1) c (rs (o ++ [y]))
  len : o.length = k
  c0 : W.cell? (ad.add (k * 2)) = some (.int .i64 y.p)
  c1 : W.cell? ⟨(ad.add (k * 2)).block, (ad.add (k * 2)).off + 1, none⟩ = some (.int .i64 (y.n : Int))
  f1 : W.frozen? ⟨(ad.add (k * 2)).block, (ad.add (k * 2)).off + 1, none⟩ = false
  lt : ad.block < W.heap.size
theorem add_two (g k : Nat) : (⟨((⟨g, 0, none⟩ : Addr).add (k * 2)).block, ((⟨g, 0, none⟩ : Addr).add (k * 2)).off + 1, none⟩ : Addr) = ⟨g, k * 2 + 1, none⟩ := by
  unfold Addr.add
  split
  · rename_i h
    rw [h]
  · simp
theorem add_one' (g k : Nat) : (⟨g, 0, none⟩ : Addr).add k = ⟨g, k, none⟩ := by
  unfold Addr.add
  split
  · rename_i h
    rw [h]
  · simp
theorem LastR.of {W : World} {B m c : Nat} {A : Option Addr} {o : List Rn} {y : Rn} (h : OwnV 39 2 W B A m c (rs (o ++ [y]))) : ∃ (ad : Addr) (k : Nat), A = some ad ∧ m = k + 1 ∧ LastR W B ad k c o y := by
  have hl := h.len
  rw [rs_length, List.length_append, List.length_singleton] at hl
  obtain ⟨k, hk⟩ : ∃ k, o.length = k := ⟨_, rfl⟩
  have hm : m = k + 1 := by omega
  subst hm
  obtain ⟨g, rfl, hg, hlt⟩ := h.block (by omega)
  have hget : (o ++ [y])[k]'(by simp; omega) = y := by
    simp [← hk]
  obtain ⟨e0, e1⟩ := rs_get (o ++ [y]) k (by simp; omega)
  rw [hget] at e0 e1
  refine ⟨_, k, rfl, rfl, ⟨g, rfl, h⟩, hk, ?_, ?_, ?_, hlt⟩
  · rw [add_one']
    exact (World.ownsRow.cellAt h (k * 2) (by omega)).trans e0
  · rw [add_two]
    exact (World.ownsRow.cellAt h (k * 2 + 1) (by omega)).trans e1
  · rw [add_two]
    exact World.ownsRow.frozenAt h _
/-- More ticks for the last one. -/
theorem LastR.stored {W : World} {B k c : Nat} {ad : Addr} {o : List Rn} {y : Rn} (h : LastR W B ad k c o y) (N : Nat) :
    OwnV 39 2 (W.setCell ⟨(ad.add (k * 2)).block, (ad.add (k * 2)).off + 1, none⟩ (.int .i64 (N : Int))) B (some ad) (k + 1) c (rs (o ++ [⟨y.p, N⟩])) ∧
      ∀ V, Below B V W → Below B V (W.setCell ⟨(ad.add (k * 2)).block, (ad.add (k * 2)).off + 1, none⟩ (.int .i64 (N : Int))) := by
  obtain ⟨g, rfl, hw⟩ := h.g
  rw [add_two]
  have h1 := (World.ownsRow.stored hw (k * 2 + 1) (.int .i64 (N : Int))).1
  have e : (rs (o ++ [y])).set (k * 2 + 1) (.int .i64 (N : Int)) = rs (o ++ [⟨y.p, N⟩]) := by
    rw [rs_append, rs_append, List.set_append_right _ _ (by rw [rs_length, h.len]; omega), rs_length, h.len]
    have : k * 2 + 1 - k * 2 = 1 := by omega
    rw [this]
    rfl
  rw [e] at h1
  refine ⟨h1, fun V hV => ?_⟩
  have hge : B ≤ g := by
    obtain ⟨g', e', hb, _⟩ := OwnV.block hw (by omega)
    injection e' with e'
    injection e' with e'
    omega
  exact hV.setCell (p := ⟨g, k * 2 + 1, none⟩) hge _
theorem LastR.drewN {W : World} {B k c : Nat} {ad : Addr} {o : List Rn} {y : Rn} (h : LastR W B ad k c o y) (q : Nat) : LastR (W.drewN q) B ad k c o y := ⟨h.g, h.len, h.c0, h.c1, h.f1, h.lt⟩
theorem LastR.drew {W : World} {B k c : Nat} {ad : Addr} {o : List Rn} {y : Rn} (h : LastR W B ad k c o y) : LastR W.drew B ad k c o y := ⟨h.g, h.len, h.c0, h.c1, h.f1, h.lt⟩

set_option maxRecDepth 100000 in
set_option maxHeartbeats 4000000 in
theorem tidy_any (A : Option Addr) (n cap : Nat) (L : List Rn) (w : World) (h : RdR w w.heap.size A n L) (hc : n ≤ cap) (hn : n ≤ 1048576) (ht : ticks L ≤ 1099511627776) :
    Calls Try.prog 41 #[.slice A n cap] w (MadeR (tidy L) w) := by
  go_enter Try.func41, Try.ntmps41
  go_wp2_with fail
  go_loopw [3, 9] (fun q s wr => ∃ (i m c' : Nat) (A' : Option Addr), i ≤ n ∧ s = .int .i64 i ∧ q = .slice A' m c' ∧ m ≤ i ∧ OwnV 39 2 wr w.heap.size A' m c' (rs (tidy (L.take i))) ∧ Below w.heap.size w wr) (fun _ s _ => n - (intOf s).toNat)
  case atStart => exact ⟨0, 0, 0, none, by omega, rfl, rfl, by omega, by simpa [tidy, tidyOn, rs] using OwnV.nil _ _ _ _, Below.refl _ _⟩
  case round =>
    obtain ⟨i, m, c', A', hi, rfl, rfl, hm, how, hb⟩ := hrel
    have HOW := Lib.hid how
    clear how
    by_cases hlt : i < n
    · obtain ⟨ad, r, rfl, had, hr, c0, c1⟩ := (h.on hb).at_ hlt
      have hmore := tidy_more hr
      have hcs := tpush_cases (tidy (L.take i)) r
      rw [← hmore] at hcs
      have hbl := bl1 wr (.cells #[.int .i64 r.p, .int .i64 (r.n : Int)] 39)
      have hb1 := hb.trans (hbl.mono hb.size)
      have hle := tidy_take_le L (i + 1)
      have how1 := HOW.out.below rfl hbl
      have hsum : ∀ o y, tidy (L.take i) = o ++ [y] → y.n + r.n ≤ ticks L := fun o y e => tidy_one hr e
      generalize tidy (L.take i) = T at HOW hcs how1 hsum
      generalize hT1 : tidy (L.take (i + 1)) = T1 at hcs hle
      have HT1 := Lib.hid hT1
      have HB1 := Lib.hid hb1
      clear hT1 hmore hr hbl hb1 HOW
      rcases hcs with ⟨h0, e⟩ | ⟨h0, e0, e⟩ | ⟨o, y, h0, e0, hp, e⟩ | ⟨o, y, h0, e0, hp, e⟩
      · have hr1 : (r.n : Int) < 1 := by omega
        subst e
        have HOW1 := Lib.hid how1
        clear how1 hsum h0
        go_wp2_with fail
        go_roundw
        case rel => exact ⟨i + 1, m, c', A', by omega, by go_num, rfl, by omega, by rw [HT1.out]; exact HOW1.out, HB1.out⟩
        case measure => simp [intOf]; omega
      · subst e0
        have hm0 : m = 0 := by have := how1.len; simp [rs] at this; omega
        subst hm0
        have hr1 : ¬ (r.n : Int) < 1 := by omega
        subst e
        clear hsum h0
        go_wp2_with fail
        go_quiet (fail)
        have hW0 : Below wr.heap.size wr ((wr.alloc (.cells #[.int .i64 r.p, .int .i64 (r.n : Int)] 39)).drewN nq) := Below.drewN (bl1 wr _) nq
        have hs0 : wr.heap.size < ((wr.alloc (.cells #[.int .i64 r.p, .int .i64 (r.n : Int)] 39)).drewN nq).heap.size := by simp
        have b0 : ((wr.alloc (.cells #[.int .i64 r.p, .int .i64 (r.n : Int)] 39)).drewN nq).cell? ⟨wr.heap.size, 0, none⟩ = some (.int .i64 r.p) := World.cell?_alloc_mark _ _ _ _ _
        have b1 : ((wr.alloc (.cells #[.int .i64 r.p, .int .i64 (r.n : Int)] 39)).drewN nq).cell? ⟨wr.heap.size, 1, none⟩ = some (.int .i64 (r.n : Int)) := World.cell?_alloc_mark _ _ _ _ _
        have how2 : OwnV 39 2 ((wr.alloc (.cells #[.int .i64 r.p, .int .i64 (r.n : Int)] 39)).drewN nq) w.heap.size A' 0 c' (rs []) := how1.keep fun _ _ _ => rfl
        generalize (wr.alloc (.cells #[.int .i64 r.p, .int .i64 (r.n : Int)] 39)).drewN nq = W at hW0 hs0 b0 b1 how2 ⊢
        have how3 := how2.below rfl (bl1 W (.cells #[.int .i64 r.p, .int .i64 (r.n : Int)] 39))
        have hrd := rdV_new W #[.int .i64 r.p, .int .i64 (r.n : Int)] 39 (rs [r]) rfl
        have hbW := (hb.trans (hW0.mono hb.size)).alloc (by have := hb.size; omega) (.cells #[.int .i64 r.p, .int .i64 (r.n : Int)] 39)
        have hn1 : 0 + 1 ≤ 1048577 := by omega
        clear how1 how2 c0 c1
        go_wp2_with (at_builtin; go_loud (refine wpList_appV elR rfl (.tmp 43) (.tmp 45) rfl rfl w.heap.size _ _ c' _ rfl how3 _ 1 1 _ _ rfl hrd rfl (rs_one _) (by omega) (by unfold maxLen; omega) hbW.size (0 + 1) rfl (rs ([] ++ [r])) (rs_append _ _).symm ?_; intro A2 c2 w2 hw2 hb2 _))
        go_roundw
        case rel => exact ⟨i + 1, _, c2, A2, by omega, by go_num, rfl, by omega, by rw [HT1.out]; exact hw2, hbW.trans hb2⟩
        case measure => simp [intOf]; omega
      · subst e0
        have hr1 : ¬ (r.n : Int) < 1 := by omega
        have hs1 := hsum o y rfl
        obtain ⟨ad', k, rfl, rfl, hL⟩ := LastR.of how1
        obtain ⟨yp, yn⟩ := y
        obtain ⟨rp, rn⟩ := r
        dsimp only at hp hr1 hs1 c0 c1 e h0 ⊢
        subst hp
        have HL := Lib.hid hL
        have d0 := hL.c0
        have d1 := hL.c1
        have d2 := hL.f1
        have d3 := hL.lt
        dsimp only at d0 d1 d2 d3
        clear hsum h0 hL how1
        go_wp2_with fail
        go_quiet (fail)
        go_wp2_with fail
        have hbW := hb.trans ((Below.drewN (bl1 wr (.cells #[.int .i64 yp, .int .i64 (rn : Int)] 39)) nq).mono hb.size)
        have b1 : ((wr.alloc (.cells #[.int .i64 yp, .int .i64 (rn : Int)] 39)).drewN nq).cell? ⟨wr.heap.size, 1, none⟩ = some (.int .i64 (rn : Int)) := World.cell?_alloc_mark _ _ _ _ _
        have HL2 := Lib.hid (HL.out.drewN nq)
        have d1 := HL2.out.c1
        have d2 := HL2.out.f1
        have d3 := HL2.out.lt
        dsimp only at d1 d2 d3
        have HB2 := Lib.hid hbW
        clear HL d0 c0 c1 hbW HB1
        generalize (wr.alloc (.cells #[.int .i64 yp, .int .i64 (rn : Int)] 39)).drewN nq = W at b1 HL2 d1 d2 d3 HB2 ⊢
        generalize wr.heap.size = gx at b1 ⊢
        have hmr := more_any (yn : Int) (rn : Int) _ _ W.drew (by omega) (by omega) (by omega) rfl rfl
        have hkk : (k : Int) < (k : Int) + 1 := by omega
        go_still_tail 12, (by kernel_rfl)
        still_call hmr
        repeat still_step
        refine wpStill_nil ?_
        change wpList _ _ _ _ _ W.drew
        go_wp2_with fail
        obtain ⟨hw5, hb5⟩ := (HL2.out.drew).stored (yn + rn)
        rw [Int.natCast_add] at hw5 hb5
        rw [← e] at hw5
        go_roundw
        case rel => exact ⟨i + 1, _, c', some ad', by omega, by go_num, rfl, by omega, by rw [HT1.out]; exact hw5, hb5 _ HB2.out.drew⟩
        case measure => simp [intOf]; omega
      · subst e0
        have hr1 : ¬ (r.n : Int) < 1 := by omega
        obtain ⟨ad', k, rfl, rfl, hL⟩ := LastR.of how1
        have hpb : (y.p == r.p) = false := beq_eq_false_iff_ne.2 hp
        have d0 := hL.c0
        have d3 := hL.lt
        subst e
        clear hsum h0 hL hp
        go_wp2_with fail
        go_quiet (fail)
        have hW0 : Below wr.heap.size wr ((wr.alloc (.cells #[.int .i64 r.p, .int .i64 (r.n : Int)] 39)).drewN nq) := Below.drewN (bl1 wr _) nq
        have hs0 : wr.heap.size < ((wr.alloc (.cells #[.int .i64 r.p, .int .i64 (r.n : Int)] 39)).drewN nq).heap.size := by simp
        have b0 : ((wr.alloc (.cells #[.int .i64 r.p, .int .i64 (r.n : Int)] 39)).drewN nq).cell? ⟨wr.heap.size, 0, none⟩ = some (.int .i64 r.p) := World.cell?_alloc_mark _ _ _ _ _
        have b1 : ((wr.alloc (.cells #[.int .i64 r.p, .int .i64 (r.n : Int)] 39)).drewN nq).cell? ⟨wr.heap.size, 1, none⟩ = some (.int .i64 (r.n : Int)) := World.cell?_alloc_mark _ _ _ _ _
        have how2 : OwnV 39 2 ((wr.alloc (.cells #[.int .i64 r.p, .int .i64 (r.n : Int)] 39)).drewN nq) w.heap.size (some ad') (k + 1) c' (rs (o ++ [y])) := how1.keep fun _ _ _ => rfl
        generalize (wr.alloc (.cells #[.int .i64 r.p, .int .i64 (r.n : Int)] 39)).drewN nq = W at hW0 hs0 b0 b1 how2 ⊢
        have how3 := how2.below rfl (bl1 W (.cells #[.int .i64 r.p, .int .i64 (r.n : Int)] 39))
        have hrd := rdV_new W #[.int .i64 r.p, .int .i64 (r.n : Int)] 39 (rs [r]) rfl
        have hbW := (hb.trans (hW0.mono hb.size)).alloc (by have := hb.size; omega) (.cells #[.int .i64 r.p, .int .i64 (r.n : Int)] 39)
        have hn1 : (k + 1) + 1 ≤ 1048577 := by omega
        clear how1 how2 c0 c1
        go_wp2_with (at_builtin; go_loud (refine wpList_appV elR rfl (.tmp 43) (.tmp 45) rfl rfl w.heap.size _ _ c' _ rfl how3 _ 1 1 _ _ rfl hrd rfl (rs_one _) (by omega) (by unfold maxLen; omega) hbW.size ((k + 1) + 1) rfl (rs ((o ++ [y]) ++ [r])) (rs_append _ _).symm ?_; intro A2 c2 w2 hw2 hb2 _))
        go_roundw
        case rel => exact ⟨i + 1, _, c2, A2, by omega, by go_num, rfl, by omega, by rw [HT1.out]; exact hw2, hbW.trans hb2⟩
        case measure => simp [intOf]; omega
    · have hge : n ≤ i := by omega
      have e : L.take i = L := List.take_of_length_le (by rw [h.len]; exact hge)
      have how2 := HOW.out
      rw [e] at how2
      have HOW2 := Lib.hid how2
      clear e how2 HOW
      go_wp2_with fail
      go_ret
      have hl := HOW2.out.len
      rw [rs_length] at hl
      have hl2 : m = (tidy L).length := by omega
      subst hl2
      exact ⟨A', c', rfl, HOW2.out.rdr, HOW2.out.cap, hb, HOW2.out.newer⟩
end Go.Proofs.Ytoaocdmcjjohgaa

/- Tidying a row of runs in memory, by the document's own answer. -/
namespace Go.Proofs.Ytoaocdmcjjohgaa
open Go.RowKit Tab
set_option linter.unusedSimpArgs false
set_option linter.unusedVariables false

set_option maxRecDepth 100000 in
set_option maxHeartbeats 4000000 in
theorem rtidy_any (A : Option Addr) (n cap : Nat) (L : List Rn) (w : World) (h : RdR w w.heap.size A n L) (hc : n ≤ cap) (hn : n ≤ 1048576) (ht : ticks L ≤ 1099511627776) :
    Calls Try.prog 14 #[.slice A n cap] w (MadeR (tidy L) w) := by
  go_enter Try.func14, Try.ntmps14
  go_wp2_with fail
  go_loopw [3, 9] (fun q s wr => ∃ (i m c' : Nat) (A' : Option Addr), i ≤ n ∧ s = .int .i64 i ∧ q = .slice A' m c' ∧ m ≤ i ∧ OwnV 39 2 wr w.heap.size A' m c' (rs (tidy (L.take i))) ∧ Below w.heap.size w wr) (fun _ s _ => n - (intOf s).toNat)
  case atStart => exact ⟨0, 0, 0, none, by omega, rfl, rfl, by omega, by simpa [tidy, tidyOn, rs] using OwnV.nil _ _ _ _, Below.refl _ _⟩
  case round =>
    obtain ⟨i, m, c', A', hi, rfl, rfl, hm, how, hb⟩ := hrel
    have HOW := Lib.hid how
    clear how
    by_cases hlt : i < n
    · obtain ⟨ad, r, rfl, had, hr, c0, c1⟩ := (h.on hb).at_ hlt
      have hmore := tidy_more hr
      have hcs := tpush_cases (tidy (L.take i)) r
      rw [← hmore] at hcs
      have hbl := bl1 wr (.cells #[.int .i64 r.p, .int .i64 (r.n : Int)] 39)
      have hb1 := hb.trans (hbl.mono hb.size)
      have hle := tidy_take_le L (i + 1)
      have how1 := HOW.out.below rfl hbl
      have hsum : ∀ o y, tidy (L.take i) = o ++ [y] → y.n + r.n ≤ ticks L := fun o y e => tidy_one hr e
      generalize tidy (L.take i) = T at HOW hcs how1 hsum
      generalize hT1 : tidy (L.take (i + 1)) = T1 at hcs hle
      have HT1 := Lib.hid hT1
      have HB1 := Lib.hid hb1
      clear hT1 hmore hr hbl hb1 HOW
      rcases hcs with ⟨h0, e⟩ | ⟨h0, e0, e⟩ | ⟨o, y, h0, e0, hp, e⟩ | ⟨o, y, h0, e0, hp, e⟩
      · have hr1 : (r.n : Int) < 1 := by omega
        subst e
        have HOW1 := Lib.hid how1
        clear how1 hsum h0
        go_wp2_with fail
        go_roundw
        case rel => exact ⟨i + 1, m, c', A', by omega, by go_num, rfl, by omega, by rw [HT1.out]; exact HOW1.out, HB1.out⟩
        case measure => simp [intOf]; omega
      · subst e0
        have hm0 : m = 0 := by have := how1.len; simp [rs] at this; omega
        subst hm0
        have hr1 : ¬ (r.n : Int) < 1 := by omega
        subst e
        clear hsum h0
        go_wp2_with fail
        go_quiet (fail)
        have hW0 : Below wr.heap.size wr ((wr.alloc (.cells #[.int .i64 r.p, .int .i64 (r.n : Int)] 39)).drewN nq) := Below.drewN (bl1 wr _) nq
        have hs0 : wr.heap.size < ((wr.alloc (.cells #[.int .i64 r.p, .int .i64 (r.n : Int)] 39)).drewN nq).heap.size := by simp
        have b0 : ((wr.alloc (.cells #[.int .i64 r.p, .int .i64 (r.n : Int)] 39)).drewN nq).cell? ⟨wr.heap.size, 0, none⟩ = some (.int .i64 r.p) := World.cell?_alloc_mark _ _ _ _ _
        have b1 : ((wr.alloc (.cells #[.int .i64 r.p, .int .i64 (r.n : Int)] 39)).drewN nq).cell? ⟨wr.heap.size, 1, none⟩ = some (.int .i64 (r.n : Int)) := World.cell?_alloc_mark _ _ _ _ _
        have how2 : OwnV 39 2 ((wr.alloc (.cells #[.int .i64 r.p, .int .i64 (r.n : Int)] 39)).drewN nq) w.heap.size A' 0 c' (rs []) := how1.keep fun _ _ _ => rfl
        generalize (wr.alloc (.cells #[.int .i64 r.p, .int .i64 (r.n : Int)] 39)).drewN nq = W at hW0 hs0 b0 b1 how2 ⊢
        have how3 := how2.below rfl (bl1 W (.cells #[.int .i64 r.p, .int .i64 (r.n : Int)] 39))
        have hrd := rdV_new W #[.int .i64 r.p, .int .i64 (r.n : Int)] 39 (rs [r]) rfl
        have hbW := (hb.trans (hW0.mono hb.size)).alloc (by have := hb.size; omega) (.cells #[.int .i64 r.p, .int .i64 (r.n : Int)] 39)
        have hn1 : 0 + 1 ≤ 1048577 := by omega
        clear how1 how2 c0 c1
        go_wp2_with (at_builtin; go_loud (refine wpList_appV elR rfl (.tmp 45) (.tmp 47) rfl rfl w.heap.size _ _ c' _ rfl how3 _ 1 1 _ _ rfl hrd rfl (rs_one _) (by omega) (by unfold maxLen; omega) hbW.size (0 + 1) rfl (rs ([] ++ [r])) (rs_append _ _).symm ?_; intro A2 c2 w2 hw2 hb2 _))
        go_roundw
        case rel => exact ⟨i + 1, _, c2, A2, by omega, by go_num, rfl, by omega, by rw [HT1.out]; exact hw2, hbW.trans hb2⟩
        case measure => simp [intOf]; omega
      · subst e0
        have hr1 : ¬ (r.n : Int) < 1 := by omega
        have hs1 := hsum o y rfl
        obtain ⟨ad', k, rfl, rfl, hL⟩ := LastR.of how1
        obtain ⟨yp, yn⟩ := y
        obtain ⟨rp, rn⟩ := r
        dsimp only at hp hr1 hs1 c0 c1 e h0 ⊢
        subst hp
        have HL := Lib.hid hL
        have d0 := hL.c0
        have d1 := hL.c1
        have d2 := hL.f1
        have d3 := hL.lt
        dsimp only at d0 d1 d2 d3
        clear hsum h0 hL how1
        go_wp2_with fail
        go_quiet (fail)
        go_wp2_with fail
        have hbW := hb.trans ((Below.drewN (bl1 wr (.cells #[.int .i64 yp, .int .i64 (rn : Int)] 39)) nq).mono hb.size)
        have b1 : ((wr.alloc (.cells #[.int .i64 yp, .int .i64 (rn : Int)] 39)).drewN nq).cell? ⟨wr.heap.size, 1, none⟩ = some (.int .i64 (rn : Int)) := World.cell?_alloc_mark _ _ _ _ _
        have HL2 := Lib.hid (HL.out.drewN nq)
        have d1 := HL2.out.c1
        have d2 := HL2.out.f1
        have d3 := HL2.out.lt
        dsimp only at d1 d2 d3
        have HB2 := Lib.hid hbW
        clear HL d0 c0 c1 hbW HB1
        generalize (wr.alloc (.cells #[.int .i64 yp, .int .i64 (rn : Int)] 39)).drewN nq = W at b1 HL2 d1 d2 d3 HB2 ⊢
        generalize wr.heap.size = gx at b1 ⊢
        have hmr := sum_any (yn : Int) (rn : Int) _ _ W.drew (by omega) (by omega) (by omega) rfl rfl
        have hkk : (k : Int) < (k : Int) + 1 := by omega
        have hkw : IntKind.i64.wrap (k : Int) = (k : Int) := IntWalk.i64_in _ (by omega)
        go_still_tail 14, (by kernel_rfl)
        still_call hmr
        repeat still_step
        refine wpStill_nil ?_
        clear hkw
        change wpList _ _ _ _ _ W.drew
        go_wp2_with fail
        obtain ⟨hw5, hb5⟩ := (HL2.out.drew).stored (yn + rn)
        rw [Int.natCast_add] at hw5 hb5
        rw [← e] at hw5
        go_roundw
        case rel => exact ⟨i + 1, _, c', some ad', by omega, by go_num, rfl, by omega, by rw [HT1.out]; exact hw5, hb5 _ HB2.out.drew⟩
        case measure => simp [intOf]; omega
      · subst e0
        have hr1 : ¬ (r.n : Int) < 1 := by omega
        obtain ⟨ad', k, rfl, rfl, hL⟩ := LastR.of how1
        have hpb : (y.p == r.p) = false := beq_eq_false_iff_ne.2 hp
        have d0 := hL.c0
        have d3 := hL.lt
        subst e
        clear hsum h0 hL hp
        go_wp2_with fail
        go_quiet (fail)
        have hW0 : Below wr.heap.size wr ((wr.alloc (.cells #[.int .i64 r.p, .int .i64 (r.n : Int)] 39)).drewN nq) := Below.drewN (bl1 wr _) nq
        have hs0 : wr.heap.size < ((wr.alloc (.cells #[.int .i64 r.p, .int .i64 (r.n : Int)] 39)).drewN nq).heap.size := by simp
        have b0 : ((wr.alloc (.cells #[.int .i64 r.p, .int .i64 (r.n : Int)] 39)).drewN nq).cell? ⟨wr.heap.size, 0, none⟩ = some (.int .i64 r.p) := World.cell?_alloc_mark _ _ _ _ _
        have b1 : ((wr.alloc (.cells #[.int .i64 r.p, .int .i64 (r.n : Int)] 39)).drewN nq).cell? ⟨wr.heap.size, 1, none⟩ = some (.int .i64 (r.n : Int)) := World.cell?_alloc_mark _ _ _ _ _
        have how2 : OwnV 39 2 ((wr.alloc (.cells #[.int .i64 r.p, .int .i64 (r.n : Int)] 39)).drewN nq) w.heap.size (some ad') (k + 1) c' (rs (o ++ [y])) := how1.keep fun _ _ _ => rfl
        generalize (wr.alloc (.cells #[.int .i64 r.p, .int .i64 (r.n : Int)] 39)).drewN nq = W at hW0 hs0 b0 b1 how2 ⊢
        have how3 := how2.below rfl (bl1 W (.cells #[.int .i64 r.p, .int .i64 (r.n : Int)] 39))
        have hrd := rdV_new W #[.int .i64 r.p, .int .i64 (r.n : Int)] 39 (rs [r]) rfl
        have hbW := (hb.trans (hW0.mono hb.size)).alloc (by have := hb.size; omega) (.cells #[.int .i64 r.p, .int .i64 (r.n : Int)] 39)
        have hn1 : (k + 1) + 1 ≤ 1048577 := by omega
        clear how1 how2 c0 c1
        go_wp2_with (at_builtin; go_loud (refine wpList_appV elR rfl (.tmp 45) (.tmp 47) rfl rfl w.heap.size _ _ c' _ rfl how3 _ 1 1 _ _ rfl hrd rfl (rs_one _) (by omega) (by unfold maxLen; omega) hbW.size ((k + 1) + 1) rfl (rs ((o ++ [y]) ++ [r])) (rs_append _ _).symm ?_; intro A2 c2 w2 hw2 hb2 _))
        go_roundw
        case rel => exact ⟨i + 1, _, c2, A2, by omega, by go_num, rfl, by omega, by rw [HT1.out]; exact hw2, hbW.trans hb2⟩
        case measure => simp [intOf]; omega
    · have hge : n ≤ i := by omega
      have e : L.take i = L := List.take_of_length_le (by rw [h.len]; exact hge)
      have how2 := HOW.out
      rw [e] at how2
      have HOW2 := Lib.hid how2
      clear e how2 HOW
      go_wp2_with fail
      go_ret
      have hl := HOW2.out.len
      rw [rs_length] at hl
      have hl2 : m = (tidy L).length := by omega
      subst hl2
      exact ⟨A', c', rfl, HOW2.out.rdr, HOW2.out.cap, hb, HOW2.out.newer⟩
end Go.Proofs.Ytoaocdmcjjohgaa

/- Rows that are the same, or not: plain mathematics. -/
namespace Go.Proofs.Ytoaocdmcjjohgaa
namespace Tab

def ndEq (x y : Nd) : Bool := decide (x.k = y.k) && decide (x.p = y.p) && decide (x.n = y.n)
theorem ndEq_iff (x y : Nd) : ndEq x y = true ↔ x = y := by
  obtain ⟨a, b, c⟩ := x
  obtain ⟨d, e, f⟩ := y
  unfold ndEq
  simp [Nd.mk.injEq, and_assoc]
def sameN : List Nd → List Nd → Bool
  | [], [] => true
  | x :: a, y :: b => ndEq x y && sameN a b
  | _, _ => false
theorem sameN_iff (a b : List Nd) : sameN a b = true ↔ a = b := by
  induction a generalizing b with
  | nil => cases b <;> simp [sameN]
  | cons x a ih =>
    cases b with
    | nil => simp [sameN]
    | cons y b => simp only [sameN, Bool.and_eq_true, ndEq_iff, ih, List.cons.injEq]
theorem sameN_len {a b : List Nd} (h : ¬ a.length = b.length) : sameN a b = false := by
  cases hs : sameN a b with
  | false => rfl
  | true => rw [sameN_iff] at hs; rw [hs] at h; exact absurd rfl h
def rnEq (x y : Rn) : Bool := decide (x.p = y.p) && decide (x.n = y.n)
theorem rnEq_iff (x y : Rn) : rnEq x y = true ↔ x = y := by
  obtain ⟨a, b⟩ := x
  obtain ⟨d, e⟩ := y
  unfold rnEq
  simp [Rn.mk.injEq]
def sameR : List Rn → List Rn → Bool
  | [], [] => true
  | x :: a, y :: b => rnEq x y && sameR a b
  | _, _ => false
theorem sameR_iff (a b : List Rn) : sameR a b = true ↔ a = b := by
  induction a generalizing b with
  | nil => cases b <;> simp [sameR]
  | cons x a ih =>
    cases b with
    | nil => simp [sameR]
    | cons y b => simp only [sameR, Bool.and_eq_true, rnEq_iff, ih, List.cons.injEq]
theorem sameR_len {a b : List Rn} (h : ¬ a.length = b.length) : sameR a b = false := by
  cases hs : sameR a b with
  | false => rfl
  | true => rw [sameR_iff] at hs; rw [hs] at h; exact absurd rfl h
theorem drop_rn {l : List Rn} {i : Nat} {x : Rn} (h : l[i]? = some x) : l.drop i = x :: l.drop (i + 1) := by
  obtain ⟨hi, e⟩ := List.getElem?_eq_some_iff.1 h
  rw [List.drop_eq_getElem_cons hi, e]
end Tab
end Go.Proofs.Ytoaocdmcjjohgaa

/- Rows of nodes, of runs, held against each other in memory: a walk that only reads. -/
namespace Go.Proofs.Ytoaocdmcjjohgaa
open Go.RowKit Tab
set_option linter.unusedSimpArgs false
set_option linter.unusedVariables false

/-- It answers v, and turns nothing; it may draw. -/
def Qui (v : Value) (w : World) (e : Ending) (w' : World) : Prop := e = .returned v ∧ ∃ m, w' = w.drewN m
theorem Qui.ans {v : Value} {w w' : World} {e : Ending} (h : Qui v w e w') : Ans v w e w' := by
  obtain ⟨h1, m, rfl⟩ := h
  exact ⟨h1, Below.drewN (Below.refl _ _) m⟩
/-- In a quiet walk behind draws. -/
theorem Qui.sum {P : Program} {f : FuncId} {args : Array Value} {w : World} {q n : Nat} {v : Value} (h : Calls P f args (w.drewN (q + n)) (Qui v (w.drewN (q + n)))) : Calls P f args (w.drewN (q + n)) fun e w'' => e = .returned v ∧ ∃ m, w'' = w.drewN (q + m) :=
  h.mono fun _ _ ⟨he, m, hm⟩ => ⟨he, n + m, by rw [hm, World.drewN_drewN, Nat.add_assoc]⟩
theorem nd_neqs (x y : Nd) (W : World) : (binOp .neq 95 (nd x.k x.p x.n) (nd y.k y.p y.n)).run Try.prog W = .ok (.bool (!(ndEq x y))) W := by
  obtain ⟨a, b, c⟩ := x
  obtain ⟨d, e, f⟩ := y
  unfold ndEq
  by_cases h1 : a = d
  · by_cases h2 : b = e
    · by_cases h3 : c = f
      · subst h1; subst h2; subst h3
        simp [run_neq_struct, go_sem]
      · subst h1; subst h2
        simp [run_neq_struct, go_sem, h3]
    · subst h1
      simp [run_neq_struct, go_sem, h2]
  · simp [run_neq_struct, go_sem, h1]
theorem rn_neqs (x y : Rn) (W : World) : (binOp .neq 39 (rv x.p (x.n : Int)) (rv y.p (y.n : Int))).run Try.prog W = .ok (.bool (!(rnEq x y))) W := by
  obtain ⟨a, b⟩ := x
  obtain ⟨d, e⟩ := y
  unfold rnEq
  by_cases h1 : a = d
  · by_cases h2 : b = e
    · subst h1; subst h2
      simp [run_neq_struct, go_sem]
    · subst h1
      have h3 : ¬ (b : Int) = (e : Int) := by omega
      simp [run_neq_struct, go_sem, h2, h3]
  · simp [run_neq_struct, go_sem, h1]
set_option maxRecDepth 100000 in
set_option maxHeartbeats 1600000 in
theorem xsame_any (A1 A2 : Option Addr) (n m c1 c2 : Nat) (l1 l2 : List Rn) (w : World) (h1 : RdR w w.heap.size A1 n l1) (h2 : RdR w w.heap.size A2 m l2) (hn : n ≤ 1048576) :
    Calls Try.prog 31 #[.slice A1 n c1, .slice A2 m c2] w (Qui (.bool (sameR l1 l2)) w) := by
  by_cases hnm : n = m
  · subst hnm
    generalize hb : sameR l1 l2 = b
    have HB := Lib.hid hb
    clear hb
    go_enter Try.func31, Try.ntmps31
    go_wp2_with fail
    go_loopw [5, 13] (fun _ s wr => ∃ i q : Nat, i ≤ n ∧ s = .int .i64 i ∧ sameR (l1.drop i) (l2.drop i) = b ∧ wr = w.drewN q) (fun _ s _ => n - (intOf s).toNat)
    case atStart => exact ⟨0, 0, by omega, rfl, by simpa using HB.out, rfl⟩
    case round =>
      obtain ⟨i, q, hi, rfl, hs, rfl⟩ := hrel
      have HS := Lib.hid hs
      clear hs
      by_cases hlt : i < n
      · obtain ⟨ad, x, rfl, _, hx, c0, c1'⟩ := h1.at_ hlt
        obtain ⟨ad2, y, rfl, _, hy, d0, d1⟩ := h2.at_ hlt
        have e1 := drop_rn hx
        have e2 := drop_rn hy
        have hst := HS.out
        rw [e1, e2] at hst
        simp only [sameR] at hst
        have HST := Lib.hid hst
        have hne := fun W => rn_neqs x y W
        obtain ⟨xp, xn⟩ := x
        obtain ⟨yp, yn⟩ := y
        dsimp only at c0 c1' d0 d1 hne
        clear hx hy e1 e2 hst HS
        generalize hE : rnEq ⟨xp, xn⟩ ⟨yp, yn⟩ = E at HST hne
        clear hE
        cases E with
        | true =>
          have hne : ∀ W, (binOp .neq 39 (rv xp (xn : Int)) (rv yp (yn : Int))).run Try.prog W = .ok (.bool false) W := hne
          go_wp2_with fail
          go_quiet (fail)
          go_wp2_with fail
          go_roundw
          case rel => exact ⟨i + 1, q + nq, by omega, by go_num, by simpa using HST.out, rfl⟩
          case measure => simp [intOf]; omega
        | false =>
          have hne : ∀ W, (binOp .neq 39 (rv xp (xn : Int)) (rv yp (yn : Int))).run Try.prog W = .ok (.bool true) W := hne
          go_wp2_with fail
          go_quiet (fail)
          go_wp2_with fail
          go_ret
          exact ⟨by have := HST.out; simp at this; rw [← this]; rfl, q + nq, by rw [World.drewN_drewN]⟩
      · have hge : n ≤ i := by omega
        have e1 : l1.drop i = [] := List.drop_eq_nil_of_le (by rw [h1.len]; exact hge)
        have e2 : l2.drop i = [] := List.drop_eq_nil_of_le (by rw [h2.len]; exact hge)
        have hst := HS.out
        rw [e1, e2] at hst
        have HST := Lib.hid hst
        clear hst HS e1 e2
        go_wp2_with fail
        go_ret
        exact ⟨by rw [← HST.out]; rfl, q, rfl⟩
  · have hb := sameR_len (a := l1) (b := l2) (by rw [h1.len, h2.len]; exact hnm)
    rw [hb]
    have h3 : ((n : Int) == (m : Int)) = false := beq_eq_false_iff_ne.2 (by omega)
    have h4 : ((n : Int) != (m : Int)) = true := by rw [bne, h3]; rfl
    clear hb h1 h2
    go_enter Try.func31, Try.ntmps31
    go_wp2_with fail
    go_ret
    exact ⟨rfl, 0, rfl⟩
end Go.Proofs.Ytoaocdmcjjohgaa
