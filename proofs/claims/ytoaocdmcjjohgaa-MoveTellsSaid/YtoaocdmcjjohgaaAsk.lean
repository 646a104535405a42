/- What is asked of a configuration, by the tables that it has: that it answers, and what it leaves. -/
import Derived.Test.YtoaocdmcjjohgaaLow7
import Derived.Test.YtoaocdmcjjohgaaWher
import Derived.Test.YtoaocdmcjjohgaaFrm
import Derived.Test.YtoaocdmcjjohgaaLow6
import Derived.Test.YtoaocdmcjjohgaaLow5
namespace Go.Proofs.Ytoaocdmcjjohgaa
open Go.RowKit Tab
set_option linter.unusedSimpArgs false
set_option linter.unusedVariables false

/-- No block has turned but those of p. -/
structure Only (p : Nat → Prop) (w w' : World) : Prop where
  os : w'.os = w.os
  tape : w'.tape = w.tape
  output : w'.output = w.output
  size : w.heap.size ≤ w'.heap.size
  block : ∀ k, k < w.heap.size → ¬ p k → w'.heap[k]? = w.heap[k]?
section
variable {p : Nat → Prop} {w w' w2 : World}
theorem Only.refl (p : Nat → Prop) (w : World) : Only p w w := ⟨rfl, rfl, rfl, Nat.le_refl _, fun _ _ _ => rfl⟩
theorem Only.trans (h : Only p w w') (k : Only p w' w2) : Only p w w2 :=
  ⟨k.os.trans h.os, k.tape.trans h.tape, k.output.trans h.output, Nat.le_trans h.size k.size, fun i hi hn => (k.block i (Nat.lt_of_lt_of_le hi h.size) hn).trans (h.block i hi hn)⟩
theorem Only.bel (h : Below w.heap.size w w') : Only p w w' := ⟨h.os, h.tape, h.output, h.size, fun k hk _ => h.block k hk⟩
theorem Only.gb {b : Nat} (h : w.grownBy w' (some b)) (hb : p b) : Only p w w' := ⟨h.os, h.tape, h.output, h.size, fun k hk hn => h.block k hk fun e => by injection e with e; subst e; exact hn hb⟩
theorem Only.set (w : World) (a : Addr) (v : Value) (hb : p a.block) : Only p w (w.setCell a v) :=
  ⟨rfl, rfl, rfl, by simp, fun k hk hn => Below.heap_setCell w a v k fun e => by subst e; exact hn hb⟩
theorem Only.drewN (h : Only p w w') (q : Nat) : Only p w (w'.drewN q) := ⟨h.os, h.tape, h.output, h.size, h.block⟩
theorem Only.rdv {B : Nat} {A : Option Addr} {l : List Value} (h : Only p w w') (hr : RdV w w.heap.size A l) (hA : ∀ b, obk A = some b → ¬ p b) : RdV w' w'.heap.size A l := fun hl => by
  obtain ⟨ad, e, hb, hc⟩ := hr hl
  refine ⟨ad, e, Nat.lt_of_lt_of_le hb h.size, fun j v hj => ?_⟩
  rw [World.cell?_of_block (h.block (ad.add j).block (by rw [add_block]; exact hb) (by rw [add_block]; exact hA _ (by rw [e]; rfl)))]
  exact hc j v hj
end
theorem elRR : Elt 96 33 1 24 (.slice none 0 0) := ⟨Try.underlying96, by kernel_rfl, rfl, by omega⟩
/-- A row of runs in memory. -/
structure Rw where
  a : Option Addr
  n : Nat
  c : Nat
  l : List Rn
def Rw.v (r : Rw) : Value := .slice r.a r.n r.c
theorem rwv_one (T : List Rw) : ∀ u ∈ T.map Rw.v, u.oneCell' = true := by
  intro u hu
  obtain ⟨s, _, rfl⟩ := List.mem_map.1 hu
  rfl
structure RwAt (w : World) (r : Rw) : Prop where
  rd : RdR w w.heap.size r.a r.n r.l
  cap : r.n ≤ r.c
  few : r.n ≤ 96
  tk : ticks r.l ≤ 90
theorem RwAt.on {w w' : World} {r : Rw} (h : RwAt w r) (hb : Below w.heap.size w w') : RwAt w' r := ⟨h.rd.on hb, h.cap, h.few, h.tk⟩
theorem RwAt.only {p : Nat → Prop} {w w' : World} {r : Rw} (h : RwAt w r) (ho : Only p w w') (hA : ∀ b, obk r.a = some b → ¬ p b) : RwAt w' r := ⟨⟨h.rd.len, ho.rdv (B := 0) h.rd.rd hA⟩, h.cap, h.few, h.tk⟩
/-- A table that serves as a frame. -/
def Frame (t : TbV) : Prop := ofz t.n (t.k.dep + 1) (one t.x t.k.lvs) = 0 ∧ ticks (one t.x t.k.lvs) ≤ 90
/-- A table's runs. -/
def rowF (t : TbV) : List Rn := tidy (one t.x t.k.lvs)
theorem rof_new (t : TbV) (w : World) (h : TbAt w w.heap.size t) (hf : Frame t) :
    Calls Try.prog 13 #[.slice t.A t.n t.c] w fun e w' => ∃ r : Rw, e = .returned (.tuple #[r.v, .int .i64 0]) ∧ RwAt w' r ∧ Below w.heap.size w w' ∧ (∀ b, obk r.a = some b → w.heap.size ≤ b ∧ b < w'.heap.size) ∧ r.l = rowF t := by
  obtain ⟨hz, ht⟩ := hf
  have hk := ofz_ok hz
  have hR := rright_tree t.A t.n t.c _ t.x t.k w h.rd h.cap h.few h.ok rfl
  have e : F.tick t.x t.k.len = ticks (one t.x t.k.lvs) := by rw [one_ticks, lvs_ticks]
  have h0 : rt t.n (t.k.dep + 1) (F.tick t.x t.k.len) = 0 := by
    rw [e]
    unfold rt
    rw [if_neg (by omega), if_neg (by omega), if_neg (by omega)]
  rw [h0] at hR
  refine (rof_tree t.A t.n t.c t.x t.k w h.rd h.cap h.ok hk.1 hk.2.1 (by rw [e]; exact hk.2.2.1) hR).mono fun e w' ho => ?_
  unfold OfR at ho
  rw [if_neg (by omega)] at ho
  obtain ⟨A, c, rfl, hr, hc, hb, hn⟩ := ho
  refine ⟨⟨A, _, c, tidy (one t.x t.k.lvs)⟩, rfl, ⟨hr, hc, hk.2.2.2, by rw [ticks_tidy]; exact ht⟩, hb, fun b hb => ?_, rfl⟩
  cases A with
  | none => cases hb
  | some ad =>
    injection hb with hb
    have hb : ad.block = b := hb
    have h1 := hn ad rfl
    obtain ⟨ad', _, e1, h2, _⟩ := hr.at_ (i := 0) (ofz_runs h.ok).1
    injection e1 with e1
    subst e1
    omega
/-- Partitions, channels, tables in memory, and what may be written of them: those of p. -/
structure Asked (p : Nat → Prop) (w : World) (A3 : Option Addr) (n3 : Nat) (P : List PtV) (T : List TbV) : Prop where
  t : RdB tcl w w.heap.size A3 n3 T
  tt : ∀ t ∈ T, TbAt w w.heap.size t ∧ Frame t
  pt : ∀ x ∈ P, PtAt w w.heap.size x
  s3 : ∀ b, obk A3 = some b → ¬ p b
  st : ∀ t ∈ T, ∀ b, obk t.A = some b → ¬ p b
  sp : ∀ x ∈ P, ∀ b, obk x.pa = some b → ¬ p b
theorem ProcsAt.only {p : Nat → Prop} {w w' : World} {A : Option Addr} {n : Nat} (h : ProcsAt w w.heap.size A n) (ho : Only p w w') (hA : ∀ b, obk A = some b → ¬ p b) : ProcsAt w' w'.heap.size A n := fun i hi => by
  obtain ⟨ad, e, q, h1, hB, h2, h3⟩ := h i hi
  have hk := ho.block ad.block hB (hA _ (by rw [h1]; rfl))
  refine ⟨ad, e, q, h1, Nat.lt_of_lt_of_le hB ho.size, ?_, ?_⟩
  · exact (World.cell?_of_block (w := w) (w' := w') (a := ad.add (i * 2)) (by rw [add_block]; exact hk)).trans h2
  · exact (World.cell?_of_block (w := w) (w' := w') (a := ⟨(ad.add (i * 2)).block, (ad.add (i * 2)).off + 1, none⟩) (by show w'.heap[(ad.add (i * 2)).block]? = w.heap[(ad.add (i * 2)).block]?; rw [add_block]; exact hk)).trans h3
theorem Asked.only {p : Nat → Prop} {w w' : World} {A3 : Option Addr} {n3 : Nat} {P : List PtV} {T : List TbV} (h : Asked p w A3 n3 P T) (ho : Only p w w') : Asked p w' A3 n3 P T :=
  ⟨⟨h.t.len, ho.rdv (B := 0) h.t.rd h.s3⟩, fun t ht => ⟨⟨⟨(h.tt t ht).1.rd.len, ho.rdv (B := 0) (h.tt t ht).1.rd.rd (h.st t ht), (h.tt t ht).1.rd.bd⟩, (h.tt t ht).1.cap, (h.tt t ht).1.ok, (h.tt t ht).1.few⟩, (h.tt t ht).2⟩,
    fun x hx => ⟨(h.pt x hx).per, (h.pt x hx).name, (h.pt x hx).few, (h.pt x hx).procs.only ho (h.sp x hx)⟩, h.s3, h.st, h.sp⟩
/-- A struct's field, as a walk spells its place. -/
theorem OwnB.cell {α : Type} {E s : Nat} {f : α → List Value} {w : World} {B g n c : Nat} {l : List α} (h : OwnB E s f w B (some ⟨g, 0, none⟩) n c l) (hf : ∀ x, (f x).length = s) {i k : Nat} {x : α} {v : Value} (hx : l[i]? = some x) (hk : k < s) (hv : (f x)[k]? = some v) : w.cell? ⟨g, i * s + k, none⟩ = some v ∧ w.frozen? ⟨g, i * s + k, none⟩ = false := by
  have hi : i < l.length := (List.getElem?_eq_some_iff.1 hx).1
  have h1 : (i + 1) * s ≤ l.length * s := Nat.mul_le_mul_right _ hi
  rw [Nat.succ_mul] at h1
  refine ⟨?_, World.ownsRow.frozenAt h.own _⟩
  rw [World.ownsRow.cellAt h.own (i * s + k) (by rw [← h.len]; omega), flat_get hf l i k x hx hk]
  exact hv
theorem OwnB.put {α : Type} {E s : Nat} {f : α → List Value} {w : World} {B g n c : Nat} {l : List α} (h : OwnB E s f w B (some ⟨g, 0, none⟩) n c l) (hf : ∀ x, (f x).length = s) {i k : Nat} {x y : α} {v : Value} (hx : l[i]? = some x) (hk : k < s) (hy : f y = (f x).set k v) :
    OwnB E s f (w.setCell ⟨g, i * s + k, none⟩ v) B (some ⟨g, 0, none⟩) n c (l.set i y) := by
  have hi : i < l.length := (List.getElem?_eq_some_iff.1 hx).1
  have h1 : (i + 1) * s ≤ l.length * s := Nat.mul_le_mul_right _ hi
  rw [Nat.succ_mul] at h1
  refine ⟨by rw [List.length_set]; exact h.len, ?_⟩
  rw [flat_set hf l i k x y v hx hk hy]
  refine h.own.set (i * s + k) v ?_
  rw [flat_len hf]
  omega
theorem OwnB.gb {α : Type} {E s : Nat} {f : α → List Value} {w w' : World} {B b n c : Nat} {A : Option Addr} {l : List α} (h : OwnB E s f w B A n c l) (hg : w.grownBy w' (some b)) (hb : b < B) : OwnB E s f w' B A n c l := ⟨h.len, h.own.gb hg hb⟩
/-- What stays while asks is about its loops. -/
structure AskS (p : Nat → Prop) (B b : Nat) (A : Option Addr) (m c : Nat) (f : Nat → Int) (A1 A2 : Option Addr) (n1 n2 c1 c2 B1 : Nat) (P0 : List PtV) (C0 : List ChV) (W w : World) (P : List PtV) (C : List ChV) : Prop where
  pp : OwnB 64 11 pcl w B1 A1 n1 c1 P
  ch : OwnB 70 6 cc w B1 A2 n2 c2 C
  pm : P.map ptOf = P0.map ptOf
  cm : C.map chOf = C0.map chOf
  tp : ∃ at_, TapeW w B b A m c f at_
  on : Only p W w
section
variable {p : Nat → Prop} {B b : Nat} {A : Option Addr} {m c : Nat} {f : Nat → Int} {A1 A2 : Option Addr} {n1 n2 c1 c2 B1 : Nat} {P0 : List PtV} {C0 : List ChV} {W w w' : World} {P : List PtV} {C : List ChV}
theorem AskS.bel (h : AskS p B b A m c f A1 A2 n1 n2 c1 c2 B1 P0 C0 W w P C) (hb : Below w.heap.size w w') : AskS p B b A m c f A1 A2 n1 n2 c1 c2 B1 P0 C0 W w' P C := by
  obtain ⟨at_, T⟩ := h.tp
  exact ⟨h.pp.below hb, h.ch.below hb, h.pm, h.cm, ⟨at_, T.below hb T.lt⟩, h.on.trans (Only.bel hb)⟩
theorem AskS.next (h : AskS p B b A m c f A1 A2 n1 n2 c1 c2 B1 P0 C0 W w P C) {at_ : Nat} (T : TapeW w' B b A m c f at_) (hg : w.grownBy w' (some b)) (hb : b < B1) (hp : p b) : AskS p B b A m c f A1 A2 n1 n2 c1 c2 B1 P0 C0 W w' P C :=
  ⟨h.pp.gb hg hb, h.ch.gb hg hb, h.pm, h.cm, ⟨at_, T⟩, h.on.trans (Only.gb hg hp)⟩
/-- A store into another block than the tape's leaves it. -/
theorem TapeW.other {at_ : Nat} (h : TapeW w B b A m c f at_) (q : Addr) (v : Value) (hq : B1 ≤ q.block) (hb : b < B1) : TapeW (w.setCell q v) B b A m c f at_ :=
  h.below (Bs := B1) ((Below.refl _ _).setCell hq v) hb
theorem map_set_same {α β : Type} {f : α → β} {l : List α} {i : Nat} {x y : α} (hx : l[i]? = some x) (h : f y = f x) : (l.set i y).map f = l.map f := by
  obtain ⟨hi, e⟩ := List.getElem?_eq_some_iff.1 hx
  apply List.ext_getElem?
  intro j
  rw [List.getElem?_map, List.getElem?_map, List.getElem?_set]
  by_cases hj : i = j
  · subst hj
    rw [if_pos rfl, if_pos hi, hx]
    simp [h]
  · rw [if_neg hj]
theorem AskS.late {g : Nat} (h : AskS p B b A m c f A1 (some ⟨g, 0, none⟩) n1 n2 c1 c2 B1 P0 C0 W w P C) {i : Nat} {x : ChV} (hx : C[i]? = some x) (z : Int) (hb : b < B1) (hp : p g) (h12 : obk A1 ≠ some g) :
    AskS p B b A m c f A1 (some ⟨g, 0, none⟩) n1 n2 c1 c2 B1 P0 C0 W (w.setCell ⟨g, i * 6 + 5, none⟩ (.int .i64 z)) P (C.set i { x with late := z }) := by
  obtain ⟨at_, T⟩ := h.tp
  have hBg : B1 ≤ g := (h.ch.own.obk_ge rfl).1
  exact ⟨h.pp.other _ _ fun g' e => fun e2 => h12 (by rw [e]; exact congrArg some e2), h.ch.put cc_len hx (by omega) (cc_late x z), h.pm, (map_set_same hx (show chOf { x with late := z } = chOf x from rfl)).trans h.cm, ⟨at_, T.other ⟨g, i * 6 + 5, none⟩ _ hBg hb⟩, h.on.trans (Only.set _ _ _ hp)⟩
theorem AskS.ask {g : Nat} (h : AskS p B b A m c f (some ⟨g, 0, none⟩) A2 n1 n2 c1 c2 B1 P0 C0 W w P C) {i : Nat} {x : PtV} (hx : P[i]? = some x) (y z : Int) (hb : b < B1) (hp : p g) (h12 : obk A2 ≠ some g) :
    AskS p B b A m c f (some ⟨g, 0, none⟩) A2 n1 n2 c1 c2 B1 P0 C0 W ((w.setCell ⟨g, i * 11 + 1, none⟩ (.int .i64 y)).setCell ⟨g, i * 11 + 2, none⟩ (.int .i64 z)) (P.set i { x with bud := y, per := z }) C := by
  obtain ⟨at_, T⟩ := h.tp
  have hBg : B1 ≤ g := (h.pp.own.obk_ge rfl).1
  have h1 := h.pp.put pcl_len hx (by omega) (pcl_bud x y)
  have hx1 : (P.set i { x with bud := y })[i]? = some { x with bud := y } := List.getElem?_set_self (List.getElem?_eq_some_iff.1 hx).1
  have h2 := h1.put pcl_len hx1 (by omega) (pcl_per { x with bud := y } z)
  rw [List.set_set] at h2
  exact ⟨h2, (h.ch.other _ _ fun g' e => fun e2 => h12 (by rw [e]; exact congrArg some e2)).other _ _ fun g' e => fun e2 => h12 (by rw [e]; exact congrArg some e2), (map_set_same hx (show ptOf { x with bud := y, per := z } = ptOf x from rfl)).trans h.pm, h.cm,
    ⟨at_, (T.other ⟨g, i * 11 + 1, none⟩ _ hBg hb).other ⟨g, i * 11 + 2, none⟩ _ hBg hb⟩, (h.on.trans (Only.set _ _ _ hp)).trans (Only.set _ _ _ hp)⟩
end
theorem loadVar_runC {w : World} {g : Nat} {v0 v1 v2 : Value} (h0 : w.cell? ⟨g, 0, none⟩ = some v0) (h1 : w.cell? ⟨g, 1, none⟩ = some v1) (h2 : w.cell? ⟨g, 2, none⟩ = some v2) : (loadVar 31 ⟨g, 0, none⟩).run Try.prog w = .ok (.agg #[v0, v1, v2]) w := by
  have e : (isAgg 31).run Try.prog w = .ok true w := by go_simp
  have e2 : (sizeOf 31).run Try.prog w = .ok 3 w := by go_simp
  unfold loadVar
  rw [Sem.run_bind, e, Result.andThen_ok]
  simp only [if_true]
  rw [Sem.run_bind, e2, Result.andThen_ok, Sem.run_bind]
  have := run_loadCells_list (P := Try.prog) (w := w) ⟨g, 0, none⟩ [v0, v1, v2] (fun j v hj => by
    match j with
    | 0 => simp at hj; subst hj; simpa [Addr.add] using h0
    | 1 => simp at hj; subst hj; simpa [Addr.add] using h1
    | 2 => simp at hj; subst hj; simpa [Addr.add] using h2
    | j + 3 => simp at hj)
  simp only [List.length_cons, List.length_nil] at this
  rw [this, Result.andThen_ok]
  rfl
theorem results_runC {fn : Func} {p : Tmp} (h : fn.results = #[.cell p 31]) {tmps : Array Value} {w : World} {g : Nat} {v0 v1 v2 : Value} (hp : tmps.getD p undef = .pointer (some ⟨g, 0, none⟩)) (h0 : w.cell? ⟨g, 0, none⟩ = some v0) (h1 : w.cell? ⟨g, 1, none⟩ = some v1) (h2 : w.cell? ⟨g, 2, none⟩ = some v2) :
    (results fn tmps).run Try.prog w = .ok (.agg #[v0, v1, v2]) w := by
  have e : (asAddr (.pointer (some ⟨g, 0, none⟩))).run Try.prog w = .ok ⟨g, 0, none⟩ w := rfl
  rw [results_cell1 h, hp, e, Result.andThen_ok, loadVar_runC h0 h1 h2]
theorem Only.new {p : Nat → Prop} {w w' : World} (h : Only p w w') (a : Addr) (v : Value) (ha : w.heap.size ≤ a.block) : Only p w (w'.setCell a v) :=
  ⟨h.os, h.tape, h.output, by have := h.size; simpa using this, fun k hk hn => (Below.heap_setCell w' a v k (by omega)).trans (h.block k hk hn)⟩
/-- Three stores into a block. -/
def set3 (w : World) (g : Nat) (v0 v1 v2 : Value) : World := ((w.setCell ⟨g, 0, none⟩ v0).setCell ⟨g, 1, none⟩ v1).setCell ⟨g, 2, none⟩ v2
theorem set3_cells {w : World} {g : Nat} {f : Nat → Value} (h : Vec w g 3 f) (v0 v1 v2 : Value) : (set3 w g v0 v1 v2).cell? ⟨g, 0, none⟩ = some v0 ∧ (set3 w g v0 v1 v2).cell? ⟨g, 1, none⟩ = some v1 ∧ (set3 w g v0 v1 v2).cell? ⟨g, 2, none⟩ = some v2 := by
  have h3 := ((h.set 0 v0).set 1 v1).set 2 v2
  refine ⟨(h3.cell 0 (by omega)).trans ?_, (h3.cell 1 (by omega)).trans ?_, (h3.cell 2 (by omega)).trans ?_⟩ <;> rfl
theorem AskS.res {p : Nat → Prop} {B b : Nat} {A : Option Addr} {m c : Nat} {f : Nat → Int} {A1 A2 : Option Addr} {n1 n2 c1 c2 B1 : Nat} {P0 : List PtV} {C0 : List ChV} {w0 W w : World} {P : List PtV} {C : List ChV}
    (h : AskS p B b A m c f A1 A2 n1 n2 c1 c2 B1 P0 C0 W w P C) (h0 : Only p w0 W) (g : Nat) (v0 v1 v2 : Value) (hg : w0.heap.size ≤ g) (hp : ∀ k, p k → k < w0.heap.size) (hb : p b) (h1 : ∀ k, obk A1 = some k → p k) (h2 : ∀ k, obk A2 = some k → p k) :
    RdB pcl (set3 w g v0 v1 v2) (set3 w g v0 v1 v2).heap.size A1 n1 P ∧ RdB cc (set3 w g v0 v1 v2) (set3 w g v0 v1 v2).heap.size A2 n2 C ∧ (∃ at_, TapeW (set3 w g v0 v1 v2) B b A m c f at_) ∧ Only p w0 (set3 w g v0 v1 v2) ∧ OwnB 64 11 pcl (set3 w g v0 v1 v2) B1 A1 n1 c1 P ∧ OwnB 70 6 cc (set3 w g v0 v1 v2) B1 A2 n2 c2 C := by
  have hs : (set3 w g v0 v1 v2).heap.size = w.heap.size := by simp [set3]
  have n1' : ∀ k, obk A1 = some k → k ≠ g := fun k e => by have := hp k (h1 k e); omega
  have n2' : ∀ k, obk A2 = some k → k ≠ g := fun k e => by have := hp k (h2 k e); omega
  obtain ⟨at_, T⟩ := h.tp
  have hbl : Below w0.heap.size w (set3 w g v0 v1 v2) := (((Below.refl _ _).setCell (p := ⟨g, 0, none⟩) hg v0).setCell (p := ⟨g, 1, none⟩) hg v1).setCell (p := ⟨g, 2, none⟩) hg v2
  refine ⟨?_, ?_, ⟨at_, T.below hbl (hp b hb)⟩, (((h0.trans h.on).new ⟨g, 0, none⟩ v0 hg).new ⟨g, 1, none⟩ v1 hg).new ⟨g, 2, none⟩ v2 hg, ?_, ?_⟩
  · rw [hs]
    exact ((h.pp.rdb.other ⟨g, 0, none⟩ v0 n1').other ⟨g, 1, none⟩ v1 n1').other ⟨g, 2, none⟩ v2 n1'
  · rw [hs]
    exact ((h.ch.rdb.other ⟨g, 0, none⟩ v0 n2').other ⟨g, 1, none⟩ v1 n2').other ⟨g, 2, none⟩ v2 n2'
  · have k1 : ∀ g' : Nat, A1 = some ⟨g', 0, none⟩ → g' ≠ g := fun g' e => n1' g' (by rw [e]; rfl)
    exact ((h.pp.other ⟨g, 0, none⟩ v0 k1).other ⟨g, 1, none⟩ v1 k1).other ⟨g, 2, none⟩ v2 k1
  · have k2 : ∀ g' : Nat, A2 = some ⟨g', 0, none⟩ → g' ≠ g := fun g' e => n2' g' (by rw [e]; rfl)
    exact ((h.ch.other ⟨g, 0, none⟩ v0 k2).other ⟨g, 1, none⟩ v1 k2).other ⟨g, 2, none⟩ v2 k2
end Go.Proofs.Ytoaocdmcjjohgaa
