/- What is asked whether a configuration may be, of a tape's: exactly, the processes read off the memory. -/
import Derived.Test.YtebcfiifaclniaaGreatLow8
namespace Go.Proofs.YtebcfiifaclniaaGreat
open Go.RowKit Tab
set_option linter.unusedSimpArgs false
set_option linter.unusedVariables false

def numC (v : Option Value) : Int := match v with | some (.int _ z) => z | _ => 0
/-- The processes of a row, as they stand in memory. -/
def prL (w : World) (A : Option Addr) (n : Nat) : List (Int × Int) := match A with
  | none => []
  | some ad => (List.range n).map fun i => (numC (w.cell? (ad.add (i * 2))), numC (w.cell? ⟨(ad.add (i * 2)).block, (ad.add (i * 2)).off + 1, none⟩))
theorem prL_at {w : World} {B n i : Nat} {A : Option Addr} (h : ProcsAt w B A n) (hi : i < n) : ∃ ad e p, A = some ad ∧ ad.block < B ∧ w.cell? (ad.add (i * 2)) = some (.int .i64 e) ∧ w.cell? ⟨(ad.add (i * 2)).block, (ad.add (i * 2)).off + 1, none⟩ = some (.int .i64 p) ∧ PcOk e p ∧ (prL w A n)[i]? = some (e, p) := by
  obtain ⟨ad, e, p, hA, hb, h1, h2, h3⟩ := h i hi
  refine ⟨ad, e, p, hA, hb, h1, h2, h3, ?_⟩
  subst hA
  show ((List.range n).map _)[i]? = _
  rw [List.getElem?_map, List.getElem?_range hi]
  show some (numC (w.cell? (ad.add (i * 2))), numC (w.cell? ⟨(ad.add (i * 2)).block, (ad.add (i * 2)).off + 1, none⟩)) = _
  rw [h1, h2]
  rfl
theorem prL_len {w : World} {B n : Nat} {A : Option Addr} (h : ProcsAt w B A n) : (prL w A n).length = n := by
  by_cases h0 : 0 < n
  · obtain ⟨ad, e, p, rfl, _⟩ := h 0 h0
    show ((List.range n).map _).length = n
    rw [List.length_map, List.length_range]
  · obtain rfl : n = 0 := by omega
    cases A <;> rfl
theorem prL_rd {w : World} {B n : Nat} {A : Option Addr} (h : ProcsAt w B A n) : RdB prc w B A n (prL w A n) := by
  refine ⟨prL_len h, fun h0 => ?_⟩
  rw [flat_len prc_len, prL_len h] at h0
  obtain ⟨ad, e, p, hA, hb, _⟩ := h 0 (by omega)
  refine ⟨ad, hA, hb, fun j v hj => ?_⟩
  have hjl := (List.getElem?_eq_some_iff.1 hj).1
  rw [flat_len prc_len, prL_len h] at hjl
  obtain ⟨ad2, e2, p2, hA2, _, c0, c1, _, hg⟩ := prL_at h (i := j / 2) (by omega)
  obtain rfl : ad = ad2 := by rw [hA] at hA2; injection hA2
  have h3 := flat_get prc_len _ (j / 2) (j % 2) (e2, p2) hg (Nat.mod_lt _ (by omega))
  rw [show j / 2 * 2 + j % 2 = j by omega, hj] at h3
  rcases (by omega : j % 2 = 0 ∨ j % 2 = 1) with hm | hm
  · rw [hm] at h3
    rw [show j = j / 2 * 2 by omega, c0]
    exact h3.symm
  · rw [hm] at h3
    have e : ad.add j = ⟨(ad.add (j / 2 * 2)).block, (ad.add (j / 2 * 2)).off + 1, none⟩ := by
      conv => lhs; rw [show j = j / 2 * 2 + 1 by omega]
      rw [← add_add]
      rfl
    rw [e, c1]
    exact h3.symm
theorem prL_ok {w : World} {B n : Nat} {A : Option Addr} (h : ProcsAt w B A n) : (prL w A n).all prcF = true := by
  rw [List.all_eq_true]
  intro q hq
  obtain ⟨i, hi⟩ := List.getElem?_of_mem hq
  have hil := (List.getElem?_eq_some_iff.1 hi).1
  rw [prL_len h] at hil
  obtain ⟨_, e, p, _, _, _, _, h3, hg⟩ := prL_at h hil
  rw [hi] at hg
  injection hg with hg
  subst hg
  unfold PcOk at h3
  unfold prcF
  simp only [Bool.and_eq_true, decide_eq_true_eq]
  omega
/-- A partition with its processes, as they stand in memory. -/
def pq (w : World) (x : PtV) : Pq := (x, prL w x.pa x.pn)
theorem prL_same {w w' : World} {B n : Nat} {A : Option Addr} (h : ProcsAt w B A n) (hk : ∀ k, k < B → obk A = some k → w'.heap[k]? = w.heap[k]?) : prL w' A n = prL w A n := by
  by_cases h0 : 0 < n
  · obtain ⟨ad, e, p, rfl, hb, _⟩ := h 0 h0
    have hblk := hk ad.block hb rfl
    show (List.range n).map _ = (List.range n).map _
    refine List.map_congr_left fun i _ => ?_
    rw [World.cell?_of_block (w := w) (w' := w') (a := ad.add (i * 2)) (by rw [add_block]; exact hblk), World.cell?_of_block (w := w) (w' := w') (a := ⟨(ad.add (i * 2)).block, (ad.add (i * 2)).off + 1, none⟩) (by show w'.heap[(ad.add (i * 2)).block]? = w.heap[(ad.add (i * 2)).block]?; rw [add_block]; exact hblk)]
  · obtain rfl : n = 0 := by omega
    cases A <;> rfl
theorem pq_same {w w' : World} {B : Nat} {x : PtV} (h : ProcsAt w B x.pa x.pn) (hk : ∀ k, k < B → obk x.pa = some k → w'.heap[k]? = w.heap[k]?) : pq w' x = pq w x := by
  unfold pq
  rw [prL_same h hk]
/-- A table, as a row of nodes. -/
def ndT (t : TbV) : NdT := ⟨t.A, t.n, t.c, t.x :: t.k.flat⟩
theorem pq_flat (w : World) (P : List PtV) : (P.map (pq w)).flatMap pcq = P.flatMap pcl := by
  rw [List.flatMap_map]
  rfl
theorem RdB.pq {w : World} {B n : Nat} {A : Option Addr} {P : List PtV} (v : World) (h : RdB pcl w B A n P) : RdB pcq w B A n (P.map (pq v)) := ⟨by rw [List.length_map]; exact h.len, by rw [pq_flat]; exact h.rd⟩
theorem ndT_flat (T : List TbV) : (T.map ndT).flatMap tcn = T.flatMap tcl := by
  rw [List.flatMap_map]
  rfl
theorem RdB.ndt {w : World} {B n : Nat} {A : Option Addr} {T : List TbV} (h : RdB tcl w B A n T) : RdB tcn w B A n (T.map ndT) := ⟨by rw [List.length_map]; exact h.len, by rw [ndT_flat]; exact h.rd⟩
theorem PtAt.ax {w : World} {B : Nat} {x : PtV} (h : PtAt w B x) : PtAx w B (pq w x) := ⟨h.per, Nat.le_trans h.name (by omega), prL_rd h.procs⟩
theorem TbAt.nd {w : World} {B : Nat} {t : TbV} (h : TbAt w B t) : NdAt w B (ndT t) := ⟨h.rd, h.cap, Nat.le_trans h.few (by omega)⟩
theorem xright_pt (A1 A2 A3 : Option Addr) (n1 n2 n3 c1 c2 c3 : Nat) (P : List PtV) (C : List ChV) (T : List TbV) (w : World) (hP : RdB pcl w w.heap.size A1 n1 P) (hC : RdB cc w w.heap.size A2 n2 C) (hT : RdB tcl w w.heap.size A3 n3 T)
    (hp : ∀ x ∈ P, PtAt w w.heap.size x) (ht : ∀ t ∈ T, TbAt w w.heap.size t) :
    Calls Tryz.prog 36 #[.agg #[.slice A1 n1 c1, .slice A2 n2 c2, .slice A3 n3 c3]] w (Ans (.int .i64 (whereF (P.map (pq w)) C (T.map ndT)).1) w) :=
  xright_any A1 A2 A3 n1 n2 n3 c1 c2 c3 (P.map (pq w)) C (T.map ndT) w (hP.pq w) hC hT.ndt (fun x hx => by
    obtain ⟨y, hy, rfl⟩ := List.mem_map.1 hx
    exact (hp y hy).ax) (fun t ht' => by
    obtain ⟨y, hy, rfl⟩ := List.mem_map.1 ht'
    exact (ht y hy).nd)
/-- Nothing is asked, or all is right. -/
def DoneR (w : World) (P : List PtV) (C : List ChV) (T : List TbV) : Prop := (∀ x ∈ P, x.bud = 0 ∧ x.per = 0) ∨ (whereF (P.map (pq w)) C (T.map ndT)).1 = 0
/-- What is so of a tape's configuration: its names, actions, processes; its channels; its tables. -/
structure RtW (n1 : Nat) (P : List PtV) (C : List ChV) (T : List TbV) (w : World) : Prop where
  pt : ∀ x ∈ P, PtAt w w.heap.size x
  nm : ∀ i x, P[i]? = some x → x.name = nmL i ∧ HealP x ∧ (1 ≤ x.pn ∧ x.pn ≤ 2) ∧ x.pn ≤ x.pc
  ch : ∀ x ∈ C, ChOk n1 x ∧ (0 ≤ x.late ∧ x.late ≤ 4096) ∧ x.from_ ≠ x.to_ ∧ if x.queue = true then 1 ≤ x.cap ∧ x.cap ≤ 8 else x.cap = 0
  tq : ∀ t ∈ T, TbQ n1 t
  dn : DoneR w P C T
theorem core_at {P P' : List PtV} (h : P'.map coreP = P.map coreP) {i : Nat} {x' : PtV} (hx : P'[i]? = some x') : ∃ x, P[i]? = some x ∧ coreP x' = coreP x := by
  have h1 : (P'.map coreP)[i]? = some (coreP x') := by rw [List.getElem?_map, hx]; rfl
  rw [h, List.getElem?_map] at h1
  cases hp : P[i]? with
  | none => rw [hp] at h1; cases h1
  | some x => rw [hp] at h1; injection h1 with h1; exact ⟨x, rfl, h1.symm⟩
theorem core_mem {C C' : List ChV} (h : C'.map coreC = C.map coreC) {x' : ChV} (hx : x' ∈ C') : ∃ x ∈ C, coreC x' = coreC x := by
  have h1 : coreC x' ∈ C.map coreC := by rw [← h]; exact List.mem_map_of_mem hx
  obtain ⟨y, hy, e⟩ := List.mem_map.1 h1
  exact ⟨y, hy, e.symm⟩
section
variable {B b : Nat} {A : Option Addr} {m c : Nat} {f : Nat → Int} {w : World} {gr gc BB : Nat} {A1 A2 A3 : Option Addr} {n1 n2 n3 c1 c2 c3 : Nat} {P P' : List PtV} {C C' : List ChV} {T : List TbV} {wr w' : World}
theorem CfgS.rt (h : CfgS B b A m c f w gr gc BB A1 A2 A3 n1 n2 n3 c1 c2 c3 P C T wr) (hB : CfgB b w gr gc BB) (ho : Only (pO b A1 A2) wr w') (hpm : P'.map coreP = P.map coreP) (hcm : C'.map coreC = C.map coreC) (hi6 : ∀ x ∈ P', In64 x.per) (hlb : ∀ x ∈ C', 0 ≤ x.late ∧ x.late ≤ 4096)
    (hPN : PtsN P) (hCN : ∀ x ∈ C, ChNew n1 x) (hTQ : ∀ t ∈ T, TbQ n1 t) (hd : DoneR wr P' C' T) (v0 v1 v2 : Value) : RtW n1 P' C' T (set3 w' gr v0 v1 v2) := by
  have h1 := hB.br
  have h3 := hB.rc
  have h4 := hB.cB
  have hs : (set3 w' gr v0 v1 v2).heap.size = w'.heap.size := by simp [set3]
  have hset : ∀ k, k ≠ gr → (set3 w' gr v0 v1 v2).heap[k]? = w'.heap[k]? := fun k hk => by
    unfold set3
    rw [Below.heap_setCell _ _ _ _ hk, Below.heap_setCell _ _ _ _ hk, Below.heap_setCell _ _ _ _ hk]
  have hon : Only (fun k => pO b A1 A2 k ∨ k = gr) wr (set3 w' gr v0 v1 v2) := ⟨ho.os, ho.tape, ho.output, by rw [hs]; exact ho.size, fun k hk hn => (hset k fun e => hn (.inr e)).trans (ho.block k hk fun e => hn (.inl e))⟩
  have hnp : ∀ x ∈ P, ∀ k, obk x.pa = some k → ¬ (pO b A1 A2 k ∨ k = gr) := fun x hx k hk e => by
    have h5 := (h.pt x hx).2 k hk
    rcases e with (e | e | e) | e
    · omega
    · exact h5.2.2.1 e
    · exact h5.2.2.2.1 e
    · omega
  have key : ∀ x' ∈ P', ∃ i x, P'[i]? = some x' ∧ P[i]? = some x ∧ coreP x' = coreP x := fun x' hx => by
    obtain ⟨i, hi⟩ := List.getElem?_of_mem hx
    obtain ⟨x, h5, h6⟩ := core_at hpm hi
    exact ⟨i, x, hi, h5, h6⟩
  refine ⟨fun x' hx => ?_, fun i x' hx => ?_, fun x' hx => ?_, hTQ, ?_⟩
  · obtain ⟨i, x, _, hi, e⟩ := key x' hx
    have ea : x'.pa = x.pa := (show (coreP x').pa = (coreP x).pa from congrArg PtV.pa e)
    have en : x'.pn = x.pn := (show (coreP x').pn = (coreP x).pn from congrArg PtV.pn e)
    have em : x'.name = x.name := (show (coreP x').name = (coreP x).name from congrArg PtV.name e)
    have hxm := List.mem_of_getElem? hi
    have hp := (h.pt x hxm).1
    exact ⟨hi6 x' hx, by rw [em]; exact hp.name, by rw [en]; exact hp.few, by rw [ea, en]; exact hp.procs.only hon (hnp x hxm)⟩
  · obtain ⟨x, hi, e⟩ := core_at hpm hx
    obtain ⟨g1, _, _, g2, g3, g4⟩ := hPN i x hi
    have en : x'.pn = x.pn := (show (coreP x').pn = (coreP x).pn from congrArg PtV.pn e)
    have ec : x'.pc = x.pc := (show (coreP x').pc = (coreP x).pc from congrArg PtV.pc e)
    have em : x'.name = x.name := (show (coreP x').name = (coreP x).name from congrArg PtV.name e)
    have e0 : x'.h0 = x.h0 := (show (coreP x').h0 = (coreP x).h0 from congrArg PtV.h0 e)
    have e1 : x'.h1 = x.h1 := (show (coreP x').h1 = (coreP x).h1 from congrArg PtV.h1 e)
    have e2 : x'.h2 = x.h2 := (show (coreP x').h2 = (coreP x).h2 from congrArg PtV.h2 e)
    have e3 : x'.h3 = x.h3 := (show (coreP x').h3 = (coreP x).h3 from congrArg PtV.h3 e)
    have e4 : x'.h4 = x.h4 := (show (coreP x').h4 = (coreP x).h4 from congrArg PtV.h4 e)
    refine ⟨em.trans g1, ?_, by rw [en]; exact g3, by rw [en, ec]; exact g4⟩
    unfold HealP
    rw [e0, e1, e2, e3, e4]
    exact g2
  · obtain ⟨x, hxm, e⟩ := core_mem hcm hx
    obtain ⟨g1, _, g2, g3⟩ := hCN x hxm
    have e0 : x'.from_ = x.from_ := (show (coreC x').from_ = (coreC x).from_ from congrArg ChV.from_ e)
    have e1 : x'.to_ = x.to_ := (show (coreC x').to_ = (coreC x).to_ from congrArg ChV.to_ e)
    have e2 : x'.queue = x.queue := (show (coreC x').queue = (coreC x).queue from congrArg ChV.queue e)
    have e3 : x'.cap = x.cap := (show (coreC x').cap = (coreC x).cap from congrArg ChV.cap e)
    unfold ChOk at g1 ⊢
    rw [e0, e1, e2, e3]
    exact ⟨g1, hlb x' hx, g2, g3⟩
  · rcases hd with hd | hd
    · exact .inl hd
    · refine .inr ?_
      have e : P'.map (pq (set3 w' gr v0 v1 v2)) = P'.map (pq wr) := List.map_congr_left fun x' hx => by
        obtain ⟨i, x, _, hi, e⟩ := key x' hx
        have ea : x'.pa = x.pa := (show (coreP x').pa = (coreP x).pa from congrArg PtV.pa e)
        have en : x'.pn = x.pn := (show (coreP x').pn = (coreP x).pn from congrArg PtV.pn e)
        have hxm := List.mem_of_getElem? hi
        refine pq_same (B := wr.heap.size) (by rw [ea, en]; exact (h.pt x hxm).1.procs) fun k hk ek => hon.block k hk (hnp x hxm k (by rw [← ea]; exact ek))
      rw [e]
      exact hd
end
end Go.Proofs.YtebcfiifaclniaaGreat
