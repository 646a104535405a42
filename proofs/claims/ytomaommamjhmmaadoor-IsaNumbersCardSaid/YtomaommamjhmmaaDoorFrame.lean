/- What the frame of each law stands on: an argument of bytes, as the walks take it; what the reach, or the bound on bulk, says of it. -/
import Derived.Test.YtomaommamjhmmaaDoorMem
import Derived.ProofKit
import Derived.OpenShut
import Derived.ChangeOld
import Derived.SizedLaws
import Derived.Deep.CondSized
import Derived.JoinedCond
namespace Go.Proofs.YtomaommamjhmmaaDoor
open Go.ChangeShapes Go.WideShapes Go.ChangeAt Go.RowKit

theorem own : ownKnob Tryd.prog.godebug = none := by kernel_rfl
theorem laidOut : laidOutB Tryd.prog = true := by kernel_rfl
theorem bytes_u8 : Tryd.prog.bytesOf 5 = 1 := by kernel_rfl

theorem u8_of (n : Int) (h : (Lit.int .u8 n).wf = true) : ((UInt8.ofNat n.toNat).toNat : Int) = n := by
  have hb := bounds_u8 h
  simp
  omega

theorem row_rd {w : World} {x : Addr} {l c : Nat} {zs : List Int} (hl : l ≤ c) (hz : zs.length = c) (hcell : ∀ i, i < zs.length → w.cell? (x.add i) = some (.int .u8 (zs.getD i 0))) (hwz : ∀ n ∈ zs, (Lit.int .u8 n).wf = true) :
    ∃ bl, Rd w w.heap.size (some x) l bl := by
  refine ⟨(zs.take l).map fun n => UInt8.ofNat n.toNat, by simp; omega, fun h0 => ⟨x, rfl, ?_, fun j hj => ?_⟩⟩
  · have h1 := hcell 0 (by omega)
    have h2 := World.block_lt_of_cell? w _ h1
    have e1 : (x.add 0).block = x.block := by unfold Addr.add; split <;> rfl
    rw [← e1]; exact h2
  · have hj' : j < l := by simp at hj; omega
    have hjz : j < zs.length := by omega
    rw [hcell j hjz]
    congr 2
    rw [List.getElem_map, List.getElem_take, u8_of _ (hwz _ (List.getElem_mem hjz))]
    simp [List.getD, List.getElem?_eq_getElem hjz]

theorem row_view {H : Type} {enc : TypeId × Value → H} {W : World} {A : Option Addr} {n k : Nat} {d : DataW H} {p : List MemPlace}
    (h : DataW.Trod enc Tryd.prog W 0 (fun _ => true) true 22 (.slice A n k) d p) :
    ∃ l, Rd W W.heap.size A n l ∧ n ≤ k ∧ (k = 0 ∨ ∃ elems spare, d = .slice elems spare ∧ elems.length + spare.length = k) := by
  obtain ⟨fuel, hf⟩ := h
  rcases open_ints Tryd.underlying22 Tryd.underlying5 (by kernel_rfl) hf with ⟨hcs, _⟩ | ⟨x, l, c, zs, hcs, _, hl, hm, hz, hx, hcell, hwz⟩
  · simp [Value.cells] at hcs
    obtain ⟨rfl, rfl, rfl⟩ := hcs
    exact ⟨[], rd_nil _ _, Nat.le_refl _, .inl rfl⟩
  · simp [Value.cells] at hcs
    obtain ⟨rfl, rfl, rfl⟩ := hcs
    have hz' : zs.length = k := by simpa using hz
    obtain ⟨bl, hr⟩ := row_rd hl hz' hcell hwz
    refine ⟨bl, hr, hl, .inr ⟨_, _, (Prod.mk.inj hx).1, ?_⟩⟩
    simp [lits]
    omega
theorem row_sized {H : Type} {enc : TypeId × Value → H} {W : World} {A : Option Addr} {n k : Nat} {d : DataW H} {p : List MemPlace}
    (h : DataW.Trod enc Tryd.prog W 0 (fun _ => true) true 22 (.slice A n k) d p)
    (hs : ∀ elems spare, d = .slice elems spare → (elems.length + spare.length) * Tryd.prog.bytesOf 5 ≤ reachBytes) :
    ∃ l, Rd W W.heap.size A n l ∧ n ≤ k ∧ k ≤ 140737488351232 := by
  obtain ⟨l, h1, h2, h3⟩ := row_view h
  refine ⟨l, h1, h2, ?_⟩
  rcases h3 with h3 | ⟨elems, spare, hd, hk⟩
  · omega
  · have := hs elems spare hd
    rw [bytes_u8, hk] at this
    simp only [reachBytes] at this
    omega
theorem bulk_one {H : Type} (d : DataW H) : 1 ≤ Rows.uptoBulk d := by
  cases d with
  | lit l => cases l <;> simp [Rows.uptoBulk]
  | _ => simp [Rows.uptoBulk]
theorem bulk_many {H : Type} (l : List (DataW H)) : l.length ≤ Rows.uptoBulkAll l := by
  induction l with
  | nil => simp [Rows.uptoBulkAll]
  | cons x r ih =>
    have := bulk_one x
    simp only [Rows.uptoBulkAll, List.length_cons]
    omega
theorem row_bulk {H : Type} {enc : TypeId × Value → H} {W : World} {A : Option Addr} {n k : Nat} {d : DataW H} {p : List MemPlace}
    (h : DataW.Trod enc Tryd.prog W 0 (fun _ => true) true 22 (.slice A n k) d p) (hs : Rows.uptoBulk d ≤ 1048576) :
    ∃ l, Rd W W.heap.size A n l ∧ n ≤ k ∧ k ≤ 1048576 := by
  obtain ⟨l, h1, h2, h3⟩ := row_view h
  refine ⟨l, h1, h2, ?_⟩
  rcases h3 with h3 | ⟨elems, spare, hd, hk⟩
  · omega
  · have e1 := bulk_many elems
    have e2 := bulk_many spare
    rw [hd] at hs
    simp only [Rows.uptoBulk] at hs
    omega

theorem str_is {H : Type} {enc : TypeId × Value → H} {W : World} {s : ByteArray} {d : DataW H} {p : List MemPlace}
    (h : DataW.Trod enc Tryd.prog W 0 (fun _ => true) true 9 (.string s) d p) : d = .lit (.string s.data.toList) := by
  obtain ⟨fuel, hf⟩ := h
  obtain ⟨s', h1, h2, h3⟩ := DataW.trod_string Tryd.underlying9 hf
  simp [Value.cells] at h1
  subst h1
  exact (Prod.mk.inj h2).1
theorem str_sized {H : Type} {enc : TypeId × Value → H} {W : World} {s : ByteArray} {d : DataW H} {p : List MemPlace}
    (h : DataW.Trod enc Tryd.prog W 0 (fun _ => true) true 9 (.string s) d p) (hs : ∀ bytes, d = .lit (.string bytes) → bytes.length ≤ reachBytes) : s.size ≤ 140737488351232 := by
  have := hs _ (str_is h)
  rw [Array.length_toList] at this
  simp only [reachBytes] at this
  exact this
theorem str_bulk {H : Type} {enc : TypeId × Value → H} {W : World} {s : ByteArray} {d : DataW H} {p : List MemPlace}
    (h : DataW.Trod enc Tryd.prog W 0 (fun _ => true) true 9 (.string s) d p) (hs : Rows.uptoBulk d ≤ 1048576) : s.size ≤ 1048576 := by
  rw [str_is h] at hs
  simp only [Rows.uptoBulk, Array.length_toList] at hs
  have : s.size = s.data.size := rfl
  omega
end Go.Proofs.YtomaommamjhmmaaDoor
