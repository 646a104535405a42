/- Rows of bytes that are read; a number held between two. -/
import Derived.Test.YtomaommamjhmmaaDoorRows
import Derived.WalkKit
import Derived.WalkSpells
import Derived.WalkLawsBesides
import Derived.Lib.Hide
namespace Go.Proofs.YtomaommamjhmmaaDoor
open Go.RowKit

/-- A slice at A, of n bytes, holds the bytes l; where it holds any it lies below block B. -/
def Rd (w : World) (B : Nat) (A : Option Addr) (n : Nat) (l : List UInt8) : Prop :=
  l.length = n ∧ (0 < n → ∃ ad, A = some ad ∧ ad.block < B ∧ ∀ j (h : j < l.length), w.cell? (ad.add j) = some (.int .u8 (l[j].toNat : Int)))

section
variable {w w' : World} {B B' n : Nat} {A : Option Addr} {l : List UInt8}
theorem Rd.at_ {k : Nat} (h : Rd w B A n l) (hk : k < n) : ∃ ad x, A = some ad ∧ ad.block < B ∧ l[k]? = some x ∧ w.cell? (ad.add k) = some (.int .u8 (x.toNat : Int)) := by
  obtain ⟨ad, e, hb, hc⟩ := h.2 (by omega)
  have hl : k < l.length := by have := h.1; omega
  exact ⟨ad, l[k], e, hb, List.getElem?_eq_getElem hl, hc k hl⟩
theorem Rd.keep (h : Rd w B A n l) (hk : ∀ p : Addr, p.block < B → w'.cell? p = w.cell? p) : Rd w' B A n l :=
  ⟨h.1, fun hn => by
    obtain ⟨ad, e, hb, hc⟩ := h.2 hn
    refine ⟨ad, e, hb, fun j hj => ?_⟩
    have e1 : (ad.add j).block = ad.block := by unfold Addr.add; split <;> rfl
    exact (hk _ (by rw [e1]; exact hb)).trans (hc j hj)⟩
theorem Rd.more (h : Rd w B A n l) (hB : B ≤ B') : Rd w B' A n l :=
  ⟨h.1, fun hn => by
    obtain ⟨ad, e, hb, hc⟩ := h.2 hn
    exact ⟨ad, e, by omega, hc⟩⟩
theorem Rd.below (h : Rd w B A n l) (hb : Below B w w') : Rd w' B A n l := h.keep fun _ hp => hb.cell hp
theorem Rd.drew (h : Rd w B A n l) : Rd w.drew B A n l := h
theorem Rd.alloc (h : Rd w B A n l) (hB : B ≤ w.heap.size) (o : Obj) : Rd (w.alloc o) B A n l := h.keep fun p hp => World.cell?_alloc_lt w o p (by omega)
end

section
variable {w : World} {B n : Nat} {l : List UInt8}
theorem Rd.front {A : Option Addr} (h : Rd w B A n l) (k : Nat) (hk : k ≤ n) : Rd w B A k (l.take k) := by
  refine ⟨by rw [List.length_take, h.1]; omega, fun h0 => ?_⟩
  obtain ⟨ad, e, hb, hc⟩ := h.2 (by omega)
  refine ⟨ad, e, hb, fun j hj => ?_⟩
  rw [List.length_take] at hj
  rw [List.getElem_take]
  exact hc j (by omega)
theorem Rd.back {ad : Addr} (h : Rd w B (some ad) n l) (k m : Nat) (hk : k + m = n) : Rd w B (some (ad.add k)) m (l.drop k) := by
  refine ⟨by rw [List.length_drop, h.1]; omega, fun h0 => ?_⟩
  obtain ⟨ad', e, hb, hc⟩ := h.2 (by omega)
  injection e with e
  subst e
  refine ⟨_, rfl, ?_, fun j hj => ?_⟩
  · have e1 : (ad.add k).block = ad.block := by unfold Addr.add; split <;> rfl
    rw [e1]; exact hb
  · rw [List.length_drop] at hj
    have e2 : (ad.add k).add j = ad.add (k + j) := by
      unfold Addr.add
      by_cases hi : k = 0 <;> by_cases hj : j = 0 <;> simp [hi, hj, Nat.add_assoc]
    rw [e2, List.getElem_drop]
    exact hc (k + j) (by omega)
theorem Rd.drewN {A : Option Addr} (h : Rd w B A n l) (q : Nat) : Rd (w.drewN q) B A n l := h
end
/-- Of a number whatever, held between 0 and m. -/
def Between (m : Nat) (w : World) (e : Ending) (w' : World) : Prop := ∃ k : Nat, k ≤ m ∧ e = .returned (.int .i64 k) ∧ w = w'
theorem between_mk (m : Nat) (w : World) (e : Ending) (z : Int) (h0 : 0 ≤ z) (h1 : z ≤ m) (he : e = .returned (.int .i64 z)) : Between m w e w :=
  ⟨z.toNat, by omega, by rw [he]; congr 2; omega, rfl⟩
theorem tmod_low (n : Int) (m : Nat) (h : n < 0) : -(m : Int) ≤ n.tmod (m + 1) ∧ n.tmod (m + 1) ≤ 0 := by
  have h1 : n.tmod (m + 1) = -((-n) % ((m : Int) + 1)) := by
    rw [Int.tmod_eq_emod_of_nonneg (a := -n) (by omega) |>.symm, Int.neg_tmod, Int.neg_neg]
  have h2 := Int.emod_nonneg (-n) (b := (m : Int) + 1) (by omega)
  have h3 := Int.emod_lt_of_pos (-n) (b := (m : Int) + 1) (by omega)
  omega
/-- A slice at A, of n cells, holds f; where it holds any it lies below block B. -/
def RdC (w : World) (B : Nat) (A : Option Addr) (n : Nat) (f : Nat → Value) : Prop :=
  0 < n → ∃ ad, A = some ad ∧ ad.block < B ∧ ∀ j, j < n → w.cell? (ad.add j) = some (f j)
section
variable {w w' : World} {B B' n : Nat} {A : Option Addr} {f : Nat → Value}
theorem RdC.at_ {k : Nat} (h : RdC w B A n f) (hk : k < n) : ∃ ad, A = some ad ∧ ad.block < B ∧ w.cell? (ad.add k) = some (f k) := by
  obtain ⟨ad, e, hb, hc⟩ := h (by omega)
  exact ⟨ad, e, hb, hc k hk⟩
theorem RdC.keep (h : RdC w B A n f) (hk : ∀ p : Addr, p.block < B → w'.cell? p = w.cell? p) : RdC w' B A n f := fun hn => by
  obtain ⟨ad, e, hb, hc⟩ := h hn
  refine ⟨ad, e, hb, fun j hj => ?_⟩
  have e1 : (ad.add j).block = ad.block := by unfold Addr.add; split <;> rfl
  exact (hk _ (by rw [e1]; exact hb)).trans (hc j hj)
theorem RdC.more (h : RdC w B A n f) (hB : B ≤ B') : RdC w B' A n f := fun hn => by
  obtain ⟨ad, e, hb, hc⟩ := h hn
  exact ⟨ad, e, by omega, hc⟩
theorem RdC.below (h : RdC w B A n f) (hb : Below B w w') : RdC w' B A n f := h.keep fun _ hp => hb.cell hp
end
end Go.Proofs.YtomaommamjhmmaaDoor
