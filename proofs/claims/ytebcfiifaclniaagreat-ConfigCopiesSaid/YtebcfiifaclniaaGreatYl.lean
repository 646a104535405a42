/- ConfigTells: configurations are judged as the document says: the walk, under what package config and odd are to answer. -/
import Derived.Test.YtebcfiifaclniaaGreatYh
import Derived.Test.YtebcfiifaclniaaGreatYj
import Derived.Test.YtebcfiifaclniaaGreatLow4
namespace Go.Proofs.YtebcfiifaclniaaGreat
open Go.RowKit Tab
set_option linter.unusedSimpArgs false
set_option linter.unusedVariables false

/-- No more than so many of each. -/
structure SmX (m : Nat) (x : Cf) : Prop where
  p1 : 1 ≤ x.n1
  p2 : x.n1 ≤ m
  c : x.n2 ≤ m
  t : x.n3 ≤ m
  pr : ∀ y ∈ x.P, y.1.pn ≤ m
  nd : ∀ y ∈ x.T, y.n ≤ 1024 + m
/-- A configuration in a slot. -/
def OdV (m : Nat) (v : Value) (w : World) : Prop := ∃ y, v = cfv y ∧ CfR w y ∧ SmX m y
theorem OdV.on {m : Nat} {v : Value} {w w' : World} (h : OdV m v w) (hb : Below w.heap.size w w') : OdV m v w' := by
  obtain ⟨y, h1, h2, h3⟩ := h
  exact ⟨y, h1, h2.on hb, h3⟩
def OdA (m : Nat) (w : World) (e : Ending) (w' : World) : Prop := ∃ y, e = .returned (cfv y) ∧ CfR w' y ∧ SmX m y ∧ Below w.heap.size w w'
theorem In64.and (a : Int) (m : Nat) (hm : m < 9223372036854775808) : In64 (bits .and .i64 a (m : Int)) := by
  obtain ⟨M, hM, hle⟩ := and_mask a m hm
  rw [hM]
  unfold In64
  omega
/-- What a tape's configuration is, at the least. -/
structure TapeC : Prop where
  cfg : ∀ (A : Option Addr) (n cap : Nat) (f : Nat → Int) (w : World), RdC w w.heap.size A n (fun j => .int .i64 (f j)) → n ≤ 140737488351232 →
    Calls Tryz.prog 4 #[.pointer (some ⟨w.heap.size, 0, none⟩)] (w.alloc (.cells #[.slice A n cap, .int .i64 0] 30)) (fun e w' => ∃ y, e = .returned (cfv y) ∧ CfR w' y ∧ SmX 16 y ∧ Below w.heap.size w w')
end Go.Proofs.YtebcfiifaclniaaGreat
