/- A cursor in memory: from a node down to its first leaf. -/
import Derived.Test.YtknlhhbkahollaaLow3
namespace Go.Proofs.Ytknlhhbkahollaa
open Go.RowKit Tab
set_option linter.unusedSimpArgs false
set_option linter.unusedVariables false

/-- The cursor's table, below its block. -/
structure Tb (w : World) (b : Nat) (A : Option Addr) (n cap : Nat) (l : List Nd) : Prop where
  rd : RdN w b A n l
  cap : n ≤ cap
  hn : n ≤ 128
theorem RdN.gb {w w' : World} {b n : Nat} {A : Option Addr} {l : List Nd} (h : RdN w b A n l) (hb : b ≤ w.heap.size) (hg : w.grownBy w' (some b)) : RdN w' b A n l :=
  ⟨h.len, h.rd.keep fun p hp => World.cell?_of_block (hg.block p.block (by omega) (fun e => by injection e with e; omega)), h.bd⟩
theorem Tb.gb {w w' : World} {b n cap : Nat} {A : Option Addr} {l : List Nd} (h : Tb w b A n cap l) (hb : b ≤ w.heap.size) (hg : w.grownBy w' (some b)) : Tb w' b A n cap l := ⟨h.rd.gb hb hg, h.cap, h.hn⟩
theorem Tb.drewN {w : World} {b n cap : Nat} {A : Option Addr} {l : List Nd} (h : Tb w b A n cap l) (q : Nat) : Tb (w.drewN q) b A n cap l := ⟨⟨h.rd.len, h.rd.rd, h.rd.bd⟩, h.cap, h.hn⟩
def atOf (w : World) (b : Nat) : Nat := match w.cell? ⟨b, 34, none⟩ with
  | some (.int _ z) => z.toNat
  | _ => 0
theorem atOf_eq {w : World} {b : Nat} {c : Nat → Value} {d : Nat} (h : Blk w b c) (e : c 34 = .int .i64 (d : Int)) : atOf w b = d := by
  unfold atOf
  rw [(h 34 (by omega)).1, e]
  simp
/-- What enter leaves. -/
def Entd (b : Nat) (A : Option Addr) (n cap : Nat) (l : List Nd) (c : Nat → Value) (td : List Rn) (w : World) (e : Ending) (w' : World) : Prop :=
  e = .returned (.tuple #[]) ∧ ∃ (c' : Nat → Value) (st : List (Nat × Nat)) (p : Nat), Blk w' b c' ∧ PathC c' st ∧ c' 34 = .int .i64 (p : Int) ∧ c' 0 = c 0 ∧ c' 35 = c 35 ∧ c' 36 = c 36 ∧ AtL l st p td ∧ w.grownBy w' (some b)
end Go.Proofs.Ytknlhhbkahollaa
