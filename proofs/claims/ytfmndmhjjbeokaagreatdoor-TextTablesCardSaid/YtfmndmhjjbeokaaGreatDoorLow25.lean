import Derived.Test.YtfmndmhjjbeokaaGreatDoorLow8
import Derived.Test.YtfmndmhjjbeokaaGreatDoorLow24
import Derived.Test.YtfmndmhjjbeokaaGreatDoorLow10
import Derived.Test.YtfmndmhjjbeokaaGreatDoorLow3
import Derived.Deep.Cut
import Derived.Test.YtfmndmhjjbeokaaGreatDoorLow18
namespace Go.Proofs.YtfmndmhjjbeokaaGreatDoor
set_option maxRecDepth 100000
open Go.RowKit Tab Txt
set_option linter.unusedSimpArgs false
set_option linter.unusedVariables false
theorem Txt.bs_ext (l : List UInt8) (a b : Nat) : (bsOf l).extract a b = bsOf ((l.take b).drop a) := by
  apply ByteArray.ext
  rw [ByteArray.data_extract]
  show l.toArray.extract a b = ((l.take b).drop a).toArray
  rw [List.extract_toArray, List.extract_eq_take_drop, List.drop_take]
theorem Txt.bs_from (l : List UInt8) (a n : Nat) (h : l.length = n) : (bsOf l).extract a n = bsOf (l.drop a) := by
  rw [bs_ext, List.take_of_length_le (by omega)]
theorem Txt.bs_upto (l : List UInt8) (b : Nat) : (bsOf l).extract 0 b = bsOf (l.take b) := by
  rw [bs_ext]
  rfl
theorem Txt.ahead_split {p : UInt8 → Bool} {s : List UInt8} {i : Nat} (h : ∀ j, j < i → ∀ d, s[j]? = some d → p d = false) (hc : ∀ c, s[i]? = some c → p c = true) : aheadT p s = s.take i ∧ behindT p s = s.drop i := by
  have := ahead_at p (x := s.take i) (t := s.drop i) (fun c hc => by
    obtain ⟨j, hj⟩ := List.getElem?_of_mem hc
    have hj2 : j < i := by have := (List.getElem?_eq_some_iff.1 hj).1; rw [List.length_take] at this; omega
    rw [List.getElem?_take_of_lt hj2] at hj
    exact h j hj2 c hj) (fun c hcc => hc c (by rw [List.head?_drop] at hcc; exact hcc))
  rwa [List.take_append_drop] at this
def sc (x : List UInt8) : List Value := [.string (bsOf x)]
theorem sc_len (x : List UInt8) : (sc x).length = 1 := rfl
abbrev RdrC (B g : Nat) (s : List UInt8) (AN : Option Addr) (nn cn : Nat) (AO : Option Addr) (no co : Nat) (f p : Bool) (w : World) : Prop :=
  OwnV 150 5 w B (some ⟨g, 0, none⟩) 1 1 [.string (bsOf s), .slice AN nn cn, .slice AO no co, .bool f, .bool p]
end Go.Proofs.YtfmndmhjjbeokaaGreatDoor
namespace Go.Proofs.YtfmndmhjjbeokaaGreatDoor
open Go.RowKit Tab
set_option linter.unusedSimpArgs false
set_option linter.unusedVariables false
def chB (i b : Nat) : Bool := (decide (97 ≤ b) && decide (b ≤ 122)) || ((decide (48 ≤ b) && decide (b ≤ 57) || decide (b = 95)) && decide (i ≠ 0))
def byteN (s : ByteArray) (j : Nat) : Nat := if h : j < s.size then s[j].toNat else 0
def nameF (s : ByteArray) : Bool := (List.range s.size).all (fun j => chB j (byteN s j)) && (decide (1 ≤ s.size) && decide (s.size ≤ 12))
theorem nameF_bad {s : ByteArray} {i : Nat} (hi : i < s.size) (h : chB i (byteN s i) = false) : nameF s = false := by
  unfold nameF
  have : (List.range s.size).all (fun j => chB j (byteN s j)) = false := by
    rw [List.all_eq_false]
    exact ⟨i, List.mem_range.2 hi, by rw [h]; simp⟩
  rw [this]
  rfl
theorem nameF_end {s : ByteArray} (h : ∀ j, j < s.size → chB j (byteN s j) = true) : nameF s = (decide (1 ≤ s.size) && decide (s.size ≤ 12)) := by
  unfold nameF
  have : (List.range s.size).all (fun j => chB j (byteN s j)) = true := by
    rw [List.all_eq_true]
    exact fun j hj => h j (List.mem_range.1 hj)
  rw [this]
  rfl
def chanF (x : ChV) (n : Int) : Bool := (decide (0 ≤ x.from_) && (decide (x.from_ < n) && (decide (0 ≤ x.to_) && (decide (x.to_ < n) && (decide (x.from_ ≠ x.to_) && (decide (0 ≤ x.late) && decide (x.late ≤ 4096))))))) &&
  (x.queue && (decide (1 ≤ x.cap) && decide (x.cap ≤ 8)) || !x.queue && decide (x.cap = 0))
end Go.Proofs.YtfmndmhjjbeokaaGreatDoor
namespace Go.Proofs.YtfmndmhjjbeokaaGreatDoor
open Go.RowKit Tab
set_option linter.unusedSimpArgs false
set_option linter.unusedVariables false
def prcF (q : Int × Int) : Bool := (decide (0 ≤ q.1) && decide (q.1 < 512)) && (decide (0 ≤ q.2) && decide (q.2 ≤ 255))
def hlF (h : Int) : Bool := decide (0 ≤ h) && decide (h ≤ 2)
def pbF (b p : Int) : Bool := (decide (b = 0) && decide (p = 0)) || ((decide (1 ≤ b) && decide (b ≤ 4096)) && (decide (b ≤ p) && decide (p ≤ 4096)))
def hv5 (x : PtV) (j : Nat) : Int := if j = 0 then x.h0 else if j = 1 then x.h1 else if j = 2 then x.h2 else if j = 3 then x.h3 else x.h4
def partF (x : PtV) (L : List (Int × Int)) : Bool := (decide (1 ≤ x.pn) && decide (x.pn ≤ 3)) && (L.all prcF && ((List.range 5).all (fun j => hlF (hv5 x j)) && pbF x.bud x.per))
end Go.Proofs.YtfmndmhjjbeokaaGreatDoor
