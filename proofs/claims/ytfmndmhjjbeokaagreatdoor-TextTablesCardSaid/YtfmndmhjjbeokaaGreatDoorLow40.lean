import Derived.Test.YtfmndmhjjbeokaaGreatDoorLow39
import Derived.Test.YtfmndmhjjbeokaaGreatDoorLow28
import Derived.Test.YtfmndmhjjbeokaaGreatDoorLow23
import Derived.Deep.Cut
import Derived.Test.YtfmndmhjjbeokaaGreatDoorLow6
import Derived.Test.YtfmndmhjjbeokaaGreatDoorLow29
namespace Go.Proofs.YtfmndmhjjbeokaaGreatDoor
open Go.RowKit Tab
set_option linter.unusedSimpArgs false
set_option linter.unusedVariables false
structure SmX (m : Nat) (x : Cf) : Prop where
  p1 : 1 ≤ x.n1
  p2 : x.n1 ≤ m
  c : x.n2 ≤ m
  t : x.n3 ≤ m
  pr : ∀ y ∈ x.P, y.1.pn ≤ m
  nd : ∀ y ∈ x.T, y.n ≤ 1024 + m
def OdV (m : Nat) (v : Value) (w : World) : Prop := ∃ y, v = cfv y ∧ CfR w y ∧ SmX m y
theorem OdV.on {m : Nat} {v : Value} {w w' : World} (h : OdV m v w) (hb : Below w.heap.size w w') : OdV m v w' := by
  obtain ⟨y, h1, h2, h3⟩ := h
  exact ⟨y, h1, h2.on hb, h3⟩
theorem In64.and (a : Int) (m : Nat) (hm : m < 9223372036854775808) : In64 (bits .and .i64 a (m : Int)) := by
  obtain ⟨M, hM, hle⟩ := and_mask a m hm
  rw [hM]
  unfold In64
  omega
structure TapeC : Prop where
  cfg : ∀ (A : Option Addr) (n cap : Nat) (f : Nat → Int) (w : World), RdC w w.heap.size A n (fun j => .int .i64 (f j)) → n ≤ 140737488351232 →
    Calls Tryz.prog 8 #[.pointer (some ⟨w.heap.size, 0, none⟩)] (w.alloc (.cells #[.slice A n cap, .int .i64 0] 26)) (fun e w' => ∃ y, e = .returned (cfv y) ∧ CfR w' y ∧ SmX 16 y ∧ Below w.heap.size w w')
end Go.Proofs.YtfmndmhjjbeokaaGreatDoor
namespace Go.Proofs.YtfmndmhjjbeokaaGreatDoor
set_option maxRecDepth 100000
open Go.RowKit Tab Txt
set_option linter.unusedSimpArgs false
set_option linter.unusedVariables false
structure PrIn (y : Pq) : Prop where
  name : nameF y.1.name = true
  bud : 0 ≤ y.1.bud ∧ y.1.bud ≤ 4096
  per : 0 ≤ y.1.per ∧ y.1.per ≤ 4096
  few : 1 ≤ y.1.pn ∧ y.1.pn ≤ 3
  pr : ∀ q ∈ y.2, prcF q = true
  hl : ∀ j, 0 ≤ hv5 y.1 j ∧ hv5 y.1 j ≤ 2
theorem PrIn.of {P : List Pq} {k : Nat} {y : Pq} (hy : P[k]? = some y) (h : ptE P k = 0) : PrIn y := by
  have hk : ptW P k y = 0 := by unfold ptE at h; rw [hy] at h; exact h
  unfold ptW at hk
  split at hk
  · cases hk
  · rename_i hn
    split at hk
    · rename_i hp
      simp only [Bool.or_eq_true, Bool.not_eq_true', not_or] at hn
      unfold partF at hp
      simp only [Bool.and_eq_true, decide_eq_true_eq, List.all_eq_true, List.mem_range] at hp
      obtain ⟨h1, h2, h3, h4⟩ := hp
      unfold pbF at h4
      simp only [Bool.or_eq_true, Bool.and_eq_true, decide_eq_true_eq] at h4
      have hh : ∀ j, j < 5 → 0 ≤ hv5 y.1 j ∧ hv5 y.1 j ≤ 2 := fun j hj => by
        have := h3 j hj
        unfold hlF at this
        simpa only [Bool.and_eq_true, decide_eq_true_eq] using this
      refine ⟨by simpa using hn.1, by omega, by omega, h1, h2, fun j => ?_⟩
      rcases Nat.lt_or_ge j 5 with h | h
      · exact hh j h
      · have e : hv5 y.1 j = hv5 y.1 4 := by
          unfold hv5
          rw [if_neg (by omega), if_neg (by omega), if_neg (by omega), if_neg (by omega)]
          rfl
        rw [e]
        exact hh 4 (by omega)
    · cases hk
end Go.Proofs.YtfmndmhjjbeokaaGreatDoor
namespace Go.Proofs.YtfmndmhjjbeokaaGreatDoor
set_option maxRecDepth 100000
open Go.RowKit Tab Txt
set_option linter.unusedSimpArgs false
set_option linter.unusedVariables false
structure PcIn (n : Nat) (x : ChV) : Prop where
  fr : 0 ≤ x.from_ ∧ x.from_ < n
  tt : 0 ≤ x.to_ ∧ x.to_ < n
  cap : 0 ≤ x.cap ∧ x.cap ≤ 8
  max : 0 ≤ x.max ∧ x.max ≤ 4294967295
  late : 0 ≤ x.late ∧ x.late ≤ 4096
  q : x.queue = false → x.cap = 0
theorem PcIn.of {C : List ChV} {n k : Nat} {x : ChV} (hx : C[k]? = some x) (h : chE C n k = 0) (hm : 0 ≤ x.max ∧ x.max ≤ 4294967295) : PcIn n x := by
  unfold chE at h
  rw [hx] at h
  have h : (if chanF x (n : Int) = true then (0 : Int) else 17) = 0 := h
  split at h
  · rename_i h1
    unfold chanF at h1
    simp only [Bool.and_eq_true, Bool.or_eq_true, decide_eq_true_eq] at h1
    obtain ⟨⟨a1, a2, a3, a4, a5, a6, a7⟩, b⟩ := h1
    refine ⟨⟨a1, a2⟩, ⟨a3, a4⟩, ?_, hm, ⟨a6, a7⟩, fun e => ?_⟩
    · rcases b with ⟨_, b⟩ | ⟨_, b⟩ <;> omega
    · rcases b with ⟨b, _⟩ | ⟨_, b⟩
      · rw [e] at b; cases b
      · exact b
  · cases h
theorem txX_one (nm : Int → List UInt8) (x : Nd) (k : F) : txX nm (.cons x k .nil) false = txN nm x (txX nm k false) := by
  show [] ++ (txN nm x (txX nm k false) ++ []) = _
  simp
structure TsW (k : Nat) (W0 : World) (v3 : Value) (live : Nat → Bool) (a : Act) (w : World) : Prop where
  on : Below W0.heap.size W0 w
  t3 : live k = false → a.eval (.tmp 3) = v3
theorem TsW.upd {k : Nat} {W0 : World} {v3 : Value} {live : Nat → Bool} {a : Act} {w w' : World} (h : TsW k W0 v3 live a w) (hb : Below w.heap.size w w') (i : Nat) (d : Tmp) (v : Value) (hi : i ≠ k) (hd : d ≠ 3) : TsW k W0 v3 (Rgs.upd live i) (a.put (some d) v) w' := by
  have e : Rgs.upd live i k = live k := by unfold Rgs.upd; simp [Ne.symm hi]
  exact ⟨h.on.trans (hb.mono h.on.size), fun e2 => by rw [Reg.eval_other _ _ _ _ hd]; exact h.t3 (e ▸ e2)⟩
end Go.Proofs.YtfmndmhjjbeokaaGreatDoor
