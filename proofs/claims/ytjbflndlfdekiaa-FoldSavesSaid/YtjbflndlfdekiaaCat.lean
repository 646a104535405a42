/- Items laid one behind the other; a Seq of them; a Repeat of one. -/
import Derived.Test.YtjbflndlfdekiaaLvs
import Derived.Lib.AppendZerosOnto
import Derived.Lib.Walk
namespace Go.Proofs.Ytjbflndlfdekiaa
open Go.RowKit Tab
set_option linter.unusedSimpArgs false
set_option linter.unusedVariables false

/-- It answers a row of nodes of the call's own. -/
def Nods (l : List Nd) (w : World) (e : Ending) (w' : World) : Prop := ∃ A m c, e = .returned (.slice A m c) ∧ OwnN w' w.heap.size A m c l ∧ Below w.heap.size w w'
/-- It answers a row of nodes. -/
def RdNs (l : List Nd) (w : World) (e : Ending) (w' : World) : Prop := ∃ A m c, e = .returned (.slice A m c) ∧ RdN w' w'.heap.size A m l ∧ m ≤ c ∧ Below w.heap.size w w'
theorem Nods.rd {l : List Nd} {w w' : World} {e : Ending} (h : Nods l w e w') : RdNs l w e w' := by
  obtain ⟨A, m, c, rfl, ho, hb⟩ := h
  exact ⟨A, m, c, rfl, ho.rdn, ho.cap, hb⟩
theorem OwnN.nil0 (w : World) (B : Nat) : OwnN w B none 0 0 [] := ⟨rfl, OwnV.nil _ _ _ _, by simp⟩
set_option maxRecDepth 100000 in
set_option maxHeartbeats 1600000 in
theorem grow_any (k : Nat) (hk : k ≤ 1048576) (w : World) :
    Calls Try.prog 46 #[.slice none 0 0, .int .i64 (k : Int)] w (Nods [] w) := by
  by_cases h0 : 0 < k
  · obtain ⟨i, hi, hz, hs, hby⟩ := info_parts elN.hi
    have hold : (Builtin.firstCells i.size 0 (.slice none 0 0)).run Try.prog w.drew = .ok ([] : List Value).toArray w.drew := run_firstCells_none w.drew i.size 0 0 0
    have hge := grownCap_ge w (0 + k) 0 53
    have hle := grownCap_le_maxLen w (0 + k) 0 53 (by unfold maxLen; omega)
    have hrz : ∀ ty, (Builtin.append_ #[31, 3] ty #[.slice none 0 0, .int .i64 (k : Int)]).run Try.prog w = .ok (.slice (some ⟨w.heap.size, 0, none⟩) (0 + k) (grownCap w (0 + k) 0 53)) (w.drew.alloc (.cells (([] : List Value).toArray ++ Builtin.zeroCells (Value.agg #[.int .i64 0, .int .i64 0, .int .i64 0]).cells k ++ Builtin.zeroCells (Value.agg #[.int .i64 0, .int .i64 0, .int .i64 0]).cells (grownCap w (0 + k) 0 53 - (0 + k))) 53)) := fun ty =>
      Lib.run_append_grow_zeros w 31 3 ty 53 i _ .i64 .i64 elN.ht Try.underlying3 hi hz none 0 0 [] hold k h0 (by rw [hs]; omega) (by omega) (by omega) (by rw [hby]; omega) (by rw [hby]; exact growslice_fits (by omega) (by omega))
    simp only [Nat.zero_add] at hrz hge hle
    have hown : OwnN (w.drew.alloc (.cells (([] : List Value).toArray ++ Builtin.zeroCells (Value.agg #[.int .i64 0, .int .i64 0, .int .i64 0]).cells k ++ Builtin.zeroCells (Value.agg #[.int .i64 0, .int .i64 0, .int .i64 0]).cells (grownCap w k 0 53 - k)) 53)) w.heap.size (some ⟨w.heap.size, 0, none⟩) 0 (grownCap w k 0 53) [] := by
      refine ⟨rfl, ⟨rfl, .inr ⟨w.heap.size, _, _, rfl, Nat.le_refl _, heap_alloc_new w.drew _, Nat.zero_le _, hle, ?_, by simp [ns]⟩⟩, by simp⟩
      simp only [Array.size_append, List.size_toArray, size_zeroCells, List.length_nil]
      have : (Value.agg #[Value.int .i64 0, Value.int .i64 0, Value.int .i64 0]).cells.size = 3 := rfl
      rw [this]
      omega
    have hbel : Below w.heap.size w (w.drew.alloc (.cells (([] : List Value).toArray ++ Builtin.zeroCells (Value.agg #[.int .i64 0, .int .i64 0, .int .i64 0]).cells k ++ Builtin.zeroCells (Value.agg #[.int .i64 0, .int .i64 0, .int .i64 0]).cells (grownCap w k 0 53 - k)) 53)) := ((Below.refl _ _).drew).alloc (Nat.le_refl _) _
    have hmax : grownCap w k 0 53 ≤ 9223372036854775807 := by unfold maxLen at hle; omega
    generalize w.drew.alloc _ = W at hrz hown hbel
    generalize grownCap w k 0 53 = G at hrz hown hge hmax
    have HO := Lib.hid hown
    have HB := Lib.hid hbel
    clear hown hbel hold hle
    go_enter Try.func46, Try.ntmps46
    go_wp2_with (at_builtin; refine Lib.wpList_append_run _ rfl _ _ _ _ rfl _ _ rfl rfl _ _ (hrz _) ?_)
    go_ret
    exact ⟨_, 0, G, rfl, HO.out, HB.out⟩
  · obtain rfl : k = 0 := by omega
    go_enter Try.func46, Try.ntmps46
    go_wp2_with fail
    go_ret
    exact ⟨none, 0, 0, rfl, OwnN.nil0 _ _, Below.refl _ _⟩
theorem flat_more {I : Itr} {i : Nat} {x : List Nd} (h : I[i]? = some x) : (I.take (i + 1)).flatten = (I.take i).flatten ++ x := by
  obtain ⟨hi, e⟩ := List.getElem?_eq_some_iff.1 h
  rw [List.take_succ_eq_append_getElem hi, List.flatten_append, e]
  simp
theorem flat_len (I : Itr) : I.flatten.length = szI I := by
  induction I with
  | nil => rfl
  | cons x I ih => simp only [List.flatten_cons, List.length_append, szI, ih]
set_option maxRecDepth 100000 in
set_option maxHeartbeats 4000000 in
theorem concat_any (A : Option Addr) (n cap g : Nat) (I : Itr) (w : World) (h : RdL w w.heap.size g A n I) (hc : n ≤ cap) (hn : n ≤ 1048576) (hsz : szI I ≤ 1048576) :
    Calls Try.prog 35 #[.slice A n cap] w (Nods I.flatten w) := by
  generalize hS : szI I = S at hsz
  have HS := Lib.hid hS
  clear hS
  go_enter Try.func35, Try.ntmps35
  go_wp2_with fail
  go_loopw [3, 5, 11] (fun q _ s wr => ∃ i k : Nat, i ≤ n ∧ s = .int .i64 i ∧ q = .int .i64 k ∧ k = szI (I.take i) ∧ wr = w) (fun _ _ s _ => n - (intOf s).toNat)
  case atStart => exact ⟨0, 0, by omega, rfl, rfl, by simp [szI], rfl⟩
  case round =>
    obtain ⟨i, k, hi, rfl, rfl, hk, hw⟩ := hrel
    have hw' := hw.symm
    clear hw
    subst hw'
    have HK := Lib.hid hk
    clear hk
    by_cases hlt : i < n
    · obtain ⟨ad, x, A', c', rfl, had, hx, c0, hl, hr⟩ := h.at_ hlt
      have hm := szI_more hx
      have hle := szI_take I (i + 1)
      rw [HS.out] at hle
      have hk2 : k + x.length = szI (I.take (i + 1)) := by rw [hm, HK.out]
      have hb2 : k + x.length ≤ 1048576 := by omega
      have HK2 := Lib.hid hk2
      clear hm hle hk2 hx hr
      generalize x.length = m at c0 hl hb2 HK2
      have hnn : ¬ (k : Int) + (m : Int) < 0 := by omega
      go_wp2_with fail
      go_roundw
      case rel => exact ⟨i + 1, k + m, by omega, by go_num, by go_num, HK2.out, trivial⟩
      case measure => simp [intOf]; omega
    · have hge : n ≤ i := by omega
      have e : I.take i = I := List.take_of_length_le (by rw [h.len]; exact hge)
      have hk2 := HK.out
      rw [e, HS.out] at hk2
      subst hk2
      clear e HK
      go_wp2_with fail
      refine (grow_any k hsz w).mono ?_
      rintro e w1 ⟨A1, m1, c1, rfl, ho1, hb1⟩
      have hm1 : m1 = 0 := by have := ho1.len; simpa using this.symm
      subst hm1
      have hr1 := h.on hb1
      go_wp2_with fail
      go_loopw [6, 8, 27] (fun q _ s w2 => ∃ (j m2 c2 : Nat) (A2 : Option Addr), j ≤ n ∧ s = .int .i64 j ∧ q = .slice A2 m2 c2 ∧ OwnN w2 w.heap.size A2 m2 c2 (I.take j).flatten ∧ Below w.heap.size w w2) (fun _ _ s _ => n - (intOf s).toNat)
      case atStart => exact ⟨0, 0, c1, A1, by omega, rfl, rfl, by simpa using ho1, hb1⟩
      case round =>
        obtain ⟨j, m2, c2, A2, hj, rfl, rfl, ho2, hb2⟩ := hrel
        have HO2 := Lib.hid ho2
        clear ho2
        by_cases hlt : j < n
        · obtain ⟨ad, x, A', c', rfl, had, hx, c0, hl, hr⟩ := (h.on hb2).at_ hlt
          have hm := szI_more hx
          have hle := szI_take I (j + 1)
          rw [HS.out] at hle
          have hlen := HO2.out.len
          rw [flat_len] at hlen
          have hfm := flat_more hx
          have hB2 := hb2.size
          have hbm : m2 + x.length ≤ 1048576 := by omega
          have HIN := Lib.hid hr.bd
          have HFM := Lib.hid hfm
          have hrv := hr.rd
          have HX := Lib.hid hx
          have hox := HO2.out.own
          have HBD := Lib.hid HO2.out.bd
          clear hm hle hlen hfm hx hr HO2
          generalize hq : x.length = q at c0 hl hbm
          have HQ := Lib.hid hq
          clear hq
          go_wp2_with (at_builtin; go_loud (refine wpList_appV elN rfl (.tmp 31) (.tmp 32) rfl rfl w.heap.size A2 m2 c2 _ rfl hox A' q c' _ _ rfl hrv (by rw [ns_length, HQ.out]) (ns_one _) (by omega) (by unfold maxLen; omega) hB2 (m2 + q) rfl (ns ((I.take (j + 1)).flatten)) (by rw [HFM.out, ns_append]) ?_; intro A3 c3 w3 hw3 hb3 _))
          go_roundw
          case rel =>
            refine ⟨j + 1, m2 + q, c3, A3, by omega, by go_num, rfl, ⟨?_, hw3, ?_⟩, hb2.trans hb3⟩
            · have := OwnV.len hw3
              rw [ns_length] at this
              omega
            · intro y hy
              rw [HFM.out] at hy
              rcases List.mem_append.1 hy with hy | hy
              · exact HBD.out y hy
              · exact HIN.out y hy
          case measure => simp [intOf]; omega
        · have hge : n ≤ j := by omega
          have e : I.take j = I := List.take_of_length_le (by rw [h.len]; exact hge)
          have ho2 := HO2.out
          rw [e] at ho2
          have HO3 := Lib.hid ho2
          clear ho2 HO2 e
          go_wp2_with fail
          go_ret
          exact ⟨A2, m2, c2, rfl, HO3.out, hb2⟩
end Go.Proofs.Ytjbflndlfdekiaa
