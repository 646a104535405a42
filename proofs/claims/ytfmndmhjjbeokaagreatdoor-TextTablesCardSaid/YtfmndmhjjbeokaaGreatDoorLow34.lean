import Derived.Test.YtfmndmhjjbeokaaGreatDoorLow33
import Derived.Test.YtfmndmhjjbeokaaGreatDoorLow24
import Derived.Test.YtfmndmhjjbeokaaGreatDoorLow2
import Derived.Lib.BufferWrite
import Derived.Laws.MakeOwn
namespace Go.Proofs.YtfmndmhjjbeokaaGreatDoor
open Go.RowKit Tab
set_option linter.unusedSimpArgs false
set_option linter.unusedVariables false
theorem prcF_wi (e p : Int) : prcF (e, p) = (wiF e 0 511 && wiF p 0 255) := by
  unfold prcF wiF
  rw [show decide (e < 512) = decide (e ≤ 511) from decide_eq_decide.2 (by omega)]
def psF (n : Nat) (L : List (Int × Int)) : Bool := wiF (n : Int) 1 3 && L.all prcF
theorem wiF_nat (n a b : Nat) : wiF (n : Int) (a : Int) (b : Int) = (decide (a ≤ n) && decide (n ≤ b)) := by
  unfold wiF
  rw [show decide ((a : Int) ≤ (n : Int)) = decide (a ≤ n) from decide_eq_decide.2 (by omega), show decide ((n : Int) ≤ (b : Int)) = decide (n ≤ b) from decide_eq_decide.2 (by omega)]
theorem partF_parts (x : PtV) (L : List (Int × Int)) : partF x L = (psF x.pn L && ((List.range 5).all (fun j => hlF (hv5 x j)) && pbF x.bud x.per)) := by
  unfold partF psF
  rw [show wiF (x.pn : Int) 1 3 = (decide (1 ≤ x.pn) && decide (x.pn ≤ 3)) from wiF_nat x.pn 1 3, Bool.and_assoc, Bool.and_assoc, Bool.and_assoc]
set_option maxRecDepth 100000 in
set_option maxHeartbeats 4000000 in
theorem procs_any (A : Option Addr) (n c : Nat) (L : List (Int × Int)) (w : World) (h : RdB prc w w.heap.size A n L) :
    Calls Tryz.prog 121 #[.slice A n c] w (Ans (.bool (psF n L)) w) := by
  have HBAD : Hid (∀ (i : Nat) q, L[i]? = some q → prcF q = false → psF n L = false) := Lib.hid fun i q hq h => by
    unfold psF
    have : L.all prcF = false := by
      rw [List.all_eq_false]
      exact ⟨q, List.mem_of_getElem? hq, by rw [h]; simp⟩
    rw [this, Bool.and_false]
  have HEND : Hid (wiF (n : Int) 1 3 = true → (∀ (i : Nat) q, L[i]? = some q → prcF q = true) → psF n L = true) := Lib.hid fun h1 h => by
    unfold psF
    have : L.all prcF = true := by
      rw [List.all_eq_true]
      intro q hq
      obtain ⟨i, hi⟩ := List.getElem?_of_mem hq
      exact h i q hi
    rw [h1, this]
    rfl
  have HFEW : Hid (wiF (n : Int) 1 3 = false → psF n L = false) := Lib.hid fun h => by unfold psF; rw [h]; rfl
  have HN3 : Hid (wiF (n : Int) 1 3 = true → n ≤ 3) := Lib.hid fun h => by
    rw [show wiF (n : Int) 1 3 = (decide (1 ≤ n) && decide (n ≤ 3)) from wiF_nat n 1 3] at h
    simp at h
    exact h.2
  generalize psF n L = v at HBAD HEND HFEW ⊢
  have HW := Lib.hid (wi_any (n : Int) 1 3)
  have HWI := Lib.hid fun x b V => wi_any x 0 b V
  have HR := Lib.hid h
  clear h
  go_enter Tryz.func121, Tryz.ntmps121
  cases hq : wiF (n : Int) 1 3 with
  | false =>
    rw [hq] at HW
    have HV := Lib.hid (HFEW.out hq)
    clear HBAD HEND HFEW HN3 HWI HR hq
    go_wp2_with fail
    refine (HW.out _).mono ?_
    rintro e w5 ⟨rfl, rfl⟩
    go_wp2_with fail
    go_ret
    exact Ans.mk (by rw [HV.out]; rfl) (Below.refl _ _)
  | true =>
    rw [hq] at HW
    have hn3 := HN3.out hq
    have HE := Lib.hid (HEND.out hq)
    clear HEND HFEW HN3 hq
    go_wp2_with fail
    refine (HW.out _).mono ?_
    rintro e w5 ⟨rfl, rfl⟩
    go_wp2_with fail
    go_loopw [4, 11] (fun _ s wr => ∃ i : Nat, i ≤ n ∧ s = .int .i64 i ∧ (∀ (j : Nat) (q : Int × Int), j < i → L[j]? = some q → prcF q = true) ∧ Below w.heap.size w wr) (fun _ s _ => n - (intOf s).toNat)
    case atStart => exact ⟨0, by omega, rfl, fun j q hj => by omega, Below.refl _ _⟩
    case round =>
      obtain ⟨i, hi, rfl, hok, hb⟩ := hrel
      have HOK := Lib.hid hok
      clear hok
      by_cases hlt : i < n
      · obtain ⟨ad, q, rfl, had, hx, c0, ck⟩ := (HR.out.on hb).at_ prc_len (by omega) hlt
        have d0 := c0 _ rfl
        have d1 := ck 1 _ (by omega) rfl
        obtain ⟨e, p⟩ := q
        dsimp only at d0 d1
        have HNX : Hid (prcF (e, p) = true → ∀ (j : Nat) (q : Int × Int), j < i + 1 → L[j]? = some q → prcF q = true) := Lib.hid fun h j q hj hq => by
          rcases Nat.lt_or_ge j i with h5 | h5
          · exact HOK.out j q h5 hq
          · obtain rfl : j = i := by omega
            rw [hx] at hq
            injection hq with hq
            rw [← hq]
            exact h
        have HBD := Lib.hid (HBAD.out i _ hx)
        have HB := Lib.hid (hb.trans ((bl1 wr (.cells #[.int .i64 e, .int .i64 p] 62)).mono hb.size))
        have HPF := Lib.hid (prcF_wi e p)
        have H1 := Lib.hid (HWI.out e 511)
        have H2 := Lib.hid (HWI.out p 255)
        generalize wiF e 0 511 = q1 at HPF H1
        generalize wiF p 0 255 = q2 at HPF H2
        clear c0 ck hx HOK HBAD HE HWI hb
        cases q1 with
        | false =>
          have HV := Lib.hid (HBD.out (by rw [HPF.out]; rfl))
          clear HBD HPF HNX
          go_wp2_with fail
          refine (H1.out _).mono ?_
          rintro e w5 ⟨rfl, rfl⟩
          go_wp2_with fail
          go_ret
          exact Ans.mk (by rw [HV.out]; rfl) HB.out
        | true =>
          go_wp2_with fail
          refine (H1.out _).mono ?_
          rintro e w5 ⟨rfl, rfl⟩
          go_wp2_with fail
          refine (H2.out _).mono ?_
          rintro e w5 ⟨rfl, rfl⟩
          cases q2 with
          | false =>
            have HV := Lib.hid (HBD.out (by rw [HPF.out]; rfl))
            clear HBD HPF HNX
            go_wp2_with fail
            go_ret
            exact Ans.mk (by rw [HV.out]; rfl) HB.out
          | true =>
            have HN := Lib.hid (HNX.out (by rw [HPF.out]; rfl))
            clear HBD HPF HNX
            go_wp2_with fail
            go_roundw
            case rel => exact ⟨i + 1, by omega, by go_num, HN.out, HB.out⟩
            case measure => simp [intOf]; omega
      · have hge : n ≤ i := by omega
        have HV := Lib.hid (HE.out fun j q hq => HOK.out j q (by have := (List.getElem?_eq_some_iff.1 hq).1; have := HR.out.len; omega) hq)
        clear HOK HE HBAD HWI
        go_wp2_with fail
        go_ret
        exact Ans.mk (by rw [HV.out]; rfl) hb
theorem chanF_wi (f t c m l n : Int) (q : Bool) : chanF ⟨f, t, q, c, m, l⟩ n = (wiF f 0 (n - 1) && (wiF t 0 (n - 1) && (!decide (f = t) && (wiF l 0 4096 && if q = true then wiF c 1 8 else decide (c = 0))))) := by
  unfold chanF wiF
  dsimp only
  rw [show decide (f < n) = decide (f ≤ n - 1) from decide_eq_decide.2 (by omega), show decide (t < n) = decide (t ≤ n - 1) from decide_eq_decide.2 (by omega)]
  generalize decide (0 ≤ f) = b1
  generalize decide (f ≤ n - 1) = b2
  generalize decide (0 ≤ t) = b3
  generalize decide (t ≤ n - 1) = b4
  rw [show decide (f ≠ t) = !decide (f = t) from by simp]
  generalize decide (f = t) = b5
  generalize decide (0 ≤ l) = b6
  generalize decide (l ≤ 4096) = b7
  generalize decide (1 ≤ c) = b8
  generalize decide (c ≤ 8) = b9
  generalize decide (c = 0) = b10
  cases q <;> cases b1 <;> cases b2 <;> cases b3 <;> cases b4 <;> cases b5 <;> cases b6 <;> cases b7 <;> simp
set_option maxRecDepth 100000 in
set_option maxHeartbeats 4000000 in
theorem chn_any (x : ChV) (n : Nat) (hn : n ≤ 1048576) (w : World) : Calls Tryz.prog 95 #[cv x, .int .i64 (n : Int)] w (Ans (.bool (chanF x n)) w) := by
  obtain ⟨f, t, q, c, m, l⟩ := x
  have HV := Lib.hid (chanF_wi f t c m l n q)
  generalize chanF ⟨f, t, q, c, m, l⟩ (n : Int) = v at HV ⊢
  have H1 := Lib.hid (wi_any f 0 ((n : Int) - 1))
  have H2 := Lib.hid (wi_any t 0 ((n : Int) - 1))
  have H3 := Lib.hid (wi64_any l 0 4096)
  have H4 := Lib.hid (wi_any c 1 8)
  generalize wiF f 0 ((n : Int) - 1) = q1 at H1 HV
  generalize wiF t 0 ((n : Int) - 1) = q2 at H2 HV
  generalize wiF l 0 4096 = q3 at H3 HV
  generalize wiF c 1 8 = q4 at H4 HV
  have hw : IntKind.i64.wrap ((n : Int) - 1) = (n : Int) - 1 := by
    exact IntWalk.i64_in _ (by omega)
  have HB := Lib.hid (bl1 w (.cells #[.int .i64 f, .int .i64 t, .bool q, .int .i64 c, .int .u32 m, .int .i64 l] 66))
  have hcell : ∀ o v, (#[Value.int .i64 f, .int .i64 t, .bool q, .int .i64 c, .int .u32 m, .int .i64 l] : Array Value)[o]? = some v → (w.alloc (.cells #[.int .i64 f, .int .i64 t, .bool q, .int .i64 c, .int .u32 m, .int .i64 l] 66)).cell? ⟨w.heap.size, o, none⟩ = some v := fun o v hv => (World.cell?_alloc_mark _ _ _ _ _).trans hv
  have m0 := hcell 0 _ rfl
  have m1 := hcell 1 _ rfl
  have m2 := hcell 2 _ rfl
  have m3 := hcell 3 _ rfl
  have m5 := hcell 5 _ rfl
  clear hcell
  go_enter Tryz.func95, Tryz.ntmps95
  go_upto_region 1 with fail
  generalize w.alloc (.cells #[.int .i64 f, .int .i64 t, .bool q, .int .i64 c, .int .u32 m, .int .i64 l] 66) = W at HB m0 m1 m2 m3 m5 ⊢
  generalize w.heap.size = g at m0 m1 m2 m3 m5 ⊢
  cases q1 with
  | false =>
    have E : Hid (v = false) := Lib.hid (by rw [HV.out]; rfl)
    clear HV
    go_wp2_with fail
    refine (H1.out _).mono ?_
    rintro e w5 ⟨rfl, rfl⟩
    go_wp2_with fail
    go_ret
    exact Ans.mk (by rw [E.out]; rfl) HB.out
  | true =>
  go_wp2_with fail
  refine (H1.out _).mono ?_
  rintro e w5 ⟨rfl, rfl⟩
  go_wp2_with fail
  refine (H2.out _).mono ?_
  rintro e w5 ⟨rfl, rfl⟩
  cases q2 with
  | false =>
    have E : Hid (v = false) := Lib.hid (by rw [HV.out]; rfl)
    clear HV
    go_wp2_with fail
    go_ret
    exact Ans.mk (by rw [E.out]; rfl) HB.out
  | true =>
  by_cases hft : f = t
  · have E : Hid (v = false) := Lib.hid (by rw [HV.out, decide_eq_true hft]; rfl)
    have i1 : (f == t) = true := beq_iff_eq.2 hft
    clear HV hft
    go_wp2_with fail
    go_ret
    exact Ans.mk (by rw [E.out]; rfl) HB.out
  have i1 : (f == t) = false := beq_eq_false_iff_ne.2 hft
  have HV2 : Hid (v = (q3 && if q = true then q4 else decide (c = 0))) := Lib.hid (by rw [HV.out, decide_eq_false hft]; rfl)
  clear HV hft
  go_wp2_with fail
  refine (H3.out _).mono ?_
  rintro e w5 ⟨rfl, rfl⟩
  cases q3 with
  | false =>
    have E : Hid (v = false) := Lib.hid (by rw [HV2.out]; rfl)
    clear HV2
    go_wp2_with fail
    go_ret
    exact Ans.mk (by rw [E.out]; rfl) HB.out
  | true =>
  cases q with
  | true =>
    have E : Hid (v = q4) := Lib.hid (by rw [HV2.out]; rfl)
    clear HV2
    go_wp2_with fail
    refine (H4.out _).mono ?_
    rintro e w5 ⟨rfl, rfl⟩
    go_wp2_with fail
    go_ret
    exact Ans.mk (by rw [E.out]; rfl) HB.out
  | false =>
    by_cases hc : c = 0
    · have E : Hid (v = true) := Lib.hid (by rw [HV2.out, decide_eq_true hc]; rfl)
      have i2 : (c == 0) = true := beq_iff_eq.2 hc
      clear HV2 hc
      go_wp2_with fail
      go_ret
      exact Ans.mk (by rw [E.out]; rfl) HB.out
    · have E : Hid (v = false) := Lib.hid (by rw [HV2.out, decide_eq_false hc]; rfl)
      have i2 : (c == 0) = false := beq_eq_false_iff_ne.2 hc
      clear HV2 hc
      go_wp2_with fail
      go_ret
      exact Ans.mk (by rw [E.out]; rfl) HB.out
theorem RdB.tak {α : Type} {f : α → List Value} {w : World} {B n : Nat} {A : Option Addr} {l : List α} (h : RdB f w B A n l) {i : Nat} (hi : i ≤ n) : RdB f w B A i (l.take i) := by
  refine ⟨by rw [List.length_take, h.len]; omega, fun h0 => ?_⟩
  have e : l.flatMap f = (l.take i).flatMap f ++ (l.drop i).flatMap f := by rw [← List.flatMap_append, List.take_append_drop]
  obtain ⟨ad, h1, h2, h3⟩ := h.rd (by rw [e, List.length_append]; omega)
  refine ⟨ad, h1, h2, fun j v hj => h3 j v ?_⟩
  rw [e, List.getElem?_append_left (List.getElem?_eq_some_iff.1 hj).1]
  exact hj
set_option maxRecDepth 100000 in
set_option maxHeartbeats 4000000 in
theorem named_any (A : Option Addr) (n c : Nat) (P : List Pq) (nm : ByteArray) (w : World) (h : RdB pcq w w.heap.size A n P) (hn : n ≤ 1048576) :
    Calls Tryz.prog 120 #[.slice A n c, .string nm] w (Ans (.bool (P.any fun y => decide (y.1.name = nm))) w) := by
  have HYES : Hid (∀ (i : Nat) y, P[i]? = some y → decide (y.1.name = nm) = true → (P.any fun y => decide (y.1.name = nm)) = true) := Lib.hid fun i y hy h => List.any_eq_true.2 ⟨y, List.mem_of_getElem? hy, h⟩
  have HNO : Hid ((∀ (i : Nat) y, P[i]? = some y → decide (y.1.name = nm) = false) → (P.any fun y => decide (y.1.name = nm)) = false) := Lib.hid fun h => by
    rw [List.any_eq_false]
    intro y hy
    obtain ⟨k, hk⟩ := List.getElem?_of_mem hy
    rw [h k y hk]
    decide
  generalize (P.any fun y => decide (y.1.name = nm)) = v at HYES HNO ⊢
  have HR := Lib.hid h
  clear h
  go_enter Tryz.func120, Tryz.ntmps120
  go_wp2_with fail
  go_loopw [6, 9] (fun _ s wr => ∃ i : Nat, i ≤ n ∧ s = .int .i64 i ∧ (∀ (j : Nat) (y : Pq), j < i → P[j]? = some y → decide (y.1.name = nm) = false) ∧ Below w.heap.size w wr) (fun _ s _ => n - (intOf s).toNat)
  case atStart => exact ⟨0, by omega, rfl, fun j q hj => by omega, Below.refl _ _⟩
  case round =>
    obtain ⟨i, hi, rfl, hok, hb⟩ := hrel
    have HOK := Lib.hid hok
    clear hok
    by_cases hlt : i < n
    · obtain ⟨ad, y, rfl, had, hx, c0, ck⟩ := (HR.out.on hb).at_ pcq_len (by omega) hlt
      have d0 := c0 _ rfl
      have d1 := ck 1 _ (by omega) rfl
      have d2 := ck 2 _ (by omega) rfl
      have d3 := ck 3 _ (by omega) rfl
      have d4 := ck 4 _ (by omega) rfl
      have d5 := ck 5 _ (by omega) rfl
      have d6 := ck 6 _ (by omega) rfl
      have d7 := ck 7 _ (by omega) rfl
      have d8 := ck 8 _ (by omega) rfl
      have d9 := ck 9 _ (by omega) rfl
      have d10 := ck 10 _ (by omega) rfl
      have HNX : Hid (decide (y.1.name = nm) = false → ∀ (j : Nat) (y : Pq), j < i + 1 → P[j]? = some y → decide (y.1.name = nm) = false) := Lib.hid fun h j q hj hq => by
        rcases Nat.lt_or_ge j i with h5 | h5
        · exact HOK.out j q h5 hq
        · obtain rfl : j = i := by omega
          rw [hx] at hq
          injection hq with hq
          rw [← hq]
          exact h
      have HBD := Lib.hid (HYES.out i y hx)
      obtain ⟨⟨nm2, bu, pe, sc, st, pa, pn, pc, h0, h1, h2, h3, h4⟩, L⟩ := y
      dsimp only at d0 d1 d2 d3 d4 d5 d6 d7 d8 d9 d10 HNX HBD
      have HB := Lib.hid (hb.trans ((bl1 wr (.cells #[.string nm2, .int .i64 bu, .int .i64 pe, .bool sc, .bool st, .slice pa pn pc, .int .i64 h0, .int .i64 h1, .int .i64 h2, .int .i64 h3, .int .i64 h4] 60)).mono hb.size))
      clear c0 ck hx HOK HYES HNO hb
      cases hq : decide (nm2 = nm) with
      | true =>
        have hqd : (nm2.toList == nm.toList) = true := bs_eq_of hq
        have HV := Lib.hid (HBD.out hq)
        clear HNX HBD hq
        go_wp2_with fail
        go_ret
        exact Ans.mk (by rw [HV.out]; rfl) HB.out
      | false =>
        have hqd : (nm2.toList == nm.toList) = false := bs_eq_of hq
        have HN := Lib.hid (HNX.out hq)
        clear HNX HBD hq
        go_wp2_with fail
        go_roundw
        case rel => exact ⟨i + 1, by omega, by go_num, HN.out, HB.out⟩
        case measure => simp [intOf]; omega
    · have hge : n ≤ i := by omega
      have HV := Lib.hid (HNO.out fun j q hq => HOK.out j q (by have := (List.getElem?_eq_some_iff.1 hq).1; have := HR.out.len; omega) hq)
      clear HOK HYES HNO
      go_wp2_with fail
      go_ret
      exact Ans.mk (by rw [HV.out]; rfl) hb
set_option maxRecDepth 100000 in
set_option maxHeartbeats 4000000 in
theorem fw_any (A1 A2 A3 : Option Addr) (n1 n2 n3 c1 c2 c3 : Nat) (w : World) :
    Calls Tryz.prog 93 #[.agg #[.slice A1 n1 c1, .slice A2 n2 c2, .slice A3 n3 c3]] w (Ans (.bool (wiF (n1 : Int) 1 6 && (decide (n2 ≤ 8) && wiF (n3 : Int) 1 3))) w) := by
  have HB := Lib.hid (bl1 w (.cells #[.slice A1 n1 c1, .slice A2 n2 c2, .slice A3 n3 c3] 31))
  have m0 : (w.alloc (.cells #[.slice A1 n1 c1, .slice A2 n2 c2, .slice A3 n3 c3] 31)).cell? ⟨w.heap.size, 0, none⟩ = some (.slice A1 n1 c1) := World.cell?_alloc_mark _ _ _ _ _
  have m1 : (w.alloc (.cells #[.slice A1 n1 c1, .slice A2 n2 c2, .slice A3 n3 c3] 31)).cell? ⟨w.heap.size, 1, none⟩ = some (.slice A2 n2 c2) := World.cell?_alloc_mark _ _ _ _ _
  have m2 : (w.alloc (.cells #[.slice A1 n1 c1, .slice A2 n2 c2, .slice A3 n3 c3] 31)).cell? ⟨w.heap.size, 2, none⟩ = some (.slice A3 n3 c3) := World.cell?_alloc_mark _ _ _ _ _
  have H1 := Lib.hid (wi_any (n1 : Int) 1 6)
  have H2 := Lib.hid (wi_any (n3 : Int) 1 3)
  generalize wiF (n1 : Int) 1 6 = q1 at H1 ⊢
  generalize wiF (n3 : Int) 1 3 = q2 at H2 ⊢
  have HDT := Lib.hid (fun h => decide_eq_true h : n2 ≤ 8 → decide (n2 ≤ 8) = true)
  have HDF := Lib.hid (fun h => decide_eq_false h : ¬ n2 ≤ 8 → decide (n2 ≤ 8) = false)
  generalize decide (n2 ≤ 8) = d at HDT HDF ⊢
  go_enter Tryz.func93, Tryz.ntmps93
  go_upto_region 1 with fail
  generalize w.alloc (.cells #[.slice A1 n1 c1, .slice A2 n2 c2, .slice A3 n3 c3] 31) = W at HB m0 m1 m2 ⊢
  generalize w.heap.size = g at m0 m1 m2 ⊢
  cases q1 with
  | false =>
    go_wp2_with fail
    refine (H1.out _).mono ?_
    rintro e w5 ⟨rfl, rfl⟩
    go_wp2_with fail
    go_ret
    exact Ans.mk rfl HB.out
  | true =>
  by_cases h2 : n2 ≤ 8
  · have h2' : (n2 : Int) ≤ 8 := by omega
    obtain rfl := HDT.out h2
    clear h2 HDT HDF
    go_wp2_with fail
    refine (H1.out _).mono ?_
    rintro e w5 ⟨rfl, rfl⟩
    go_wp2_with fail
    refine (H2.out _).mono ?_
    rintro e w5 ⟨rfl, rfl⟩
    go_wp2_with fail
    go_ret
    exact Ans.mk rfl HB.out
  · have h2' : ¬ (n2 : Int) ≤ 8 := by omega
    obtain rfl := HDF.out h2
    clear h2 HDT HDF
    go_wp2_with fail
    refine (H1.out _).mono ?_
    rintro e w5 ⟨rfl, rfl⟩
    go_wp2_with fail
    go_ret
    exact Ans.mk rfl HB.out
end Go.Proofs.YtfmndmhjjbeokaaGreatDoor
namespace Go.Proofs.YtfmndmhjjbeokaaGreatDoor
open Go.RowKit Tab
set_option linter.unusedSimpArgs false
set_option linter.unusedVariables false
theorem infoB : (Tryz.prog.info? 5).map (fun i => (i.zero, i.size, i.bytes)) = some (some (.int .u8 0), 1, 1) := by kernel_rfl
set_option maxRecDepth 100000 in
set_option maxHeartbeats 1000000 in
theorem sclone_any (s : ByteArray) (w : World) (hs : s.size ≤ 140737488351232) : Calls Tryz.prog 151 #[.string s] w (Ans (.string s) w) := by
  by_cases h0 : s.size = 0
  · obtain rfl : s = ⟨#[]⟩ := ByteArray.ext (Array.eq_empty_of_size_eq_zero h0)
    go_enter Tryz.func151, Tryz.ntmps151
    go_wp2_with fail
    go_ret
    exact Ans.mk rfl (Below.refl _ _)
  obtain ⟨i0, hi, hz0, hz1, hz2⟩ := info_parts infoB
  have hinfo : (Tryz.prog.info? 5).map (·.size) = some 1 := by rw [hi]; simp [hz1]
  have hco : Tryz.prog.cellsOf 5 = 1 := by kernel_rfl
  obtain ⟨M, hM⟩ : ∃ M, M = madeCells (Value.int .u8 0).cells (((s.size : Nat) : Int).toNat * i0.size) := ⟨_, rfl⟩
  have hMs : M.size = s.size := by rw [hM, size_madeCells, hz1]; simp
  have hmk : ∀ W : World, (Instr.makeSlice 38 (.int .i64 (s.size : Int)) (.int .i64 (s.size : Int))).run Tryz.prog W = .ok (.slice (some ⟨W.heap.size, 0, none⟩) s.size s.size) (W.alloc (.cells M 5)) := fun W => by
    have h := run_make (P := Tryz.prog) W 38 5 i0 (.int .u8 0) Tryz.underlying38 hi hz0 .i64 .i64 (s.size : Int) (s.size : Int) (by omega) (by omega) (by rw [hz2]; omega) (by omega)
    rw [← hM] at h
    simpa using h
  clear hM
  have hcp := Lib.run_copy_row_string (P := Tryz.prog) (w.alloc (.cells M 5)) 38 9 3 5 w.heap.size 0 s.size s.size s M 5 Tryz.underlying38 hinfo (heap_alloc_new w _) (Nat.le_refl _) (by omega)
  obtain ⟨Y, hY⟩ : ∃ Y, Y = (M.toList.take 0 ++ Lib.byteCells s.data.toList ++ M.toList.drop (0 + s.size)).toArray := ⟨_, rfl⟩
  rw [← hY] at hcp
  have hYl : Y.toList = Lib.byteCells s.data.toList := by
    rw [hY, List.toList_toArray, List.take_zero, List.nil_append, List.drop_of_length_le (by rw [Array.length_toList]; omega), List.append_nil]
  have hYs : Y.size = s.size := by rw [← Array.length_toList, hYl, Lib.byteCells_length, ← Lib.size_eq]
  have hgY : ((w.alloc (.cells M 5)).setRow w.heap.size Y).heap[w.heap.size]? = some (.cells Y 5 (0, 0)) := setRow_heap _ _ M _ 5 (0, 0) (heap_alloc_new w _)
  have hne : s.data.toList ≠ [] := fun e => h0 (by rw [Lib.size_eq, e]; rfl)
  have hUS := Lib.run_unsafeString_row (P := Tryz.prog) ((w.alloc (.cells M 5)).setRow w.heap.size Y) 171 3 9 5 Tryz.underlying171 hco w.heap.size Y.size (by unfold World.shape?; rw [hgY]) s.data.toList hne (by rw [← Lib.size_eq]; omega) (by rw [← Lib.size_eq]; omega)
    (fun j x hx => Lib.cells_of_row hgY Y.size j _ (by rw [List.take_of_length_le (by rw [Array.length_toList]; exact Nat.le_refl _), hYl]; simp [Lib.byteCells, hx]))
  rw [← Lib.size_eq] at hUS
  have hb1 : Below w.heap.size w (w.alloc (.cells M 5)) := bl1 w _
  have hb2 : Below w.heap.size (w.alloc (.cells M 5)) ((w.alloc (.cells M 5)).setRow w.heap.size Y) := ⟨rfl, rfl, rfl, by simp, fun k hk => setRow_other _ _ _ _ (by omega)⟩
  have HB := Lib.hid (Lib.below_freeze (hb1.trans hb2) (p := ⟨w.heap.size, 0, none⟩) (Nat.le_refl _) s.size)
  clear hY hb1 hb2
  go_enter Tryz.func151, Tryz.ntmps151
  go_wp2_with fail
  go_ret
  exact ⟨rfl, HB.out⟩
set_option maxRecDepth 100000 in
theorem sclone2_any (s : ByteArray) (w : World) (hs : s.size ≤ 140737488351232) : Calls Tryz.prog 137 #[.string s] w (Ans (.string s) w) := by
  have H := Lib.hid (sclone_any s w hs)
  go_enter Tryz.func137, Tryz.ntmps137
  go_wp2_with fail
  refine H.out.mono ?_
  rintro e w5 ⟨rfl, hb5⟩
  go_wp2_with fail
  go_ret
  exact Ans.mk rfl hb5
end Go.Proofs.YtfmndmhjjbeokaaGreatDoor
namespace Go.Proofs.YtfmndmhjjbeokaaGreatDoor
set_option maxRecDepth 100000
open Go.RowKit Tab Txt
set_option linter.unusedSimpArgs false
set_option linter.unusedVariables false
theorem ogb_ans {B g : Nat} {st : Option (List UInt8)} {w w1 w2 : World} (h : Rpo B g st w w1) (hb : Below w1.heap.size w1 w2) : Rpo B g st w w2 :=
  ⟨OwnV.below h.rd rfl hb, ogb_trans h.gb (ogb_bel hb)⟩
def StrX (B g : Nat) (R : Option (List UInt8 × List UInt8)) (w : World) (e : Ending) (w' : World) : Prop := ∃ (v : List UInt8) (st' : Option (List UInt8)), e = .returned (.string (bsOf v)) ∧ Got R v st' ∧ v.length ≤ 1048576 ∧ Rpo B g st' w w'
set_option maxHeartbeats 1000000 in
theorem tname_any {B g : Nat} {st : Option (List UInt8)} {w : World} (h : RdrS B g st w) (hl : (st.getD []).length ≤ 1048576) :
    Calls Tryz.prog 109 #[.pointer (some ⟨g, 0, none⟩)] w (StrX B g (st.bind nameS) w) := by
  have HU := Lib.hid (tupto_any h (by omega) 32 32 rfl)
  have hle := aheadT_le (isB 32) (st.getD [])
  have HLE : Hid ((aheadT (isB 32) (st.getD [])).length ≤ 1048576) := Lib.hid (by omega)
  have HNM := Lib.hid fun W => nm_any (bsOf (aheadT (isB 32) (st.getD []))) W (by rw [bs_size]; omega)
  have HCL := Lib.hid fun W => sclone2_any (bsOf (aheadT (isB 32) (st.getD []))) W (by rw [bs_size]; omega)
  have HG : Hid (∀ b, nameF (bsOf (aheadT (isB 32) (st.getD []))) = b → Got (st.bind nameS) (aheadT (isB 32) (st.getD [])) (if b = true then st.map (behindT (isB 32)) else none)) := Lib.hid fun b hb => by
    cases st with
    | none =>
      refine ⟨?_, fun x hx => by cases hx⟩
      split <;> rfl
    | some s =>
      rw [Option.getD_some] at hb ⊢
      show Got (nameS s) _ _
      unfold nameS
      rw [hb]
      cases b with
      | true => rw [if_pos rfl, if_pos rfl]; exact ⟨rfl, fun x hx => by injection hx with hx; rw [← hx]⟩
      | false => rw [if_neg (by decide), if_neg (by decide)]; exact ⟨rfl, fun x hx => by cases hx⟩
  generalize st.bind nameS = R at HG ⊢
  generalize aheadT (isB 32) (st.getD []) = nm at HU HNM HCL HG HLE
  generalize st.map (behindT (isB 32)) = ST at HU HG
  generalize hq : nameF (bsOf nm) = q at HNM
  have HGG := Lib.hid (HG.out q hq)
  clear h hl hle HG hq
  cases q with
  | true =>
    rw [if_pos rfl] at HGG
    generalize hs : bsOf nm = sv at HU HNM HCL
    have HS := Lib.hid hs
    clear hs
    go_enter Tryz.func109, Tryz.ntmps109
    go_wp2_with fail
    refine HU.out.mono ?_
    rintro e w1 ⟨rfl, h1⟩
    have H1 := Lib.hid h1
    clear h1 HU
    go_wp2_with fail
    refine (HNM.out w1).mono ?_
    rintro e w2 ⟨rfl, b2⟩
    have H2 := Lib.hid (ogb_ans H1.out b2)
    clear b2 H1
    go_wp2_with fail
    refine (HCL.out w2).mono ?_
    rintro e w3 ⟨rfl, b3⟩
    have H3 := Lib.hid (ogb_ans H2.out b3)
    clear b3 H2
    go_wp2_with fail
    go_ret
    exact ⟨nm, _, by rw [HS.out]; rfl, HGG.out, HLE.out, H3.out⟩
  | false =>
    rw [if_neg (by decide)] at HGG
    generalize hs : bsOf nm = sv at HU HNM HCL
    have HS := Lib.hid hs
    clear hs
    go_enter Tryz.func109, Tryz.ntmps109
    go_wp2_with fail
    refine HU.out.mono ?_
    rintro e w1 ⟨rfl, h1⟩
    have H1 := Lib.hid h1
    clear h1 HU
    go_wp2_with fail
    refine (HNM.out w1).mono ?_
    rintro e w2 ⟨rfl, b2⟩
    have H2 := Lib.hid (ogb_ans H1.out b2)
    clear b2 H1
    have HF := Lib.hid (tfail_any H2.out.rd)
    go_wp2_with fail
    refine HF.out.mono ?_
    rintro e w4 ⟨rfl, h4⟩
    have H4 := Lib.hid (H2.out.trans h4)
    clear h4 HF H2
    go_wp2_with fail
    refine (HCL.out w4).mono ?_
    rintro e w3 ⟨rfl, b3⟩
    have H3 := Lib.hid (ogb_ans H4.out b3)
    clear b3 H4
    go_wp2_with fail
    go_ret
    exact ⟨nm, _, by rw [HS.out]; rfl, HGG.out, HLE.out, H3.out⟩
def IntX (B g : Nat) (R : Option (Int × List UInt8)) (w : World) (e : Ending) (w' : World) : Prop := ∃ (v : Int) (st' : Option (List UInt8)), e = .returned (.int .i64 v) ∧ In64 v ∧ Got R v st' ∧ Rpo B g st' w w'
theorem names_at {P : List Pq} {i : Nat} {y : Pq} (h : P[i]? = some y) : (namesP P)[i]? = some (toL y.1.name) := by unfold namesP; rw [List.getElem?_map, h]; rfl
theorem findF_range : ∀ (L : List (List UInt8)) (s : List UInt8), -1 ≤ findF L s ∧ findF L s < L.length ∨ L = [] ∧ findF L s = -1
  | [], s => .inr ⟨rfl, rfl⟩
  | x :: l, s => by
    refine .inl ?_
    unfold findF
    rw [List.length_cons]
    have := findF_range l s
    rcases this with h | ⟨h1, h2⟩
    · split
      · omega
      · split <;> omega
    · rw [h2, h1]
      split
      · simp
      · simp
set_option maxHeartbeats 4000000 in
theorem tknown_any {B g : Nat} {st : Option (List UInt8)} {w : World} (h : RdrS B g st w) (hl : (st.getD []).length ≤ 1048576) (b : UInt8) (z : Int) (hz : z = (b.toNat : Int)) (A : Option Addr) (n c : Nat) (P : List Pq) (hP : ∀ W, w.grownBy W (some g) → RdB pcq W W.heap.size A n P) (hn : n ≤ 1048576) :
    Calls Tryz.prog 77 #[.pointer (some ⟨g, 0, none⟩), .slice A n c, .int .u8 z] w (IntX B g (st.bind (knownS (namesP P) b)) w) := by
  have HU := Lib.hid (tupto_any h (by omega) b z hz)
  have HPL : Hid (P.length = n) := Lib.hid (hP w (ogb_refl _ _)).len
  have HFR := Lib.hid (findF_range (namesP P) (aheadT (isB b) (st.getD [])))
  have HYE : Hid (∀ (i : Nat) (y : Pq), P[i]? = some y → bsOf (aheadT (isB b) (st.getD [])) = y.1.name → (∀ (j : Nat) (y : Pq), j < i → P[j]? = some y → decide (y.1.name = bsOf (aheadT (isB b) (st.getD []))) = false) → Got (st.bind (knownS (namesP P) b)) (i : Int) (st.map (behindT (isB b)))) := Lib.hid fun i y hy he hj => by
    have hf : findF (namesP P) (aheadT (isB b) (st.getD [])) = (i : Int) := findF_at (by rw [names_at hy, ← he, toL_bsOf]) (fun j hji e => by
      obtain ⟨y', hy'⟩ : ∃ y', P[j]? = some y' := ⟨_, List.getElem?_eq_getElem (by have := (List.getElem?_eq_some_iff.1 hy).1; omega)⟩
      rw [names_at hy'] at e
      injection e with e
      have h2 := hj j y' hji hy'
      rw [decide_eq_false_iff_not] at h2
      exact h2 (by rw [← e, bsOf_toL]))
    cases st with
    | none => exact ⟨rfl, fun x hx => by cases hx⟩
    | some s =>
      rw [Option.getD_some] at hf
      show Got (knownS (namesP P) b s) _ _
      unfold knownS
      rw [hf, if_neg (by omega)]
      exact ⟨rfl, fun x hx => by injection hx with hx; rw [← hx]⟩
  have HNO : Hid ((∀ (j : Nat) (y : Pq), P[j]? = some y → decide (y.1.name = bsOf (aheadT (isB b) (st.getD []))) = false) → Got (st.bind (knownS (namesP P) b)) 0 none) := Lib.hid fun hj => by
    have hf : findF (namesP P) (aheadT (isB b) (st.getD [])) = -1 := findF_none fun j e => by
      have hlt : j < P.length := by have := (List.getElem?_eq_some_iff.1 e).1; unfold namesP at this; rwa [List.length_map] at this
      obtain ⟨y', hy'⟩ : ∃ y', P[j]? = some y' := ⟨_, List.getElem?_eq_getElem hlt⟩
      rw [names_at hy'] at e
      injection e with e
      have h2 := hj j y' hy'
      rw [decide_eq_false_iff_not] at h2
      exact h2 (by rw [← e, bsOf_toL])
    cases st with
    | none => exact ⟨rfl, fun x hx => by cases hx⟩
    | some s =>
      rw [Option.getD_some] at hf
      show Got (knownS (namesP P) b s) _ _
      unfold knownS
      rw [hf, if_pos (by decide)]
      exact ⟨rfl, fun x hx => by cases hx⟩
  have HP := Lib.hid hP
  generalize st.bind (knownS (namesP P) b) = R at HYE HNO ⊢
  generalize aheadT (isB b) (st.getD []) = nm at HU HYE HNO HFR
  generalize st.map (behindT (isB b)) = ST at HU HYE
  generalize bsOf nm = sv at HU HYE HNO
  clear h hl hz hP HFR
  go_enter Tryz.func77, Tryz.ntmps77
  go_wp2_with fail
  refine HU.out.mono ?_
  rintro e w1 ⟨rfl, h1⟩
  have H1 := Lib.hid h1
  have HR := Lib.hid (HP.out w1 h1.gb)
  clear h1 HU HP
  go_wp2_with fail
  go_loopw [8, 9, 15] (fun _ _ s wr => ∃ i : Nat, i ≤ n ∧ s = .int .i64 i ∧ (∀ (j : Nat) (y : Pq), j < i → P[j]? = some y → decide (y.1.name = sv) = false) ∧ Below w1.heap.size w1 wr) (fun _ _ s _ => n - (intOf s).toNat)
  case atStart => exact ⟨0, by omega, rfl, fun j q hj => by omega, Below.refl _ _⟩
  case round =>
    obtain ⟨i, hi, rfl, hok, hb⟩ := hrel
    have HOK := Lib.hid hok
    clear hok
    by_cases hlt : i < n
    · obtain ⟨ad, y, rfl, had, hx, c0, ck⟩ := (HR.out.on hb).at_ pcq_len (by omega) hlt
      have d0 := c0 _ rfl
      have d1 := ck 1 _ (by omega) rfl
      have d2 := ck 2 _ (by omega) rfl
      have d3 := ck 3 _ (by omega) rfl
      have d4 := ck 4 _ (by omega) rfl
      have d5 := ck 5 _ (by omega) rfl
      have d6 := ck 6 _ (by omega) rfl
      have d7 := ck 7 _ (by omega) rfl
      have d8 := ck 8 _ (by omega) rfl
      have d9 := ck 9 _ (by omega) rfl
      have d10 := ck 10 _ (by omega) rfl
      have HNX : Hid (decide (y.1.name = sv) = false → ∀ (j : Nat) (y : Pq), j < i + 1 → P[j]? = some y → decide (y.1.name = sv) = false) := Lib.hid fun h j q hj hq => by
        rcases Nat.lt_or_ge j i with h5 | h5
        · exact HOK.out j q h5 hq
        · obtain rfl : j = i := by omega
          rw [hx] at hq
          injection hq with hq
          rw [← hq]
          exact h
      have HBD : Hid (decide (y.1.name = sv) = true → Got R (i : Int) ST) := Lib.hid fun h => HYE.out i y hx (of_decide_eq_true h).symm HOK.out
      obtain ⟨⟨nm2, bu, pe, sc, sp, pa, pn, pc, h0, h1, h2, h3, h4⟩, L⟩ := y
      dsimp only at d0 d1 d2 d3 d4 d5 d6 d7 d8 d9 d10 HNX HBD
      have HB := Lib.hid (hb.trans ((bl1 wr (.cells #[.string nm2, .int .i64 bu, .int .i64 pe, .bool sc, .bool sp, .slice pa pn pc, .int .i64 h0, .int .i64 h1, .int .i64 h2, .int .i64 h3, .int .i64 h4] 60)).mono hb.size))
      clear c0 ck hx HOK HYE HNO hb
      cases hq : decide (nm2 = sv) with
      | true =>
        have hqd : (nm2.toList == sv.toList) = true := bs_eq_of hq
        have HV := Lib.hid (HBD.out hq)
        clear HNX HBD hq
        go_wp2_with fail
        go_ret
        exact ⟨i, ST, rfl, ⟨by omega, by omega⟩, HV.out, ogb_ans H1.out HB.out⟩
      | false =>
        have hqd : (nm2.toList == sv.toList) = false := bs_eq_of hq
        have HN := Lib.hid (HNX.out hq)
        clear HNX HBD hq
        go_wp2_with fail
        go_roundw
        case rel => exact ⟨i + 1, by omega, by go_num, HN.out, HB.out⟩
        case measure => simp [intOf]; omega
    · have hge : n ≤ i := by omega
      have HV := Lib.hid (HNO.out fun j q hq => HOK.out j q (by have := (List.getElem?_eq_some_iff.1 hq).1; have := HR.out.len; omega) hq)
      have H2 := Lib.hid (ogb_ans H1.out hb)
      clear HOK HYE HNO
      have HF := Lib.hid (tfail_any H2.out.rd)
      go_wp2_with fail
      refine HF.out.mono ?_
      rintro e w4 ⟨rfl, h4⟩
      have H4 := Lib.hid (H2.out.trans h4)
      clear h4 HF
      go_wp2_with fail
      go_ret
      exact ⟨0, none, rfl, ⟨by decide, by decide⟩, HV.out, H4.out⟩
end Go.Proofs.YtfmndmhjjbeokaaGreatDoor
