/- Whose a tick is, by the program. -/
import Derived.Test.YtgdkbeleapbffaaNew
namespace Go.Proofs.Ytgdkbeleapbffaa
open Go.RowKit Tab
set_option linter.unusedSimpArgs false
set_option linter.unusedVariables false

def goneOf (w : World) (b : Nat) : Nat := match w.cell? ⟨b, 36, none⟩ with
  | some (.int _ z) => z.toNat
  | _ => 0
theorem goneOf_eq {w : World} {b : Nat} {A : Option Addr} {n cap : Nat} {l : List Nd} {td : List Rn} {tk gn : Nat} (h : Cur w b A n cap l td tk gn) : goneOf w b = gn := by
  obtain ⟨c, st, p, hB, _, _, _, _, e, _⟩ := h.ex
  unfold goneOf
  rw [(hB 36 (by omega)).1, e]
  simp
theorem below_gb {B b : Nat} {w w1 w2 : World} (h : Below B w w1) (hG : w1.grownBy w2 (some b)) (hB : B ≤ b) (hs : B ≤ w1.heap.size) : Below B w w2 :=
  ⟨hG.os.trans h.os, hG.tape.trans h.tape, hG.output.trans h.output, Nat.le_trans h.size hG.size, fun j hj => (hG.block j (by omega) (fun e => by injection e with e; omega)).trans (h.block j hj)⟩
set_option maxRecDepth 100000 in
set_option maxHeartbeats 3200000 in
theorem part_right (A : Option Addr) (n cap : Nat) (x : Nd) (k : F) (t : Int) (w : World) (h : RdN w w.heap.size A n (x :: k.flat)) (hc : n ≤ cap) (hok : (F.cons x k .nil).ok) (hn : n ≤ 128) (hd : k.dep + 1 ≤ 16) (hl : F.tick x k.len ≤ 4096) :
    Calls Try.prog 10 #[.slice A n cap, .int .i64 t] w (Ans (.int .i64 (whoAt (one x k.lvs) t)) w) := by
  have hN := new_right A n cap x k w h hc hok hn hd hl
  have hpos : ∀ r ∈ one x k.lvs, 1 ≤ r.n := fun r hr => lvs_pos hok r (by simpa [F.lvs] using hr)
  have HN := Lib.hid hN
  have htot : ticks (one x k.lvs) ≤ 4096 := by rw [one_ticks, lvs_ticks]; exact hl
  unfold Born at hN
  generalize one x k.lvs = L at hpos hN htot ⊢
  have HN := Lib.hid hN
  have HPOS := Lib.hid hpos
  clear hN hpos
  by_cases ht : t < 0
  · have HW : Hid (whoAt L t = -1) := Lib.hid (whoAt_neg L t ht)
    go_enter Try.func10, Try.ntmps10
    go_wp2_with fail
    refine HN.out.mono ?_
    rintro e w1 ⟨b, A1, n1, c1, rfl, hC, hb1, hbl⟩
    have HC := Lib.hid hC
    clear hC
    go_wp2_with fail
    go_ret
    exact Ans.mk (by rw [HW.out]; rfl) hbl
  · obtain ⟨T, rfl⟩ := Int.eq_ofNat_of_zero_le (show 0 ≤ t by omega)
    go_enter Try.func10, Try.ntmps10
    go_wp2_with fail
    refine HN.out.mono ?_
    rintro e w1 ⟨b, A1, n1, c1, rfl, hC, hb1, hbl⟩
    have HC := Lib.hid hC
    clear hC
    go_wp2_with fail
    generalize hM : ticks L = M at htot
    have HM := Lib.hid hM
    clear hM
    go_loopw [] (fun wr => ∃ (td : List Rn) (gn : Nat), Cur wr b A1 n1 c1 (x :: k.flat) td 0 gn ∧ gn ≤ T ∧ gn + ticks td = M ∧ whoAt L (T : Int) = whoAt td ((T : Int) - (gn : Int)) ∧ Below w.heap.size w wr) (fun wr => M - goneOf wr b)
    case atStart => exact ⟨L, 0, HC.out, by omega, by rw [HM.out]; omega, by simp, hbl⟩
    case round =>
      obtain ⟨td, gn, hC, hgn, hsum, hw, hb⟩ := hrel
      have HW := Lib.hid hw
      have HC2 := Lib.hid hC
      clear hw hC
      cases td with
      | nil =>
        go_wp2_with fail
        refine (next_end b A1 n1 c1 _ 0 gn wr HC2.out).mono ?_
        rintro e w3 ⟨rfl, hb3⟩
        go_wp2_with fail
        go_ret
        refine Ans.mk (by rw [HW.out]; rfl) ?_
        exact (hb.trans (hb3.mono hb.size)).alloc (Nat.le_trans hb.size hb3.size) _
      | cons r s =>
        have hr1 := HC2.out.pos r (by simp)
        go_wp2_with fail
        refine (next_some b A1 n1 c1 _ r s 0 gn wr HC2.out).mono ?_
        rintro e w3 ⟨rfl, hC3, hG3⟩
        have HC3 := Lib.hid hC3
        simp only [Nat.sub_zero] at HC3 ⊢
        clear hC3
        simp only [ticks] at hsum
        have hb3 : Below w.heap.size w w3 := below_gb hb hG3 hb1 hb.size
        have hbl3 := bl1 w3 (.cells #[.int .i64 r.p, .int .i64 (r.n : Int)] 48)
        have hCA := at_any b A1 n1 c1 _ s 0 (gn + r.n) _ (HC3.out.below hbl3)
        have HCA := Lib.hid hCA
        clear hCA
        by_cases hlt : T < gn + r.n
        · have hwho : whoAt L (T : Int) = r.p := by
            rw [HW.out]
            simp only [whoAt]
            rw [if_neg (by omega), if_pos (by omega)]
          have HWH := Lib.hid hwho
          have hlt' : (T : Int) < ((gn + r.n : Nat) : Int) := by omega
          clear hwho
          go_wp2_with fail
          refine HCA.out.mono ?_
          rintro e w4 ⟨rfl, rfl⟩
          go_wp2_with fail
          go_ret
          exact Ans.mk (by rw [HWH.out]; rfl) (hb3.trans (hbl3.mono hb3.size))
        · have hwho : whoAt L (T : Int) = whoAt s ((T : Int) - ((gn + r.n : Nat) : Int)) := by
            rw [HW.out]
            simp only [whoAt]
            rw [if_neg (by omega), if_neg (by omega)]
            congr 1
            omega
          have HWH := Lib.hid hwho
          have hlt' : ¬ (T : Int) < ((gn + r.n : Nat) : Int) := by omega
          clear hwho
          go_wp2_with fail
          refine HCA.out.mono ?_
          rintro e w4 ⟨rfl, rfl⟩
          go_wp2_with fail
          go_roundw
          case rel => exact ⟨s, gn + r.n, HC3.out.below hbl3, by omega, by omega, HWH.out, hb3.trans (hbl3.mono hb3.size)⟩
          case measure =>
            show M - goneOf _ b < M - goneOf _ b
            rw [goneOf_eq (HC3.out.below hbl3), goneOf_eq HC2.out]
            omega
set_option maxHeartbeats 800000 in
theorem part_wrong (A : Option Addr) (n cap : Nat) (t : Int) (w : World) (hN : Calls Try.prog 17 #[.slice A n cap] w (Ans (.pointer none) w)) :
    Calls Try.prog 10 #[.slice A n cap, .int .i64 t] w (Ans (.int .i64 (-1)) w) := by
  have HN := Lib.hid hN
  clear hN
  go_enter Try.func10, Try.ntmps10
  go_wp2_with fail
  refine HN.out.mono ?_
  rintro e w1 ⟨rfl, hb1⟩
  go_wp2_with fail
  go_ret
  exact ⟨rfl, hb1⟩
end Go.Proofs.Ytgdkbeleapbffaa
