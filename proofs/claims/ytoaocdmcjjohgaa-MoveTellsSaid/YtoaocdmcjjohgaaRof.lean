/- The runs of a table, by the document's own answer. -/
import Derived.Test.YtoaocdmcjjohgaaOf
import Derived.Test.YtoaocdmcjjohgaaLow4
namespace Go.Proofs.Ytoaocdmcjjohgaa
open Go.RowKit Tab
set_option linter.unusedSimpArgs false
set_option linter.unusedVariables false

set_option maxHeartbeats 800000 in
theorem rof_wrong (A : Option Addr) (n cap : Nat) (w : World) (R : Int) (hR : Calls Try.prog 33 #[.slice A n cap] w (Ans (.int .i64 R) w)) (h : ¬ R = 0) :
    Calls Try.prog 13 #[.slice A n cap] w (Ans (.tuple #[.slice none 0 0, .int .i64 R]) w) := by
  have HR := Lib.hid hR
  have hne : (R != 0) = true := bne_iff_ne.2 h
  have hne2 : (R == 0) = false := beq_eq_false_iff_ne.2 h
  clear hR
  go_enter Try.func13, Try.ntmps13
  go_wp2_with fail
  refine HR.out.mono ?_
  rintro e w1 ⟨rfl, hb1⟩
  go_wp2_with fail
  go_ret2
  exact ⟨rfl, hb1⟩
set_option maxRecDepth 100000 in
set_option maxHeartbeats 1600000 in
theorem rof_tree (A : Option Addr) (n cap : Nat) (x : Nd) (k : F) (w : World) (h : RdN w w.heap.size A n (x :: k.flat)) (hc : n ≤ cap) (hok : (F.cons x k .nil).ok) (hn : n ≤ 128) (hd : k.dep + 1 ≤ 16) (hl : F.tick x k.len ≤ 4096)
    (hR : Calls Try.prog 33 #[.slice A n cap] w (Ans (.int .i64 0) w)) :
    Calls Try.prog 13 #[.slice A n cap] w (OfR (tidy (one x k.lvs)) w) := by
  have hpos : ∀ r ∈ one x k.lvs, 1 ≤ r.n := fun r hr => lvs_pos hok r (by simpa [F.lvs] using hr)
  have hlen := length_le_ticks hpos
  have htk : ticks (one x k.lvs) ≤ 4096 := by rw [one_ticks, lvs_ticks]; exact hl
  have HL := Lib.hid fun w' (h' : RdN w' w'.heap.size A n (x :: k.flat)) => rLeaves_right A n cap x k w' h' hc hok hn hl
  generalize one x k.lvs = L at HL hlen htk ⊢
  have HT := Lib.hid fun A2 c2 w2 (hr2 : RdR w2 w2.heap.size A2 L.length L) (hc2 : L.length ≤ c2) => rtidy_any A2 L.length c2 L w2 hr2 hc2 (by omega) (by omega)
  generalize tidy L = T at HT ⊢
  generalize x :: k.flat = l at h HL
  unfold MadeR at HL HT
  have HR := Lib.hid hR
  clear hR hpos hok
  go_enter Try.func13, Try.ntmps13
  go_wp2_with fail
  refine HR.out.mono ?_
  rintro e w1 ⟨rfl, hb1⟩
  go_wp2_with fail
  refine (HL.out w1 (h.on hb1)).mono ?_
  rintro e w2 ⟨A2, c2, rfl, hr2, hc2, hb2, _⟩
  have k2 := hb1.trans (hb2.mono hb1.size)
  have HT2 := Lib.hid (HT.out A2 c2 w2 hr2 hc2)
  clear HT hr2 HL HR hb1 hb2
  generalize L.length = q at hc2 HT2 ⊢
  go_wp2_with fail
  refine HT2.out.mono ?_
  rintro e w3 ⟨A3, c3, rfl, hr3, hc3, hb3, hnw⟩
  have k3 := k2.trans (hb3.mono k2.size)
  have HW := Lib.hid fun ad e => Nat.le_trans k2.size (hnw ad e)
  clear hnw
  by_cases h96 : 96 < T.length
  · have H96 := Lib.hid h96
    have h96' : (96 : Int) < (T.length : Int) := by omega
    generalize T.length = m at h96' hc3 hr3 ⊢
    clear HT2 h96
    go_wp2_with fail
    go_ret2
    unfold OfR
    rw [if_pos H96.out]
    exact ⟨rfl, k3⟩
  · have H96 := Lib.hid h96
    have h96' : ¬ (96 : Int) < (T.length : Int) := by omega
    have HR3 := Lib.hid hr3
    clear hr3 HT2 h96
    generalize hm : T.length = m at h96' hc3 HR3 ⊢
    have HM := Lib.hid hm
    clear hm
    go_wp2_with fail
    go_ret2
    unfold OfR
    rw [if_neg H96.out]
    exact ⟨A3, c3, by rw [HM.out]; rfl, by rw [HM.out]; exact HR3.out, by rw [HM.out]; exact hc3, k3, HW.out⟩
end Go.Proofs.Ytoaocdmcjjohgaa
