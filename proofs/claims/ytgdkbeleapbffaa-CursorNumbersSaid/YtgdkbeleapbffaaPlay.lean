/- A table is gone through as the document says. -/
import Derived.Test.YtgdkbeleapbffaaPart
import Derived.Test.YtgdkbeleapbffaaRat
import Derived.Test.YtgdkbeleapbffaaCknown
namespace Go.Proofs.Ytgdkbeleapbffaa
open Go.RowKit Tab
set_option linter.unusedSimpArgs false
set_option linter.unusedVariables false

set_option maxRecDepth 100000 in
set_option maxHeartbeats 1600000 in
theorem play_wrong (A : Option Addr) (n cap : Nat) (S : Value) (w : World) (R : Int) (hR : ∀ w', Below w.heap.size w w' → Calls Try.prog 26 #[.slice A n cap] w' (Ans (.int .i64 R) w')) (hr : ∀ w', Below w.heap.size w w' → Calls Try.prog 14 #[.slice A n cap] w' (Ans (.int .i64 R) w')) (h : ¬ R = 0) :
    Calls Try.prog 9 #[.slice A n cap, S] w (Ans (.bool true) w) := by
  have HR := Lib.hid hR
  have Hr := Lib.hid hr
  have hne : (R != 0) = true := bne_iff_ne.2 h
  have hne2 : (R == 0) = false := beq_eq_false_iff_ne.2 h
  have hN := new_wrong A n cap w R (hR w (Below.refl _ _)) h
  have HN := Lib.hid hN
  have HH := Lib.hid h
  clear hR hr hN h
  go_enter Try.func9, Try.ntmps9
  go_wp2_with fail
  refine HN.out.mono ?_
  rintro e w1 ⟨rfl, hb1⟩
  go_wp2_with fail
  refine (Hr.out w1 hb1).mono ?_
  rintro e w2 ⟨rfl, hb2⟩
  have k2 := hb1.trans (hb2.mono hb1.size)
  go_wp2_with fail
  refine (part_wrong A n cap 0 w2 (new_wrong A n cap w2 R (HR.out w2 k2) HH.out)).mono ?_
  rintro e w3 ⟨rfl, hb3⟩
  go_wp2_with fail
  go_ret
  exact Ans.mk rfl (k2.trans (hb3.mono k2.size))
theorem RdR.at_gb {w w' : World} {b n : Nat} {A : Option Addr} {L : List Rn} (h : RdR w w.heap.size A n L) (hg : w.grownBy w' (some b)) (hf : ∀ ad, A = some ad → ad.block ≠ b) {i : Nat} (hi : i < n) : ∃ (ad : Addr) (r : Rn), A = some ad ∧ L[i]? = some r ∧
    w'.cell? (ad.add (i * 2)) = some (.int .i64 r.p) ∧ w'.cell? ⟨(ad.add (i * 2)).block, (ad.add (i * 2)).off + 1, none⟩ = some (.int .i64 (r.n : Int)) := by
  obtain ⟨ad, r, rfl, hlt, hr, c0, c1⟩ := h.at_ hi
  have hk : w'.heap[ad.block]? = w.heap[ad.block]? := hg.block _ hlt (fun e => by injection e with e; exact hf ad rfl e)
  exact ⟨ad, r, rfl, hr, (World.cell?_of_block (by rw [add_block]; exact hk)).trans c0, (World.cell?_of_block (a := ⟨(ad.add (i * 2)).block, (ad.add (i * 2)).off + 1, none⟩) (by rw [add_block]; exact hk)).trans c1⟩
theorem take_more {L : List Rn} {i : Nat} {r : Rn} (h : L[i]? = some r) : ticks (L.take (i + 1)) = ticks (L.take i) + r.n := by
  obtain ⟨hi, e⟩ := List.getElem?_eq_some_iff.1 h
  rw [List.take_succ_eq_append_getElem hi, ticks_append, e]
  simp [ticks]
theorem drop_more {L : List Rn} {i : Nat} {r : Rn} (h : L[i]? = some r) : L.drop i = r :: L.drop (i + 1) := by
  obtain ⟨hi, e⟩ := List.getElem?_eq_some_iff.1 h
  rw [List.drop_eq_getElem_cons hi, e]
theorem take_ticks (L : List Rn) (i : Nat) : ticks (L.take i) ≤ ticks L := by
  have := ticks_append (L.take i) (L.drop i)
  rw [List.take_append_drop] at this
  omega
end Go.Proofs.Ytgdkbeleapbffaa
