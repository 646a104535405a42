/- The leaves of a table that is right, whose a tick is, by the document's own answer. -/
import Derived.Test.YtgdkbeleapbffaaRleaves
import Derived.Test.YtgdkbeleapbffaaRight
import Derived.Test.YtgdkbeleapbffaaCur
namespace Go.Proofs.Ytgdkbeleapbffaa
open Go.RowKit Tab
set_option linter.unusedSimpArgs false
set_option linter.unusedVariables false

/-- It answers a row of runs, new. -/
def MadeR (L : List Rn) (w : World) (e : Ending) (w' : World) : Prop := ∃ A c, e = .returned (.slice A L.length c) ∧ RdR w' w'.heap.size A L.length L ∧ L.length ≤ c ∧ Below w.heap.size w w' ∧ ∀ ad, A = some ad → w.heap.size ≤ ad.block
theorem OwnV.rdr {w : World} {B n c : Nat} {A : Option Addr} {L : List Rn} (h : OwnV 48 2 w B A n c (rs L)) : RdR w w.heap.size A n L := ⟨by have := h.len; rw [rs_length] at this; omega, h.rd⟩
set_option maxHeartbeats 400000 in
theorem rLeaves_right (A : Option Addr) (n cap : Nat) (x : Nd) (k : F) (w : World) (h : RdN w w.heap.size A n (x :: k.flat)) (hc : n ≤ cap) (hok : (F.cons x k .nil).ok) (hn : n ≤ 128) (hl : F.tick x k.len ≤ 4096) :
    Calls Try.prog 25 #[.slice A n cap] w (MadeR (one x k.lvs) w) := by
  have hpos : ∀ r ∈ one x k.lvs, 1 ≤ r.n := fun r hr => lvs_pos hok r (by simpa [F.lvs] using hr)
  have hlen := length_le_ticks hpos
  rw [one_ticks, lvs_ticks] at hlen
  have hdr : (x :: k.flat).drop 0 = (F.cons x k .nil).flat ++ [] := by simp [F.flat]
  have hL : Calls Try.prog 34 #[.slice A n cap, .int .i64 0, .slice none 0 0] w (MoreR w.heap.size none (one x k.lvs) w) := by
    have := rleaves_any w.heap.size A n cap _ hc (by omega) (k.sz + 1) 0 x k .nil [] w none 0 0 [] (by omega) h hok hdr (Nat.le_refl _) rfl (OwnV.nil _ _ _ _) (by omega)
    simpa using this
  have HL := Lib.hid hL
  clear hL hpos hlen hdr hok
  generalize one x k.lvs = L at HL ⊢
  go_enter Try.func25, Try.ntmps25
  go_wp2_with fail
  refine HL.out.mono ?_
  rintro e w1 ⟨A1, c1, rfl, ho, hb, _⟩
  have HO := Lib.hid ho
  clear ho
  generalize hq : L.length = q
  have HQ := Lib.hid hq
  clear hq
  go_wp2_with fail
  go_ret
  refine ⟨A1, c1, by rw [HQ.out]; rfl, HO.out.rdr, HO.out.cap, hb, HO.out.newer⟩
set_option maxHeartbeats 400000 in
theorem leaves_right (A : Option Addr) (n cap : Nat) (x : Nd) (k : F) (w : World) (h : RdN w w.heap.size A n (x :: k.flat)) (hc : n ≤ cap) (hok : (F.cons x k .nil).ok) (hn : n ≤ 128) (hd : k.dep + 1 ≤ 16) (hl : F.tick x k.len ≤ 4096) :
    Calls Try.prog 16 #[.slice A n cap] w (MadeR (one x k.lvs) w) := by
  have hR := rright_tree A n cap _ x k w h hc (by omega) hok rfl
  have e0 : rt n (k.dep + 1) (F.tick x k.len) = 0 := by unfold rt; rw [if_neg (by omega), if_neg (by omega), if_neg (by omega)]
  rw [e0] at hR
  have HR := Lib.hid hR
  have HL := Lib.hid fun w (h : RdN w w.heap.size A n (x :: k.flat)) => rLeaves_right A n cap x k w h hc hok hn hl
  clear hR e0 hok
  generalize one x k.lvs = L at HL ⊢
  go_enter Try.func16, Try.ntmps16
  go_wp2_with fail
  refine HR.out.mono ?_
  rintro e w1 ⟨rfl, hb1⟩
  go_wp2_with fail
  refine (HL.out w1 (h.on hb1)).mono ?_
  rintro e w2 ⟨A1, c1, rfl, hr, hc1, hb, hnw⟩
  have HO := Lib.hid hr
  have HC1 := Lib.hid hc1
  clear hr hc1
  generalize hq : L.length = q
  have HQ := Lib.hid hq
  clear hq
  go_wp2_with fail
  go_ret
  refine ⟨A1, c1, by rw [HQ.out]; rfl, HO.out, HC1.out, hb1.trans (hb.mono hb1.size), fun ad e => Nat.le_trans hb1.size (hnw ad e)⟩
set_option maxRecDepth 100000 in
set_option maxHeartbeats 1600000 in
theorem rat_any (A : Option Addr) (n cap : Nat) (L : List Rn) (t : Int) (w : World) (h : RdR w w.heap.size A n L) (hc : n ≤ cap) (hn : n ≤ 1048576) (hp : ∀ r ∈ L, 1 ≤ r.n ∧ r.n ≤ 1048576) (ht : t ≤ 9223372036854775807) :
    Calls Try.prog 15 #[.slice A n cap, .int .i64 t] w (Ans (.int .i64 (whoAt L t)) w) := by
  generalize hV : whoAt L t = V
  have HV := Lib.hid hV
  have HP := Lib.hid hp
  clear hV hp
  go_enter Try.func15, Try.ntmps15
  go_wp2_with fail
  go_loopw [1, 9] (fun tv s wr => ∃ (i : Nat) (t' : Int), i ≤ n ∧ s = .int .i64 i ∧ tv = .int .i64 t' ∧ t' ≤ 9223372036854775807 ∧ whoAt (L.drop i) t' = V ∧ Below w.heap.size w wr) (fun _ s _ => n - (intOf s).toNat)
  case atStart => exact ⟨0, t, by omega, rfl, rfl, ht, HV.out, Below.refl _ _⟩
  case round =>
    obtain ⟨i, t', hi, rfl, rfl, ht', hv, hb⟩ := hrel
    have HVV := Lib.hid hv
    clear hv
    by_cases hlt : i < n
    · obtain ⟨ad, r, rfl, had, hr, c0, c1⟩ := (h.on hb).at_ hlt
      obtain ⟨hr1, hr2⟩ := HP.out r (List.mem_of_getElem? hr)
      have hdr : L.drop i = r :: L.drop (i + 1) := by
        obtain ⟨hi', e⟩ := List.getElem?_eq_some_iff.1 hr
        rw [List.drop_eq_getElem_cons hi', e]
      have HDR := Lib.hid hdr
      clear hdr hr
      have hbl := bl1 wr (.cells #[.int .i64 r.p, .int .i64 (r.n : Int)] 48)
      by_cases h0 : t' < 0
      · have e : V = -1 := by rw [← HVV.out]; exact whoAt_neg _ _ h0
        have HE := Lib.hid e
        clear e
        go_wp2_with fail
        go_ret
        exact Ans.mk (by rw [HE.out]; rfl) (hb.trans (hbl.mono hb.size))
      · by_cases h1 : t' < r.n
        · have e : V = r.p := by
            rw [← HVV.out, HDR.out]
            simp only [whoAt]
            rw [if_neg h0, if_pos h1]
          have HE := Lib.hid e
          clear e
          go_wp2_with fail
          go_ret
          exact Ans.mk (by rw [HE.out]; rfl) (hb.trans (hbl.mono hb.size))
        · have e : V = whoAt (L.drop (i + 1)) (t' - r.n) := by
            rw [← HVV.out, HDR.out]
            simp only [whoAt]
            rw [if_neg h0, if_neg h1]
          have HE := Lib.hid e
          clear e
          go_wp2_with fail
          go_roundw
          case rel => exact ⟨i + 1, t' - r.n, by omega, by go_num, rfl, by omega, HE.out.symm, hb.trans (hbl.mono hb.size)⟩
          case measure => simp [intOf]; omega
    · have hge : n ≤ i := by omega
      have e : V = -1 := by rw [← HVV.out, List.drop_eq_nil_of_le (by rw [h.len]; exact hge)]; rfl
      have HE := Lib.hid e
      clear e
      go_wp2_with fail
      go_ret
      exact Ans.mk (by rw [HE.out]; rfl) hb
end Go.Proofs.Ytgdkbeleapbffaa
