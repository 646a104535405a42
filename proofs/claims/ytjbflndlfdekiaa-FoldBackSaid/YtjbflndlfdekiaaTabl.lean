/- A row of runs as a table, folded as long as that saves nodes. -/
import Derived.Test.YtjbflndlfdekiaaRepl
import Derived.Test.YtjbflndlfdekiaaBest
import Derived.Test.YtjbflndlfdekiaaRsum
import Derived.Test.YtjbflndlfdekiaaGone
namespace Go.Proofs.Ytjbflndlfdekiaa
open Go.RowKit Tab
set_option linter.unusedSimpArgs false
set_option linter.unusedVariables false

/-- A row of runs that may be. -/
structure Frm (L : List Rn) (n : Nat) : Prop where
  pos : 0 < n
  le : n ≤ 96
  tk : ticks L ≤ 4096
  all : ∀ r ∈ L, 1 ≤ r.n ∧ -1 ≤ r.p ∧ r.p ≤ 5
theorem Frm.small {L : List Rn} {n : Nat} (h : Frm L n) : ∀ r ∈ L, In64 r.p ∧ r.n ≤ 1048576 := fun r hr => by
  have h1 := h.all r hr
  have h2 := mem_ticks hr
  have h3 := h.tk
  unfold In64
  omega
theorem Tab.Items.small {L : List Rn} {f : F} (h : Items L f) : szI (parts f) ≤ L.length ∧ 1 ≤ (parts f).length ∧ (parts f).length ≤ L.length := by
  rw [parts_sz, parts_len]
  refine ⟨?_, h.cnt⟩
  rcases h.sz with e | h
  · rw [e, itemsF_sz]; exact Nat.le_refl _
  · omega
theorem OwnL.qui {w : World} {B g n c : Nat} {I : Itr} (h : OwnL w B g n c I) (q : Nat) : OwnL (w.drewN q) B g n c I := h.keep (Below.drewN (Below.refl _ _) q)
theorem best_zero {I : Itr} (h : I.length ≤ 1) : (bestI I).n = 0 := by
  rcases bestI_cases I with ⟨h0, _⟩ | hg
  · exact h0
  · have h1 := hg.le
    have h2 := Nat.mul_le_mul hg.p hg.n
    omega
theorem stepI_len {I : Itr} {s : Bst} (h : Tab.Good I s) : (stepI I s).length = s.at_ + 1 + (I.length - (s.at_ + s.p * s.n)) := by
  have h1 := h.le
  unfold stepI
  simp
  omega
theorem joinI_le (I : Itr) : (joinI I).length ≤ szI I + 1 := by
  by_cases h : I.length = 1
  · cases I with
    | nil => simp at h
    | cons x J =>
      have : J = [] := List.eq_nil_of_length_eq_zero (by simp only [List.length_cons] at h; omega)
      subst this
      simp [joinI_one, szI]
  · rw [joinI_more h, List.length_cons, flat_len]
    exact Nat.le_refl _
set_option maxRecDepth 100000 in
set_option maxHeartbeats 1600000 in
theorem plain_any (A : Option Addr) (n cap : Nat) (L : List Rn) (w : World) (h : RdR w w.heap.size A n L) (hc : n ≤ cap) (hL : Frm L n) :
    Calls Try.prog 12 #[.slice A n cap] w (RdNs (joinI (itemsI L)) w) := by
  have hn := hL.le
  have hp := hL.pos
  have hlen := h.len
  have e1 := itemsI_len L
  have e2 := itemsI_sz L
  have HR := Lib.hid (frame_right A n cap L w h hc hp hn hL.tk hL.all)
  have HV := Lib.hid fun (w' : World) (h' : RdR w' w'.heap.size A n L) => leaves_any A n cap L w' h' hc (by omega) hL.small
  generalize itemsI L = I at e1 e2 HV ⊢
  have HE := Lib.hid e1
  unfold MadeL at HV
  rw [e1, hlen] at HV
  clear hL e1
  go_enter Try.func12, Try.ntmps12
  go_wp2_with fail
  refine HR.out.mono ?_
  rintro e w1 ⟨rfl, hb1⟩
  go_wp2_with fail
  refine (HV.out w1 (h.on hb1)).mono ?_
  rintro e w2 ⟨g, c, rfl, ho, hb2, hcn⟩
  have hcn' := hcn.symm
  clear hcn
  subst hcn'
  have HJ := Lib.hid (joined_any (some ⟨g, 0, none⟩) n n g I w2 ho.rdl ho.cap hp (by omega) (by omega))
  have hb3 := hb1.trans (hb2.mono hb1.size)
  clear ho HV HR
  go_wp2_with fail
  refine HJ.out.mono ?_
  rintro e w3 ⟨A3, m3, c3, rfl, hr3, hc3, hb4⟩
  go_wp2_with fail
  go_ret
  exact ⟨A3, m3, c3, rfl, hr3, hc3, hb3.trans (hb4.mono hb3.size)⟩
set_option maxRecDepth 100000 in
set_option maxHeartbeats 1600000 in
theorem bestr_any (A : Option Addr) (n cap : Nat) (L : List Rn) (w : World) (h : RdR w w.heap.size A n L) (hc : n ≤ cap) (hn : n ≤ 1048576) (hL : ∀ r ∈ L, In64 r.p ∧ r.n ≤ 1048576) :
    Calls Try.prog 16 #[.slice A n cap] w (Ans (.tuple #[.int .i64 ((bestI (itemsI L)).at_ : Nat), .int .i64 ((bestI (itemsI L)).p : Nat), .int .i64 ((bestI (itemsI L)).n : Nat)]) w) := by
  have hlen := h.len
  have e1 := itemsI_len L
  have e2 := itemsI_sz L
  have HV := Lib.hid (leaves_any A n cap L w h hc hn hL)
  generalize itemsI L = I at e1 e2 HV ⊢
  unfold MadeL at HV
  rw [e1, hlen] at HV
  have HBB := Lib.hid fun g c w2 (ho : OwnL w2 w.heap.size g n c I) => best_any (some ⟨g, 0, none⟩) n c g I w2 ho.rdl ho.cap hn (by omega)
  generalize bestI I = s at HBB ⊢
  go_enter Try.func16, Try.ntmps16
  go_wp2_with fail
  refine HV.out.mono ?_
  rintro e w2 ⟨g, c, rfl, ho, hb2, hcn⟩
  have hcn' := hcn.symm
  clear hcn
  subst hcn'
  have HB := Lib.hid (HBB.out g n w2 ho)
  clear ho HV e1 e2 HBB
  go_wp2_with fail
  refine HB.out.mono ?_
  rintro e w3 ⟨rfl, q, rfl⟩
  go_wp2_with fail
  go_ret3
  exact ⟨rfl, Below.drewN hb2 q⟩
set_option maxRecDepth 100000 in
set_option maxHeartbeats 8000000 in
theorem table_any6 (A : Option Addr) (n cap : Nat) (L : List Rn) (w : World) (h : RdR w w.heap.size A n L) (hc : n ≤ cap) (hL : Frm L n) :
    Calls Try.prog 10 #[.slice A n cap] w (RdNs (tabI n (itemsI L)) w) := by
  have hn := hL.le
  have hp := hL.pos
  have hlen := h.len
  have e1 := itemsI_len L
  have HR := Lib.hid (frame_right A n cap L w h hc hp hn hL.tk hL.all)
  have HV := Lib.hid fun (w' : World) (h' : RdR w' w'.heap.size A n L) => leaves_any A n cap L w' h' hc (by omega) hL.small
  have HI0 := Lib.hid (Items.start hL.all (by omega))
  generalize hT : tabI n (itemsI L) = T
  have HT := Lib.hid hT
  unfold MadeL at HV
  rw [e1, hlen] at HV
  clear hL e1 hT
  go_enter Try.func10, Try.ntmps10
  go_wp2_with fail
  refine HR.out.mono ?_
  rintro e w1 ⟨rfl, hb1⟩
  go_wp2_with fail
  refine (HV.out w1 (h.on hb1)).mono ?_
  rintro e w2 ⟨g, c, rfl, ho, hb2, hcn⟩
  have hc96 : c ≤ 96 := by omega
  clear hcn
  have hb3 := hb1.trans (hb2.mono hb1.size)
  have hlo : w.heap.size ≤ g := Nat.le_trans hb1.size ho.low
  clear HV HR h
  go_wp2_with fail
  go_loopw [3, 4, 5, 6] (fun q _ _ _ wr => ∃ (m f : Nat) (fo : F), q = .slice (some ⟨g, 0, none⟩) m c ∧ Items L fo ∧ OwnL wr w.heap.size g m c (parts fo) ∧ tabI f (parts fo) = T ∧ m ≤ f + 1 ∧ Below w.heap.size w wr) (fun q _ _ _ _ => lenOf q)
  case atStart => exact ⟨n, n, itemsF L, rfl, HI0.out, by rw [itemsI_parts]; exact ⟨ho.len, by obtain ⟨V, h1, h2⟩ := ho.ex; exact ⟨V, h1.weak hb1.size, h2⟩, hlo, ho.lt, ho.cap⟩, by rw [itemsI_parts]; exact HT.out, by omega, hb3⟩
  case round =>
    obtain ⟨m, f, fo, rfl, hit, how, hta, hmf, hb⟩ := hrel
    have hsm := hit.small
    have hml := how.len
    have hcap := how.cap
    have hgl := how.lt
    have HIT := Lib.hid hit
    have HTA := Lib.hid hta
    have HB := Lib.hid (best_any (some ⟨g, 0, none⟩) m c g (parts fo) wr how.rdl hcap (by omega) (by omega))
    obtain ⟨s, hs⟩ : ∃ s, s = bestI (parts fo) := ⟨_, rfl⟩
    rw [← hs] at HB
    have HSB := Lib.hid hs
    clear hit hta hs
    go_wp2_with fail
    refine HB.out.mono ?_
    rintro e w4 ⟨rfl, q, rfl⟩
    by_cases h0 : s.n = 0
    · have hta := HTA.out
      have htj : joinI (parts fo) = T := by
        cases f with
        | zero => exact hta
        | succ f =>
          simp only [tabI] at hta
          rw [if_pos (by rw [← HSB.out]; exact h0)] at hta
          exact hta
      have HJ := Lib.hid (joined_any (some ⟨g, 0, none⟩) m c g (parts fo) (wr.drewN q) (how.qui q).rdl hcap (by omega) (by omega) (by omega))
      rw [htj] at HJ
      have hb4 := Below.drewN hb q
      clear hta htj HTA
      rw [h0]
      go_wp2_with fail
      refine HJ.out.mono ?_
      rintro e w5 ⟨A5, m5, c5, rfl, hr5, hc5, hb5⟩
      go_wp2_with fail
      go_ret
      exact ⟨A5, m5, c5, rfl, hr5, hc5, hb4.trans (hb5.mono hb4.size)⟩
    · have hbi := bestI_cases (parts fo)
      rw [← HSB.out] at hbi
      have hg : Tab.Good (parts fo) s := hbi.resolve_left fun hh => h0 hh.1
      have hfu : f ≠ 0 := fun hf => h0 (by rw [HSB.out]; exact best_zero (by omega))
      obtain ⟨f, rfl⟩ : ∃ f', f = f' + 1 := ⟨f - 1, by omega⟩
      have hta := HTA.out
      simp only [tabI] at hta
      rw [← HSB.out, if_neg h0] at hta
      obtain ⟨f', hfo, hst⟩ := hg.step HIT.out.ok
      have hit' := HIT.out.step (by omega) hfo
      have hsl := stepI_len hg
      have hg1 := hg.le
      have hg2 := hg.n
      have hg3 := hg.p
      have hmul := Nat.mul_le_mul hg3 hg2
      have hple := Nat.le_mul_of_pos_right s.p (show 0 < s.n by omega)
      have hnle := Nat.le_mul_of_pos_left s.n (show 0 < s.p by omega)
      have hp2 : s.p * 2 ≤ s.p * s.n := Nat.mul_le_mul_left _ hg2
      have hx : stepI (parts fo) s = (parts fo).take s.at_ ++ (⟨4, 0, (s.n : Int)⟩ :: joinI (((parts fo).drop s.at_).take s.p)) :: (parts fo).drop (s.at_ + s.p * s.n) := rfl
      rw [hst] at hta hx hsl
      have hq := how.qui q
      have hr0 := (hq.rdl.back s.at_).front s.p (by omega)
      rw [add_one'] at hr0
      have hsz0 : szI (((parts fo).drop s.at_).take s.p) ≤ 96 := Nat.le_trans (szI_take _ _) (Nat.le_trans (szI_drop _ _) (by omega))
      have HJ := Lib.hid (joined_any (some ⟨g, s.at_, none⟩) s.p (c - s.at_) g _ (wr.drewN q) hr0 (by omega) hg3 (by omega) (by omega))
      have hjl := joinI_le (((parts fo).drop s.at_).take s.p)
      generalize joinI (((parts fo).drop s.at_).take s.p) = J at HJ hx hjl
      have HX := Lib.hid hx
      have HTA2 := Lib.hid hta
      have HIT2 := Lib.hid hit'
      have HSL := Lib.hid hsl
      have hb4 := Below.drewN hb q
      obtain ⟨P, hP⟩ : ∃ P, P = s.p * s.n := ⟨_, rfl⟩
      rw [← hP] at hg1 hmul hple hnle hp2
      have hmw : IntKind.i64.wrap ((s.p : Int) * (s.n : Int)) = (P : Int) := by
        rw [← Int.natCast_mul, ← hP]
        exact IntWalk.i64_in _ (by omega)
      have hne : ((s.n : Int) == 0) = false := beq_eq_false_iff_ne.2 (by omega)
      have hca : ¬ c = s.at_ := by omega
      have HP := Lib.hid hP
      have HMF := Lib.hid hmf
      have HH := Lib.hid how
      have HQ := Lib.hid hq
      have HB4 := Lib.hid hb4
      have hap : s.at_ + s.p ≤ m := by omega
      have hP2 : 2 ≤ P := by omega
      have haP : s.at_ + P ≤ m := by omega
      have hm96 : m ≤ 96 := by omega
      have hk96 : s.n ≤ 96 := by omega
      have hjl2 : J.length ≤ 97 := by omega
      clear hta hx hit' hsl hfo hst hbi hg hr0 hP hsm HTA HIT HSB HB how hb h0 hmf hmul hple hnle hp2 hq hb4 hsz0 hfu hjl hg1 hml
      obtain ⟨mo, a, p, k⟩ := s
      dsimp only at *
      go_wp2_with fail
      refine HJ.out.mono ?_
      rintro e w5 ⟨A5, m5, c5, rfl, hr5, hc5, hb5⟩
      have hm5 : m5 ≤ 97 := by have := hr5.len; omega
      have HTI := Lib.hid (times1_any k A5 m5 c5 J w5 (by omega) hr5 hc5 (by omega))
      have HQ5 := Lib.hid (HQ.out.keep hb5)
      have HB6 := Lib.hid (HB4.out.trans (hb5.mono HB4.out.size))
      clear hr5 hc5 HQ HJ HB4 hb5
      go_wp2_with fail
      refine HTI.out.mono ?_
      rintro e w6 ⟨A6, m6, c6, rfl, ho6, hb7⟩
      have HQ6 := Lib.hid ((HQ5.out.keep hb7).keep (bl1 w6 (.cells #[.slice A6 m6 c6] 31)))
      have HB7 := Lib.hid ((HB6.out.trans (hb7.mono HB6.out.size)).trans ((bl1 w6 (.cells #[.slice A6 m6 c6] 31)).mono (Nat.le_trans HB6.out.size hb7.size)))
      have hg6 : g < w5.heap.size := HQ5.out.lt
      have hw56 := hb7.size
      have hm6 := ho6.len
      have hit6 : ItemAt (w6.alloc (.cells #[.slice A6 m6 c6] 31)) (w6.alloc (.cells #[.slice A6 m6 c6] 31)).heap.size g (⟨4, 0, (k : Int)⟩ :: J) (.slice A6 m6 c6) := by
        refine ⟨A6, c6, by rw [hm6], by rw [hm6]; exact ho6.cap, by rw [hm6]; exact ho6.rdn.on (bl1 _ _), fun ad had => ?_⟩
        obtain ⟨g6, e6, hge, _⟩ := OwnV.block ho6.own (by rw [← hm6]; simp)
        rw [e6] at had
        injection had with had
        subst had
        show g6 ≠ g
        omega
      have HRP := Lib.hid (replace_any w.heap.size g m c a (a + P) (parts fo) (⟨4, 0, (k : Int)⟩ :: J) ⟨w6.heap.size, 0, none⟩ (.slice A6 m6 c6) _ HQ6.out (World.cell?_alloc_mark _ _ _ _ _) hit6 (by show w6.heap.size ≠ g; omega) (by omega) haP (by omega))
      have hsum : (a : Int) + (P : Int) = ((a + P : Nat) : Int) := by omega
      rw [← hsum] at HRP
      clear hsum ho6 hit6 HQ5 HQ6 HTI hb7 hg6 hw56 hm6
      go_wp2_with fail
      refine HRP.out.mono ?_
      rintro e w7 ⟨rfl, ho7, hg7⟩
      have HO7 := Lib.hid ho7
      have hb8 := below_gb HB7.out hg7 hlo HB7.out.size
      clear ho7 hg7 HRP HB7 HB6
      go_wp2_with fail
      go_roundw
      case rel => exact ⟨a + 1 + (m - (a + P)), f, f', rfl, HIT2.out, by rw [HX.out, ← HP.out]; exact HO7.out, HTA2.out, by have := HMF.out; omega, hb8⟩
      case measure => simp [lenOf]; omega
end Go.Proofs.Ytjbflndlfdekiaa
