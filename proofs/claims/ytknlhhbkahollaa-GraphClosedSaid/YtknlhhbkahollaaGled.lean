/- A search from a few on: all to whom steps lead. -/
import Derived.Test.YtknlhhbkahollaaLow3
import Derived.IntWalk
import Derived.BigQuiet
import Derived.Deep.CutRange
namespace Go.Proofs.Ytknlhhbkahollaa
open Go.RowKit Tab
set_option linter.unusedSimpArgs false
set_option linter.unusedVariables false

/-- A slice of numbers that is to be gone through. -/
structure Sl where
  a : Option Addr
  c : Nat
  l : List Nat
def Sl.v (s : Sl) : Value := .slice s.a s.l.length s.c
def SlOk (w : World) (B : Nat) (s : Sl) : Prop := s.l.length ≤ s.c ∧ s.l.length ≤ 1048576 ∧ RdI w B s.a s.l.length (s.l.map fun x : Nat => (x : Int))
theorem slv_one (T : List Sl) : ∀ u ∈ T.map Sl.v, u.oneCell' = true := by
  intro u hu
  obtain ⟨s, _, rfl⟩ := List.mem_map.1 hu
  rfl
/-- What is not marked, by the cells. -/
def unw (w : World) (h n : Nat) : Nat := un n fun j => match w.cell? ⟨h, j, none⟩ with | some (.bool b) => b | _ => false
theorem Vec.unw {w : World} {h n : Nat} {M : Nat → Bool} (hv : Vec w h n fun j => .bool (M j)) : unw w h n = un n M := by
  unfold Go.Proofs.Ytknlhhbkahollaa.unw
  exact un_congr fun j hj => by rw [hv.cell j hj]
theorem OwnV.keep' {E s B n c : Nat} {w w' : World} {A : Option Addr} {l : List Value} (h : OwnV E s w B A n c l) (hk : ∀ g, obk A = some g → w'.heap[g]? = w.heap[g]?) : OwnV E s w' B A n c l := by
  refine ⟨h.1, ?_⟩
  rcases h.2 with hv | ⟨g, cap, cur, hv, hbg, hg, r⟩
  · exact .inl hv
  · exact .inr ⟨g, cap, cur, hv, hbg, by rw [hk g (by injection hv with h1; rw [h1]; rfl)]; exact hg, r⟩
theorem drop_at {L : List Nat} {i : Nat} (h : i < L.length) : L.drop i = L[i] :: L.drop (i + 1) := List.drop_eq_getElem_cons h
theorem un_le (n : Nat) (M : Nat → Bool) : un n M ≤ n := by
  induction n with
  | zero => exact Nat.le_refl _
  | succ n ih => simp only [un]; split <;> omega
/-- What is led to. -/
def LedP (n : Nat) (S : Nat → List Nat) (F : List Nat) (w : World) (e : Ending) (w' : World) : Prop :=
  ∃ (h : Nat) (M : Nat → Bool), e = .returned (.slice (some ⟨h, 0, none⟩) n n) ∧ Vec w' h n (fun j => .bool (M j)) ∧ w.heap.size ≤ h ∧ Below w.heap.size w w' ∧ ∀ a, M a = true ↔ Rch S F a
set_option maxRecDepth 100000 in
set_option maxHeartbeats 4000000 in
theorem led_any (A A1 : Option Addr) (n c c1 : Nat) (S : Nat → List Nat) (F : List Nat) (w : World) (h : RdS w w.heap.size A n S) (h1 : RdI w w.heap.size A1 F.length (F.map fun x : Nat => (x : Int))) (hc1 : F.length ≤ c1) (hn : n ≤ 1024)
    (hF : ∀ x ∈ F, x < n) (hS : ∀ b, b < n → ∀ y ∈ S b, y < n) (hl1 : F.length ≤ 1048576) (hl2 : ∀ b, b < n → (S b).length ≤ 1048576) :
    Calls Try.prog 32 #[.slice A n c, .slice A1 F.length c1] w (LedP n S F w) := by
  have hmb := run_makeB n (by omega)
  obtain ⟨B, hB⟩ : ∃ B, B = w.heap.size := ⟨_, rfl⟩
  have HBB := Lib.hid hB
  have HS := Lib.hid hS
  have HF := Lib.hid hF
  have HL2 := Lib.hid hl2
  have hrf : SlOk w B ⟨A1, c1, F⟩ := ⟨hc1, hl1, by rw [hB]; exact h1⟩
  have hV0 : Vec (w.alloc (.cells (madeCells #[.bool false] n) 4)) B n fun j => .bool false := by rw [hB]; exact Vec.lit w _ _ n _ fun j hj => made_get _ n j hj
  obtain ⟨W0, hW0⟩ : ∃ W0, W0 = (w.alloc (.cells (madeCells #[.bool false] n) 4)).alloc (.cells #[.slice A1 F.length c1] 28) := ⟨_, rfl⟩
  have hsz0 : (w.alloc (.cells (madeCells #[.bool false] n) 4)).heap.size = B + 1 := by rw [hB]; simp
  have hV1 : Vec W0 B n fun j => .bool ((fun _ => false : Nat → Bool) j) := by rw [hW0]; exact hV0.on (bl1 _ _)
  have hO1 : OwnV 28 1 W0 B (some ⟨B + 1, 0, none⟩) 1 1 ([⟨A1, c1, F⟩].map Sl.v) := by
    have := ownV_lit (w.alloc (.cells (madeCells #[.bool false] n) 4)) 28 1 B #[.slice A1 F.length c1] 1 rfl (by omega) (by unfold maxLen; omega)
    rw [hsz0, ← hW0] at this
    exact this
  have hb1 : Below B w W0 := by
    rw [hW0, hB]
    exact (bl1 w _).alloc (by simp) _
  have hlt0 : B + 1 < W0.heap.size := by rw [hW0, hB]; simp
  have HW0 := Lib.hid hW0
  have HR : Hid (RdS w B A n S) := Lib.hid (by rw [hB]; exact h)
  clear h h1 hc1 hl1 hV0 hS hF hl2 hW0
  go_enter Try.func32, Try.ntmps32
  go_wp2_with fail
  rw [← HW0.out]
  rw [← HBB.out]
  clear hB
  go_loopw [6, 7, 8, 10] (fun t _ _ _ wr => ∃ (T : List Sl) (M : Nat → Bool) (k c2 : Nat) (A2 : Option Addr), t = .slice A2 k c2 ∧ OwnV 28 1 wr B A2 k c2 (T.map Sl.v) ∧ (∀ s ∈ T, SlOk w B s) ∧ Cov n S F M (T.map Sl.l) ∧ Vec wr B n (fun j => .bool (M j)) ∧ Below B w wr ∧ obk A2 ≠ some B ∧ k + un n M ≤ 2048) (fun t _ _ _ wr => lenOf t + 2 * unw wr B n)
  case atStart => exact ⟨[⟨A1, c1, F⟩], fun _ => false, 1, 1, some ⟨B + 1, 0, none⟩, rfl, hO1, fun s hs => by simp at hs; subst hs; exact hrf, Cov.start HF.out, hV1, hb1, fun e => by injection e with e; simp at e, by
    have : un n (fun _ => false) ≤ n := un_le _ _
    omega⟩
  case round =>
    obtain ⟨T, M, k, c2, A2, rfl, how, hok, hcov, hV, hb, hob, hkb⟩ := hrel
    have hun := hV.unw
    by_cases hk0 : 0 < k
    · obtain ⟨k', rfl⟩ : ∃ k', k = k' + 1 := ⟨k - 1, by omega⟩
      have hTl := how.len
      rw [List.length_map, Nat.mul_one] at hTl
      obtain ⟨T0, s, rfl⟩ : ∃ T0 s, T = T0 ++ [s] := by
        rcases List.eq_nil_or_concat T with e | ⟨T0, s, e⟩
        · subst e; simp at hTl
        · exact ⟨T0, s, by simpa using e⟩
      have hT0 : T0.length = k' := by simpa using hTl
      obtain ⟨g, rfl, hBg, hgl⟩ := how.block (by omega)
      have hs1 := hok s (by simp)
      have hT0ok : ∀ s ∈ T0, SlOk w B s := fun x hx => hok x (by simp [hx])
      rw [List.map_append, List.map_singleton] at hcov
      have hcov1 := hcov.pop
      have d0 : wr.cell? ⟨g, k', none⟩ = some (.slice s.a s.l.length s.c) := by
        refine (World.ownsRow.cellAt how k' (by omega)).trans ?_
        rw [List.map_append, List.getElem?_append_right (by rw [List.length_map]; omega), List.length_map, hT0, Nat.sub_self]
        rfl
      have hcapn := how.cap
      have how1 := how.frontC k' (by omega)
      rw [Nat.mul_one, List.map_append, List.take_left' (by rw [List.length_map]; exact hT0)] at how1
      have hkk : (k' : Int) < (k' : Int) + 1 := by omega
      have hwrap : IntKind.i64.wrap ((k' : Int) + 1 - 1) = (k' : Int) := by rw [IntWalk.i64_in _ (by omega)]; omega
      have hkc : k' ≤ c2 := by omega
      obtain ⟨sa, sc, sl⟩ := s
      dsimp only at d0 hcov1
      have hsr := hs1.2.2
      have hsl := hs1.2.1
      have hsc := hs1.1
      dsimp only at hsr hsl hsc
      have HOK := Lib.hid hT0ok
      have HC := Lib.hid hcov1
      have HUN := Lib.hid hun
      have HMM := Lib.hid hT0
      clear how hok hcov hTl hs1 hT0ok hun hT0 hcov1
      go_wp2_with fail
      clear d0 hsz0 hV1 hO1 hb1 hlt0
      go_loopw [6, 10, 31] (fun t _ s wx => ∃ (i k2 c3 : Nat) (A3 : Option Addr) (T2 : List Sl) (M2 : Nat → Bool), i ≤ sl.length ∧ s = .int .i64 i ∧ t = .slice A3 k2 c3 ∧ OwnV 28 1 wx B A3 k2 c3 (T2.map Sl.v) ∧ (∀ s ∈ T2, SlOk w B s) ∧ Cov n S F M2 (sl.drop i :: T2.map Sl.l) ∧ Vec wx B n (fun j => .bool (M2 j)) ∧ Below B w wx ∧ obk A3 ≠ some B ∧ k2 + un n M2 = k' + un n M ∧ un n M2 ≤ un n M) (fun _ _ s _ => sl.length - (intOf s).toNat)
      case atStart => exact ⟨0, k', c2, some ⟨g, 0, none⟩, T0, M, by omega, rfl, rfl, how1, HOK.out, HC.out, hV, hb, hob, rfl, Nat.le_refl _⟩
      case round =>
        obtain ⟨i, k2, c3, A3, T2, M2, hi, rfl, rfl, how2, hok2, hcov2, hV2, hb2, hob2, hsum, hle2⟩ := hrel
        have HOK2 := Lib.hid hok2
        have HC2 := Lib.hid hcov2
        clear hok2 hcov2
        by_cases hlt : i < sl.length
        · obtain ⟨ad, x, rfl, had, hx, c0⟩ := hsr.at_ hlt
          rw [List.getElem?_map, List.getElem?_eq_getElem hlt] at hx
          simp only [Option.map_some, Option.some.injEq] at hx
          obtain ⟨X, hX⟩ : ∃ X, X = sl[i] := ⟨_, rfl⟩
          rw [← hX] at hx
          subst hx
          have hcv := HC2.out
          rw [drop_at hlt, ← hX] at hcv
          have hXn : X < n := (hcv.todo (X :: sl.drop (i + 1)) (by simp) X (by simp)).1
          rw [← hb2.cell (p := ad.add i) (by rw [add_block]; exact had)] at c0
          have e0 := hV2.cell X hXn
          have e1 := hV2.thaw X
          have HCV := Lib.hid hcv
          clear hcv hX
          cases hm : M2 X with
          | true =>
            rw [hm] at e0
            have HM := Lib.hid hm
            clear hm
            go_wp2_with fail
            go_roundw
            case rel => exact ⟨i + 1, k2, c3, A3, T2, M2, by omega, by go_num, rfl, how2, HOK2.out, HCV.out.skip HM.out, hV2, hb2, hob2, hsum, hle2⟩
            case measure => simp [intOf]; omega
          | false =>
            rw [hm] at e0
            have hup := un_put hXn hm
            have hV3 := hV2.set X (.bool true)
            have hb3 := hb2.setCell (p := ⟨B, X, none⟩) (Nat.le_refl _) (.bool true)
            have how3 : OwnV 28 1 (wr.setCell ⟨B, X, none⟩ (.bool true)) B A3 k2 c3 (T2.map Sl.v) := by
              refine how2.keep' fun g hg => ?_
              exact Below.heap_setCell _ _ _ _ (fun e => hob2 (by rw [hg]; exact congrArg some e))
            have HM := Lib.hid hm
            have HUP := Lib.hid hup
            have HE := Lib.hid e0
            clear hm hup
            go_upto_region 12 with fail
            generalize wr.setCell ⟨B, X, none⟩ (.bool true) = W1 at hV3 hb3 how3 ⊢
            obtain ⟨ad2, R, cc, rfl, had2, f0, hRc, hRr⟩ := HR.out.at_ hXn
            rw [← hb3.cell (p := ad2.add X) (by rw [add_block]; exact had2)] at f0
            have hok3 : SlOk w B ⟨R, cc, S X⟩ := ⟨hRc, HL2.out X hXn, hRr⟩
            obtain ⟨z, hz⟩ : ∃ z, z = (S X).length := ⟨_, rfl⟩
            have hbl := bl1 W1 (.cells #[.slice R z cc] 28)
            have how4 := how3.below rfl hbl
            have hrd := rdV_new W1 #[.slice R z cc] 28 ([⟨R, cc, S X⟩].map Sl.v) (by rw [hz]; rfl)
            have hb4 := hb3.trans (hbl.mono (Nat.le_of_lt hV3.lt))
            have hV4 := hV3.on hbl
            have hBs : B ≤ (W1.alloc (.cells #[.slice R z cc] 28)).heap.size := Nat.le_of_lt hV4.lt
            have HOK3 := Lib.hid hok3
            rw [← hz] at f0
            clear hok3 hRc hRr hz c0 e1 hbl
            go_wp2_with (at_builtin; go_loud (refine wpList_appX elII rfl (.tmp 43) (.tmp 48) rfl rfl B A3 k2 c3 _ rfl how4 _ 1 1 _ _ rfl hrd rfl Nat.one_pos (slv_one _) (by omega) (by unfold maxLen; omega) hBs (k2 + 1) rfl ((T2 ++ [(⟨R, cc, S X⟩ : Sl)]).map Sl.v) List.map_append.symm ?_; intro A4 c4 w4 hw4 hb5 hot))
            go_roundw
            case rel =>
              have hV5 := hV4.keep (w' := w4) (hot.gb.block B hV4.lt fun e => hob2 e.symm) hot.gb.size
              refine ⟨i + 1, k2 + 1, c4, A4, T2 ++ [⟨R, cc, S X⟩], put1 M2 X true, by omega, by go_num, rfl, hw4, fun s hs => ?_, ?_, hV5.congr fun j _ => ?_, hb4.trans hb5, ?_, ?_, ?_⟩
              · rcases List.mem_append.1 hs with hs | hs
                · exact HOK2.out s hs
                · simp at hs; subst hs; exact HOK3.out
              · rw [List.map_append]; exact HCV.out.mark HS.out
              · unfold put1; split <;> rfl
              · rcases hot.at_ with e | ⟨g4, e, hge⟩
                · rw [e]; exact hob2
                · rw [e]
                  intro e5
                  injection e5 with e5
                  have := hV4.lt
                  omega
              · have := HUP.out; omega
              · have := HUP.out; omega
            case measure => simp [intOf]; omega
        · have hge : sl.length ≤ i := by omega
          obtain rfl : i = sl.length := by omega
          have hcv := HC2.out
          rw [List.drop_length] at hcv
          have HCV := Lib.hid hcv.drop
          have hun2 := hV2.unw
          clear hcv
          go_wp2_with fail
          go_roundw
          case rel => exact ⟨T2, M2, k2, c3, A3, rfl, how2, HOK2.out, HCV.out, hV2, hb2, hob2, by omega⟩
          case measure => simp [lenOf]; have := HUN.out; omega
    · obtain rfl : k = 0 := by omega
      have hTl := how.len
      rw [List.length_map, Nat.zero_mul] at hTl
      obtain rfl : T = [] := List.eq_nil_of_length_eq_zero hTl
      have HC := Lib.hid (hcov.done HF.out HS.out)
      clear hcov hTl hun
      go_wp2_with fail
      go_ret
      exact ⟨B, M, rfl, hV, by rw [HBB.out]; exact Nat.le_refl _, by rw [← HBB.out]; exact hb, HC.out⟩
end Go.Proofs.Ytknlhhbkahollaa
