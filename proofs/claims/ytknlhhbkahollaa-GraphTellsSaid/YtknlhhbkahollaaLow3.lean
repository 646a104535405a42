/- Contracts and mathematics that the texts behind it stand on: Gled, Gclo, More, Tidy, KidsM, Rkids, Rdeep, Rleaves, Times. -/
import Derived.Test.YtknlhhbkahollaaLow2
import Derived.IntWalk
import Derived.BigQuiet
import Derived.Deep.CutRange
import Derived.Test.YtknlhhbkahollaaLow1
/- A search from a few on: all to whom steps lead. -/
namespace Go.Proofs.Ytknlhhbkahollaa
open Go.RowKit Tab
set_option linter.unusedSimpArgs false
set_option linter.unusedVariables false

/-- A slice of numbers that is to be gone through. -/
structure Sl where
  a : Option Addr
  c : Nat
  l : List Nat
def Sl.v (s : Sl) : Value := .slice s.a s.l.length s.c
def SlOk (w : World) (B : Nat) (s : Sl) : Prop := s.l.length ≤ s.c ∧ s.l.length ≤ 1048576 ∧ RdI w B s.a s.l.length (s.l.map fun x : Nat => (x : Int))
theorem slv_one (T : List Sl) : ∀ u ∈ T.map Sl.v, u.oneCell' = true := by
  intro u hu
  obtain ⟨s, _, rfl⟩ := List.mem_map.1 hu
  rfl
/-- What is not marked, by the cells. -/
def unw (w : World) (h n : Nat) : Nat := un n fun j => match w.cell? ⟨h, j, none⟩ with | some (.bool b) => b | _ => false
theorem Vec.unw {w : World} {h n : Nat} {M : Nat → Bool} (hv : Vec w h n fun j => .bool (M j)) : unw w h n = un n M := by
  unfold Go.Proofs.Ytknlhhbkahollaa.unw
  exact un_congr fun j hj => by rw [hv.cell j hj]
theorem OwnV.keep' {E s B n c : Nat} {w w' : World} {A : Option Addr} {l : List Value} (h : OwnV E s w B A n c l) (hk : ∀ g, obk A = some g → w'.heap[g]? = w.heap[g]?) : OwnV E s w' B A n c l := by
  refine ⟨h.1, ?_⟩
  rcases h.2 with hv | ⟨g, cap, cur, hv, hbg, hg, r⟩
  · exact .inl hv
  · exact .inr ⟨g, cap, cur, hv, hbg, by rw [hk g (by injection hv with h1; rw [h1]; rfl)]; exact hg, r⟩
theorem drop_at {L : List Nat} {i : Nat} (h : i < L.length) : L.drop i = L[i] :: L.drop (i + 1) := List.drop_eq_getElem_cons h
theorem un_le (n : Nat) (M : Nat → Bool) : un n M ≤ n := by
  induction n with
  | zero => exact Nat.le_refl _
  | succ n ih => simp only [un]; split <;> omega
/-- What is led to. -/
def LedP (n : Nat) (S : Nat → List Nat) (F : List Nat) (w : World) (e : Ending) (w' : World) : Prop :=
  ∃ (h : Nat) (M : Nat → Bool), e = .returned (.slice (some ⟨h, 0, none⟩) n n) ∧ Vec w' h n (fun j => .bool (M j)) ∧ w.heap.size ≤ h ∧ Below w.heap.size w w' ∧ ∀ a, M a = true ↔ Rch S F a
set_option maxRecDepth 100000 in
set_option maxHeartbeats 4000000 in
theorem led_any (A A1 : Option Addr) (n c c1 : Nat) (S : Nat → List Nat) (F : List Nat) (w : World) (h : RdS w w.heap.size A n S) (h1 : RdI w w.heap.size A1 F.length (F.map fun x : Nat => (x : Int))) (hc1 : F.length ≤ c1) (hn : n ≤ 1024)
    (hF : ∀ x ∈ F, x < n) (hS : ∀ b, b < n → ∀ y ∈ S b, y < n) (hl1 : F.length ≤ 1048576) (hl2 : ∀ b, b < n → (S b).length ≤ 1048576) :
    Calls Try.prog 32 #[.slice A n c, .slice A1 F.length c1] w (LedP n S F w) := by
  have hmb := run_makeB n (by omega)
  obtain ⟨B, hB⟩ : ∃ B, B = w.heap.size := ⟨_, rfl⟩
  have HBB := Lib.hid hB
  have HS := Lib.hid hS
  have HF := Lib.hid hF
  have HL2 := Lib.hid hl2
  have hrf : SlOk w B ⟨A1, c1, F⟩ := ⟨hc1, hl1, by rw [hB]; exact h1⟩
  have hV0 : Vec (w.alloc (.cells (madeCells #[.bool false] n) 4)) B n fun j => .bool false := by rw [hB]; exact Vec.lit w _ _ n _ fun j hj => made_get _ n j hj
  obtain ⟨W0, hW0⟩ : ∃ W0, W0 = (w.alloc (.cells (madeCells #[.bool false] n) 4)).alloc (.cells #[.slice A1 F.length c1] 28) := ⟨_, rfl⟩
  have hsz0 : (w.alloc (.cells (madeCells #[.bool false] n) 4)).heap.size = B + 1 := by rw [hB]; simp
  have hV1 : Vec W0 B n fun j => .bool ((fun _ => false : Nat → Bool) j) := by rw [hW0]; exact hV0.on (bl1 _ _)
  have hO1 : OwnV 28 1 W0 B (some ⟨B + 1, 0, none⟩) 1 1 ([⟨A1, c1, F⟩].map Sl.v) := by
    have := ownV_lit (w.alloc (.cells (madeCells #[.bool false] n) 4)) 28 1 B #[.slice A1 F.length c1] 1 rfl (by omega) (by unfold maxLen; omega)
    rw [hsz0, ← hW0] at this
    exact this
  have hb1 : Below B w W0 := by
    rw [hW0, hB]
    exact (bl1 w _).alloc (by simp) _
  have hlt0 : B + 1 < W0.heap.size := by rw [hW0, hB]; simp
  have HW0 := Lib.hid hW0
  have HR : Hid (RdS w B A n S) := Lib.hid (by rw [hB]; exact h)
  clear h h1 hc1 hl1 hV0 hS hF hl2 hW0
  go_enter Try.func32, Try.ntmps32
  go_wp2_with fail
  rw [← HW0.out]
  rw [← HBB.out]
  clear hB
  go_loopw [6, 7, 8, 10] (fun t _ _ _ wr => ∃ (T : List Sl) (M : Nat → Bool) (k c2 : Nat) (A2 : Option Addr), t = .slice A2 k c2 ∧ OwnV 28 1 wr B A2 k c2 (T.map Sl.v) ∧ (∀ s ∈ T, SlOk w B s) ∧ Cov n S F M (T.map Sl.l) ∧ Vec wr B n (fun j => .bool (M j)) ∧ Below B w wr ∧ obk A2 ≠ some B ∧ k + un n M ≤ 2048) (fun t _ _ _ wr => lenOf t + 2 * unw wr B n)
  case atStart => exact ⟨[⟨A1, c1, F⟩], fun _ => false, 1, 1, some ⟨B + 1, 0, none⟩, rfl, hO1, fun s hs => by simp at hs; subst hs; exact hrf, Cov.start HF.out, hV1, hb1, fun e => by injection e with e; simp at e, by
    have : un n (fun _ => false) ≤ n := un_le _ _
    omega⟩
  case round =>
    obtain ⟨T, M, k, c2, A2, rfl, how, hok, hcov, hV, hb, hob, hkb⟩ := hrel
    have hun := hV.unw
    by_cases hk0 : 0 < k
    · obtain ⟨k', rfl⟩ : ∃ k', k = k' + 1 := ⟨k - 1, by omega⟩
      have hTl := how.len
      rw [List.length_map, Nat.mul_one] at hTl
      obtain ⟨T0, s, rfl⟩ : ∃ T0 s, T = T0 ++ [s] := by
        rcases List.eq_nil_or_concat T with e | ⟨T0, s, e⟩
        · subst e; simp at hTl
        · exact ⟨T0, s, by simpa using e⟩
      have hT0 : T0.length = k' := by simpa using hTl
      obtain ⟨g, rfl, hBg, hgl⟩ := how.block (by omega)
      have hs1 := hok s (by simp)
      have hT0ok : ∀ s ∈ T0, SlOk w B s := fun x hx => hok x (by simp [hx])
      rw [List.map_append, List.map_singleton] at hcov
      have hcov1 := hcov.pop
      have d0 : wr.cell? ⟨g, k', none⟩ = some (.slice s.a s.l.length s.c) := by
        refine (World.ownsRow.cellAt how k' (by omega)).trans ?_
        rw [List.map_append, List.getElem?_append_right (by rw [List.length_map]; omega), List.length_map, hT0, Nat.sub_self]
        rfl
      have hcapn := how.cap
      have how1 := how.frontC k' (by omega)
      rw [Nat.mul_one, List.map_append, List.take_left' (by rw [List.length_map]; exact hT0)] at how1
      have hkk : (k' : Int) < (k' : Int) + 1 := by omega
      have hwrap : IntKind.i64.wrap ((k' : Int) + 1 - 1) = (k' : Int) := by rw [IntWalk.i64_in _ (by omega)]; omega
      have hkc : k' ≤ c2 := by omega
      obtain ⟨sa, sc, sl⟩ := s
      dsimp only at d0 hcov1
      have hsr := hs1.2.2
      have hsl := hs1.2.1
      have hsc := hs1.1
      dsimp only at hsr hsl hsc
      have HOK := Lib.hid hT0ok
      have HC := Lib.hid hcov1
      have HUN := Lib.hid hun
      have HMM := Lib.hid hT0
      clear how hok hcov hTl hs1 hT0ok hun hT0 hcov1
      go_wp2_with fail
      clear d0 hsz0 hV1 hO1 hb1 hlt0
      go_loopw [6, 10, 31] (fun t _ s wx => ∃ (i k2 c3 : Nat) (A3 : Option Addr) (T2 : List Sl) (M2 : Nat → Bool), i ≤ sl.length ∧ s = .int .i64 i ∧ t = .slice A3 k2 c3 ∧ OwnV 28 1 wx B A3 k2 c3 (T2.map Sl.v) ∧ (∀ s ∈ T2, SlOk w B s) ∧ Cov n S F M2 (sl.drop i :: T2.map Sl.l) ∧ Vec wx B n (fun j => .bool (M2 j)) ∧ Below B w wx ∧ obk A3 ≠ some B ∧ k2 + un n M2 = k' + un n M ∧ un n M2 ≤ un n M) (fun _ _ s _ => sl.length - (intOf s).toNat)
      case atStart => exact ⟨0, k', c2, some ⟨g, 0, none⟩, T0, M, by omega, rfl, rfl, how1, HOK.out, HC.out, hV, hb, hob, rfl, Nat.le_refl _⟩
      case round =>
        obtain ⟨i, k2, c3, A3, T2, M2, hi, rfl, rfl, how2, hok2, hcov2, hV2, hb2, hob2, hsum, hle2⟩ := hrel
        have HOK2 := Lib.hid hok2
        have HC2 := Lib.hid hcov2
        clear hok2 hcov2
        by_cases hlt : i < sl.length
        · obtain ⟨ad, x, rfl, had, hx, c0⟩ := hsr.at_ hlt
          rw [List.getElem?_map, List.getElem?_eq_getElem hlt] at hx
          simp only [Option.map_some, Option.some.injEq] at hx
          obtain ⟨X, hX⟩ : ∃ X, X = sl[i] := ⟨_, rfl⟩
          rw [← hX] at hx
          subst hx
          have hcv := HC2.out
          rw [drop_at hlt, ← hX] at hcv
          have hXn : X < n := (hcv.todo (X :: sl.drop (i + 1)) (by simp) X (by simp)).1
          rw [← hb2.cell (p := ad.add i) (by rw [add_block]; exact had)] at c0
          have e0 := hV2.cell X hXn
          have e1 := hV2.thaw X
          have HCV := Lib.hid hcv
          clear hcv hX
          cases hm : M2 X with
          | true =>
            rw [hm] at e0
            have HM := Lib.hid hm
            clear hm
            go_wp2_with fail
            go_roundw
            case rel => exact ⟨i + 1, k2, c3, A3, T2, M2, by omega, by go_num, rfl, how2, HOK2.out, HCV.out.skip HM.out, hV2, hb2, hob2, hsum, hle2⟩
            case measure => simp [intOf]; omega
          | false =>
            rw [hm] at e0
            have hup := un_put hXn hm
            have hV3 := hV2.set X (.bool true)
            have hb3 := hb2.setCell (p := ⟨B, X, none⟩) (Nat.le_refl _) (.bool true)
            have how3 : OwnV 28 1 (wr.setCell ⟨B, X, none⟩ (.bool true)) B A3 k2 c3 (T2.map Sl.v) := by
              refine how2.keep' fun g hg => ?_
              exact Below.heap_setCell _ _ _ _ (fun e => hob2 (by rw [hg]; exact congrArg some e))
            have HM := Lib.hid hm
            have HUP := Lib.hid hup
            have HE := Lib.hid e0
            clear hm hup
            go_upto_region 12 with fail
            generalize wr.setCell ⟨B, X, none⟩ (.bool true) = W1 at hV3 hb3 how3 ⊢
            obtain ⟨ad2, R, cc, rfl, had2, f0, hRc, hRr⟩ := HR.out.at_ hXn
            rw [← hb3.cell (p := ad2.add X) (by rw [add_block]; exact had2)] at f0
            have hok3 : SlOk w B ⟨R, cc, S X⟩ := ⟨hRc, HL2.out X hXn, hRr⟩
            obtain ⟨z, hz⟩ : ∃ z, z = (S X).length := ⟨_, rfl⟩
            have hbl := bl1 W1 (.cells #[.slice R z cc] 28)
            have how4 := how3.below rfl hbl
            have hrd := rdV_new W1 #[.slice R z cc] 28 ([⟨R, cc, S X⟩].map Sl.v) (by rw [hz]; rfl)
            have hb4 := hb3.trans (hbl.mono (Nat.le_of_lt hV3.lt))
            have hV4 := hV3.on hbl
            have hBs : B ≤ (W1.alloc (.cells #[.slice R z cc] 28)).heap.size := Nat.le_of_lt hV4.lt
            have HOK3 := Lib.hid hok3
            rw [← hz] at f0
            clear hok3 hRc hRr hz c0 e1 hbl
            go_wp2_with (at_builtin; go_loud (refine wpList_appX elII rfl (.tmp 43) (.tmp 48) rfl rfl B A3 k2 c3 _ rfl how4 _ 1 1 _ _ rfl hrd rfl Nat.one_pos (slv_one _) (by omega) (by unfold maxLen; omega) hBs (k2 + 1) rfl ((T2 ++ [(⟨R, cc, S X⟩ : Sl)]).map Sl.v) List.map_append.symm ?_; intro A4 c4 w4 hw4 hb5 hot))
            go_roundw
            case rel =>
              have hV5 := hV4.keep (w' := w4) (hot.gb.block B hV4.lt fun e => hob2 e.symm) hot.gb.size
              refine ⟨i + 1, k2 + 1, c4, A4, T2 ++ [⟨R, cc, S X⟩], put1 M2 X true, by omega, by go_num, rfl, hw4, fun s hs => ?_, ?_, hV5.congr fun j _ => ?_, hb4.trans hb5, ?_, ?_, ?_⟩
              · rcases List.mem_append.1 hs with hs | hs
                · exact HOK2.out s hs
                · simp at hs; subst hs; exact HOK3.out
              · rw [List.map_append]; exact HCV.out.mark HS.out
              · unfold put1; split <;> rfl
              · rcases hot.at_ with e | ⟨g4, e, hge⟩
                · rw [e]; exact hob2
                · rw [e]
                  intro e5
                  injection e5 with e5
                  have := hV4.lt
                  omega
              · have := HUP.out; omega
              · have := HUP.out; omega
            case measure => simp [intOf]; omega
        · have hge : sl.length ≤ i := by omega
          obtain rfl : i = sl.length := by omega
          have hcv := HC2.out
          rw [List.drop_length] at hcv
          have HCV := Lib.hid hcv.drop
          have hun2 := hV2.unw
          clear hcv
          go_wp2_with fail
          go_roundw
          case rel => exact ⟨T2, M2, k2, c3, A3, rfl, how2, HOK2.out, HCV.out, hV2, hb2, hob2, by omega⟩
          case measure => simp [lenOf]; have := HUN.out; omega
    · obtain rfl : k = 0 := by omega
      have hTl := how.len
      rw [List.length_map, Nat.zero_mul] at hTl
      obtain rfl : T = [] := List.eq_nil_of_length_eq_zero hTl
      have HC := Lib.hid (hcov.done HF.out HS.out)
      clear hcov hTl hun
      go_wp2_with fail
      go_ret
      exact ⟨B, M, rfl, hV, by rw [HBB.out]; exact Nat.le_refl _, by rw [← HBB.out]; exact hb, HC.out⟩
end Go.Proofs.Ytknlhhbkahollaa

/- Closing a matrix by searches. -/
namespace Go.Proofs.Ytknlhhbkahollaa
open Go.RowKit Tab
set_option linter.unusedSimpArgs false
set_option linter.unusedVariables false

theorem OwnV.obk_ge {E s B n c b : Nat} {w : World} {A : Option Addr} {l : List Value} (h : OwnV E s w B A n c l) (hA : obk A = some b) : B ≤ b ∧ b < w.heap.size := by
  rcases h.2 with ⟨hv, _⟩ | ⟨g, cap, cur, hv, hbg, hg, _⟩
  · injection hv with h1
    subst h1
    cases hA
  · injection hv with h1
    subst h1
    injection hA with hA
    have hA : g = b := hA
    subst hA
    exact ⟨hbg, (Array.getElem?_eq_some_iff.1 hg).1⟩
def cast (l : List Nat) : List Int := l.map fun x : Nat => (x : Int)
/-- Rows of numbers of a call's own in a row of its own: k of them are laid. -/
structure Stp (w : World) (B g n k : Nat) (R : Nat → Option Addr × Nat) (S : Nat → List Nat) : Prop where
  outer : ∃ f, Vec w g n f ∧ ∀ i, i < k → f i = .slice (R i).1 (S i).length (R i).2
  rows : ∀ i, i < k → OwnV 3 1 w B (R i).1 (S i).length (R i).2 (is (cast (S i)))
  low : B ≤ g
  ne : ∀ i, i < k → obk (R i).1 ≠ some g
  inj : ∀ i j b, i < k → j < k → i ≠ j → obk (R i).1 = some b → obk (R j).1 ≠ some b
section
variable {w w' : World} {g n k B : Nat} {R : Nat → Option Addr × Nat} {S : Nat → List Nat}
theorem Stp.on (h : Stp w B g n k R S) (hb : Below w.heap.size w w') : Stp w' B g n k R S := by
  obtain ⟨f, h1, h2⟩ := h.outer
  exact ⟨⟨f, h1.on hb, h2⟩, fun i hi => (h.rows i hi).below rfl hb, h.low, h.ne, h.inj⟩
theorem Stp.push (h : Stp w B g n k R S) {A : Option Addr} {c : Nat} {l : List Nat} (hx : OwnV 3 1 w B A l.length c (is (cast l))) (hg : obk A ≠ some g) (hA : ∀ i b, i < k → obk (R i).1 = some b → obk A ≠ some b) (hk : k < n) :
    Stp (w.setCell ⟨g, k, none⟩ (.slice A l.length c)) B g n (k + 1) (put1 R k (A, c)) (put1 S k l) := by
  obtain ⟨f, h1, h2⟩ := h.outer
  have hlt : ∀ i, i < k + 1 → i ≠ k → i < k := fun i _ _ => by omega
  have hset : ∀ A n c l, OwnV 3 1 w B A n c l → obk A ≠ some g → ∀ v, OwnV 3 1 (w.setCell ⟨g, k, none⟩ v) B A n c l := fun A n c l ho hne v =>
    ho.keep' fun b hb => Below.heap_setCell _ _ _ _ fun e => hne (by rw [hb]; exact congrArg some e)
  refine ⟨⟨_, h1.set k _, fun i hi => ?_⟩, fun i hi => ?_, h.low, fun i hi => ?_, fun i j b hi hj hij e => ?_⟩
  · by_cases e : i = k
    · subst e; rw [put1_same, put1_same, put1_same]
    · rw [put1_other e, put1_other e, put1_other e]; exact h2 i (hlt i hi e)
  · by_cases e : i = k
    · subst e; rw [put1_same, put1_same]; exact hset _ _ _ _ hx hg _
    · rw [put1_other e, put1_other e]; exact hset _ _ _ _ (h.rows i (hlt i hi e)) (h.ne i (hlt i hi e)) _
  · by_cases e : i = k
    · subst e; rw [put1_same]; exact hg
    · rw [put1_other e]; exact h.ne i (hlt i hi e)
  · by_cases e1 : i = k
    · subst e1
      have e2 : j ≠ i := fun e => hij e.symm
      rw [put1_same] at e
      rw [put1_other e2]
      exact fun e3 => hA j b (hlt j hj e2) e3 e
    · rw [put1_other e1] at e
      by_cases e2 : j = k
      · subst e2; rw [put1_same]; exact hA i b (hlt i hi e1) e
      · rw [put1_other e2]; exact h.inj i j b (hlt i hi e1) (hlt j hj e2) hij e
theorem Stp.rds (h : Stp w B g n n R S) : RdS w w.heap.size (some ⟨g, 0, none⟩) n S := by
  obtain ⟨f, h1, h2⟩ := h.outer
  exact ⟨R, (h1.congr h2).rdc, fun i hi => ⟨(h.rows i hi).cap, ⟨by simp, (h.rows i hi).rd⟩⟩⟩
theorem RdS.congr {A : Option Addr} {T : Nat → List Nat} (h : RdS w B A n S) (e : ∀ i, i < n → S i = T i) : RdS w B A n T := by
  obtain ⟨R, h1, h2⟩ := h
  exact ⟨R, h1.congr fun i hi => by rw [e i hi], fun i hi => by rw [← e i hi]; exact h2 i hi⟩
end
theorem add_one'' (g k : Nat) : (⟨g, 0, none⟩ : Addr).add k = ⟨g, k, none⟩ := by
  unfold Addr.add
  split
  · rename_i h
    rw [h]
  · simp
theorem Mat.weak {w : World} {B B' g n k : Nat} {G : Nat → Nat} {m : Nat → Nat → Bool} (h : Mat w B g n k G m) (hB : B' ≤ B) : Mat w B' g n k G m :=
  ⟨h.outer, h.rows, Nat.le_trans hB h.low, fun i hi => Nat.le_trans hB (h.ge i hi), h.ne, h.inj⟩
set_option maxRecDepth 100000 in
set_option maxHeartbeats 4000000 in
theorem closure_any (A : Option Addr) (n c : Nat) (m : Nat → Nat → Bool) (w : World) (h : RdM w w.heap.size A n (fun _ => n) m) (hn : n ≤ 1024) :
    Calls Try.prog 12 #[.slice A n c] w (MadG n (War m n) w) := by
  have HSQ := Lib.hid (square_any A n c _ m w h hn)
  have hsq : sqB n (fun _ => n) = true := sqB_iff.2 fun _ _ => rfl
  rw [hsq] at HSQ
  have hmk := run_makeII n (by omega)
  have hmb := run_makeBB n (by omega)
  clear hsq
  go_enter Try.func12, Try.ntmps12
  go_wp2_with fail
  refine HSQ.out.mono ?_
  rintro e w1 ⟨rfl, hb1⟩
  have h1 := h.on hb1
  obtain ⟨B, hB⟩ : ∃ B, B = w.heap.size := ⟨_, rfl⟩
  have HB := Lib.hid hB
  have hBw : B ≤ w1.heap.size := by rw [hB]; exact hb1.size
  have hS0 : Stp (w1.alloc (.cells (madeCells #[.slice none 0 0] n) 28)) B w1.heap.size n 0 (fun _ => (none, 0)) (fun x => plcs n (m x)) :=
    ⟨⟨fun _ => .slice none 0 0, Vec.lit _ _ _ n _ fun j hj => made_get _ n j hj, fun i hi => by omega⟩, fun i hi => by omega, hBw, fun i hi => by omega, fun i j b hi => by omega⟩
  have hb2 : Below B w (w1.alloc (.cells (madeCells #[.slice none 0 0] n) 28)) := by
    rw [hB]; exact hb1.trans ((bl1 _ _).mono hb1.size)
  have h2 := h1.on (bl1 w1 (.cells (madeCells #[.slice none 0 0] n) 28))
  have hgs : w1.heap.size < (w1.alloc (.cells (madeCells #[.slice none 0 0] n) 28)).heap.size := by simp
  have HRM : Hid (RdM w B A n (fun _ => n) m) := Lib.hid (by rw [hB]; exact h)
  clear HSQ h hB h1 hb1 h2
  go_wp2_with fail
  generalize w1.alloc (.cells (madeCells #[.slice none 0 0] n) 28) = W0 at hS0 hb2 hgs ⊢
  generalize w1.heap.size = g at hS0 hgs hBw ⊢
  clear hmk
  go_loopw [4, 5, 16] (fun _ _ s wr => ∃ (i : Nat) (R : Nat → Option Addr × Nat) (S : Nat → List Nat), i ≤ n ∧ s = .int .i64 i ∧ Stp wr B g n i R S ∧ (∀ j, j < i → S j = plcs n (m j)) ∧ Below B w wr) (fun _ _ s _ => n - (intOf s).toNat)
  case atStart => exact ⟨0, _, _, by omega, rfl, hS0, fun j hj => by omega, hb2⟩
  case round =>
    obtain ⟨i, R, S, hi, rfl, hS, hSp, hb⟩ := hrel
    have HSP := Lib.hid hSp
    clear hSp
    have hgl : g < wr.heap.size := by
      obtain ⟨f, h1, _⟩ := hS.outer
      exact h1.lt
    by_cases hlt : i < n
    · obtain ⟨ad, Ra, ca, rfl, had, c0, hca, hrow⟩ := (HRM.out.below hb).at_ hlt
      have HPL := Lib.hid (places_any Ra n ca (m i) wr (hrow.more (by omega)) hn)
      clear hrow
      go_wp2_with fail
      refine HPL.out.mono ?_
      rintro e w5 ⟨A5, c5, rfl, ho5, hb5⟩
      have hS5 := hS.on hb5
      have hb6 := hb.trans (hb5.mono (by omega))
      obtain ⟨f, hf, _⟩ := hS5.outer
      have d0 := hf.cell i hlt
      have d1 := hf.thaw i
      have hP := hS5.push (A := A5) (c := c5) (l := plcs n (m i)) (ho5.weak (by omega)) (fun e => by
        have := (ho5.obk_ge e).1
        omega) (fun j b hj e e2 => by
        have h1 := (ho5.obk_ge e2).1
        have h2 := ((hS.rows j hj).obk_ge e).2
        omega) hlt
      have hb7 := hb6.setCell (p := ⟨g, i, none⟩) hBw (.slice A5 (plcs n (m i)).length c5)
      have HP := Lib.hid hP
      have HB7 := Lib.hid hb7
      clear hS hS5 hb hb5 hb6 hP hb7 hf HPL c0 ho5
      generalize (plcs n (m i)).length = z at HP HB7 ⊢
      go_wp2_with fail
      go_roundw
      case rel => exact ⟨i + 1, _, _, by omega, by go_num, HP.out, fun j hj => by
        by_cases e : j = i
        · subst e; rw [put1_same]
        · rw [put1_other e]; exact HSP.out j (by omega), HB7.out⟩
      case measure => simp [intOf]; omega
    · have hge : n ≤ i := by omega
      obtain rfl : n = i := by omega
      have hR := hS.rds.congr HSP.out
      have HR := Lib.hid hR
      have hM0 := Mat.start wr wr.heap.size n (Nat.le_refl _) 40 m (fun _ => 0)
      have hb9 := bl1 wr (.cells (madeCells #[.slice none 0 0] n) 40)
      have HBB := Lib.hid hb
      have hBx : B ≤ wr.heap.size := by omega
      clear hS HSP hR hb hgl
      go_wp2_with fail
      obtain ⟨w2, hw2⟩ : ∃ w2, w2 = wr := ⟨_, rfl⟩
      rw [← hw2] at HR hM0 hb9 HBB hBx ⊢
      obtain ⟨x, hx⟩ : ∃ x, x = w2.heap.size := ⟨_, rfl⟩
      rw [← hx] at HR hM0 hb9 hBx ⊢
      generalize w2.alloc (.cells (madeCells #[.slice none 0 0] n) 40) = W2 at hM0 hb9 ⊢
      clear hw2 hmb
      have HX := Lib.hid hx
      clear hx
      go_loopw [7, 32] (fun _ s wx => ∃ (i : Nat) (G : Nat → Nat) (M : Nat → Nat → Bool), i ≤ n ∧ s = .int .i64 i ∧ Mat wx x x n i G M ∧ (∀ a, a < i → ∀ b, M a b = true ↔ Rch (fun x => plcs n (m x)) (plcs n (m a)) b) ∧ Below x w2 wx) (fun _ s _ => n - (intOf s).toNat)
      case atStart => exact ⟨0, _, _, by omega, rfl, hM0, fun j hj => by omega, hb9⟩
      case round =>
        obtain ⟨i, G, M, hi, rfl, hM, hMp, hb⟩ := hrel
        have HMP := Lib.hid hMp
        clear hMp
        have hxl : x < wr.heap.size := by
          obtain ⟨f, h1, _⟩ := hM.outer
          exact h1.lt
        by_cases hlt : i < n
        · have hR2 := (HR.out.below hb).more (Nat.le_of_lt hxl)
          obtain ⟨ad, Ra, ca, e, had, c0, hca, hrow⟩ := hR2.at_ hlt
          injection e with e
          subst e
          have e1 : (⟨g, 0, none⟩ : Addr).add i = ⟨g, i, none⟩ := add_one'' g i
          rw [e1] at c0
          have HLD := Lib.hid (led_any (some ⟨g, 0, none⟩) Ra n n ca (fun x => plcs n (m x)) (plcs n (m i)) wr hR2 hrow hca hn (fun y hy => (mem_plcs.1 hy).1) (fun b _ y hy => (mem_plcs.1 hy).1) (by have := plcs_len n (m i); omega) (fun b _ => by have := plcs_len n (m b); omega))
          clear hrow hR2
          generalize (plcs n (m i)).length = z at c0 hca HLD
          go_wp2_with fail
          refine HLD.out.mono ?_
          rintro e w5 ⟨h5, M5, rfl, hv5, hh5, hb5, hm5⟩
          have hM5 := hM.on hb5
          have hb6 := hb.trans (hb5.mono (Nat.le_of_lt hxl))
          obtain ⟨f, hf, _⟩ := hM5.outer
          have d0 := hf.cell i hlt
          have d1 := hf.thaw i
          have hP := hM5.push hv5 (by omega) (by omega) (fun j hj => by
            have := (hM.rows j hj).lt
            omega) hlt
          have hb7 := hb6.setCell (p := ⟨x, i, none⟩) (Nat.le_refl _) (.slice (some ⟨h5, 0, none⟩) n n)
          have HP := Lib.hid hP
          have HB7 := Lib.hid hb7
          have HM5 := Lib.hid hm5
          clear hM hM5 hb hb5 hb6 hP hb7 hf HLD c0 hv5 hm5
          go_wp2_with fail
          go_roundw
          case rel => exact ⟨i + 1, _, _, by omega, by go_num, HP.out, fun a ha b => by
            by_cases e : a = i
            · subst e; simp only [if_true]; exact HM5.out b
            · simp only [e, if_false]; exact HMP.out a (by omega) b, HB7.out⟩
          case measure => simp [intOf]; omega
        · have hge : n ≤ i := by omega
          obtain rfl : n = i := by omega
          have hfin := (hM.congr (m' := War m n) fun a b ha hb => by rw [rch_war HMP.out a b ha hb]).weak hBx
          clear hM
          go_wp2_with fail
          go_ret
          refine ⟨x, G, rfl, by rw [← HB.out]; exact hfin, ?_⟩
          have := HBB.out.trans (hb.mono hBx)
          rw [HB.out] at this
          exact this
/-- Of what is not square: none. -/
theorem closure_none (A : Option Addr) (n c : Nat) (l : Nat → Nat) (m : Nat → Nat → Bool) (w : World) (h : RdM w w.heap.size A n l m) (hn : n ≤ 1024) (hs : sqB n l = false) :
    Calls Try.prog 12 #[.slice A n c] w (Ans (.slice none 0 0) w) := by
  have HSQ := Lib.hid (square_any A n c _ m w h hn)
  rw [hs] at HSQ
  clear h hs
  go_enter Try.func12, Try.ntmps12
  go_wp2_with fail
  refine HSQ.out.mono ?_
  rintro e w1 ⟨rfl, hb1⟩
  go_wp2_with fail
  go_ret
  exact ⟨rfl, hb1⟩
end Go.Proofs.Ytknlhhbkahollaa

/- Ticks together. -/
namespace Go.Proofs.Ytknlhhbkahollaa
open Go.RowKit Tab
set_option linter.unusedSimpArgs false
set_option linter.unusedVariables false

theorem sum_any (s n S N : Int) (w : World) (hs : 0 ≤ s) (hn : 0 ≤ n) (h : s + n ≤ 4611686018427387904) (hS : S = s) (hN : N = n) :
    Calls Try.prog 49 #[.int .i64 S, .int .i64 N] w fun e w' => e = .returned (.int .i64 (s + n)) ∧ w' = w := by
  subst hS; subst hN
  have h1 : ¬ 9223372036854775807 - N < S := by omega
  have m1 : max S 0 = S := by omega
  have m2 : max N 0 = N := by omega
  go_enter Try.func49, Try.ntmps49
  go_wp2
  go_ret
  exact ⟨rfl, rfl⟩
end Go.Proofs.Ytknlhhbkahollaa

/- Runs side by side of one as one; whose ticks they are: plain mathematics. -/
namespace Go.Proofs.Ytknlhhbkahollaa
namespace Tab

/-- One run more behind a tidy row. -/
def tpush (out : List Rn) (x : Rn) : List Rn := if x.n = 0 then out else match out.getLast? with
  | some y => if y.p = x.p then out.dropLast ++ [⟨y.p, y.n + x.n⟩] else out ++ [x]
  | none => [x]
def tidyOn (out l : List Rn) : List Rn := l.foldl tpush out
def tidy (l : List Rn) : List Rn := tidyOn [] l
/-- How many ticks are of p. -/
def tkOf (p : Int) : List Rn → Nat
  | [] => 0
  | r :: s => (if r.p = p then r.n else 0) + tkOf p s
/-- No run without ticks, no two side by side of one. -/
def Apart : List Rn → Prop
  | [] => True
  | [r] => 1 ≤ r.n
  | r :: q :: s => 1 ≤ r.n ∧ r.p ≠ q.p ∧ Apart (q :: s)

theorem tpush_none {out : List Rn} {x : Rn} (h : x.n = 0) : tpush out x = out := if_pos h
theorem tpush_nil {x : Rn} (h : x.n ≠ 0) : tpush [] x = [x] := by unfold tpush; rw [if_neg h]; rfl
theorem tpush_one {o : List Rn} {y x : Rn} (h : x.n ≠ 0) (hp : y.p = x.p) : tpush (o ++ [y]) x = o ++ [⟨y.p, y.n + x.n⟩] := by
  unfold tpush
  rw [if_neg h]
  simp [hp]
theorem tpush_new {o : List Rn} {y x : Rn} (h : x.n ≠ 0) (hp : y.p ≠ x.p) : tpush (o ++ [y]) x = o ++ [y] ++ [x] := by
  unfold tpush
  rw [if_neg h]
  simp [hp]
/-- The cases of one run more. -/
theorem tpush_cases (out : List Rn) (x : Rn) : (x.n = 0 ∧ tpush out x = out) ∨ (x.n ≠ 0 ∧ out = [] ∧ tpush out x = [x]) ∨ (∃ o y, x.n ≠ 0 ∧ out = o ++ [y] ∧ y.p = x.p ∧ tpush out x = o ++ [⟨y.p, y.n + x.n⟩]) ∨
    ∃ o y, x.n ≠ 0 ∧ out = o ++ [y] ∧ y.p ≠ x.p ∧ tpush out x = out ++ [x] := by
  by_cases h : x.n = 0
  · exact .inl ⟨h, tpush_none h⟩
  · rcases List.eq_nil_or_concat out with rfl | ⟨o, y, rfl⟩
    · exact .inr (.inl ⟨h, rfl, tpush_nil h⟩)
    · simp only [List.concat_eq_append]
      by_cases hp : y.p = x.p
      · exact .inr (.inr (.inl ⟨o, y, h, rfl, hp, tpush_one h hp⟩))
      · exact .inr (.inr (.inr ⟨o, y, h, rfl, hp, tpush_new h hp⟩))

theorem tidyOn_append (out a b : List Rn) : tidyOn out (a ++ b) = tidyOn (tidyOn out a) b := List.foldl_append
theorem tidy_more {l : List Rn} {i : Nat} {r : Rn} (h : l[i]? = some r) : tidy (l.take (i + 1)) = tpush (tidy (l.take i)) r := by
  obtain ⟨hi, e⟩ := List.getElem?_eq_some_iff.1 h
  unfold tidy tidyOn
  rw [List.take_succ_eq_append_getElem hi, List.foldl_append, e]
  rfl

theorem tkOf_append (p : Int) (a b : List Rn) : tkOf p (a ++ b) = tkOf p a + tkOf p b := by
  induction a with
  | nil => simp [tkOf]
  | cons x a ih => simp only [List.cons_append, tkOf, ih]; omega
theorem tkOf_le (p : Int) (l : List Rn) : tkOf p l ≤ ticks l := by
  induction l with
  | nil => simp [tkOf, ticks]
  | cons x a ih => simp only [tkOf, ticks]; split <;> omega
theorem tkOf_push (p : Int) (out : List Rn) (x : Rn) : tkOf p (tpush out x) = tkOf p out + if x.p = p then x.n else 0 := by
  rcases tpush_cases out x with ⟨h, e⟩ | ⟨h, rfl, e⟩ | ⟨o, y, h, rfl, hp, e⟩ | ⟨o, y, h, rfl, hp, e⟩
  · rw [e, h]; split <;> rfl
  · rw [e]; simp [tkOf]
  · rw [e, tkOf_append, tkOf_append]
    simp only [tkOf, hp]
    split <;> omega
  · rw [e, tkOf_append _ (o ++ [y])]
    simp only [tkOf]
    omega
theorem tkOf_tidyOn (p : Int) (l : List Rn) : ∀ out, tkOf p (tidyOn out l) = tkOf p out + tkOf p l := by
  induction l with
  | nil => intro out; simp [tidyOn, tkOf]
  | cons x l ih =>
    intro out
    have := ih (tpush out x)
    unfold tidyOn at this ⊢
    rw [List.foldl_cons, this, tkOf_push]
    simp only [tkOf]
    omega
theorem tkOf_tidy (p : Int) (l : List Rn) : tkOf p (tidy l) = tkOf p l := by
  unfold tidy
  rw [tkOf_tidyOn]
  simp [tkOf]
theorem ticks_push (out : List Rn) (x : Rn) : ticks (tpush out x) = ticks out + x.n := by
  rcases tpush_cases out x with ⟨h, e⟩ | ⟨h, rfl, e⟩ | ⟨o, y, h, rfl, hp, e⟩ | ⟨o, y, h, rfl, hp, e⟩
  · rw [e, h]; rfl
  · rw [e]; simp [ticks]
  · rw [e, ticks_append, ticks_append]
    simp only [ticks]
    omega
  · rw [e, ticks_append (o ++ [y])]
    simp only [ticks]
    omega
theorem ticks_tidyOn (l : List Rn) : ∀ out, ticks (tidyOn out l) = ticks out + ticks l := by
  induction l with
  | nil => intro out; simp [tidyOn, ticks]
  | cons x l ih =>
    intro out
    have := ih (tpush out x)
    unfold tidyOn at this ⊢
    rw [List.foldl_cons, this, ticks_push]
    simp only [ticks]
    omega
theorem ticks_tidy (l : List Rn) : ticks (tidy l) = ticks l := by
  unfold tidy
  rw [ticks_tidyOn]
  simp [ticks]

theorem whoAt_low (a b : List Rn) (t : Int) (h : t < ticks a) : whoAt (a ++ b) t = whoAt a t := by
  induction a generalizing t with
  | nil => simp only [ticks] at h; rw [whoAt_neg _ _ (by omega), whoAt_neg _ _ (by omega)]
  | cons x a ih =>
    simp only [ticks] at h
    simp only [List.cons_append, whoAt]
    split
    · rfl
    · split
      · rfl
      · exact ih _ (by omega)
theorem whoAt_high (a b : List Rn) (t : Int) (h : (ticks a : Int) ≤ t) : whoAt (a ++ b) t = whoAt b (t - ticks a) := by
  induction a generalizing t with
  | nil => simp [ticks]
  | cons x a ih =>
    simp only [ticks] at h
    simp only [List.cons_append, whoAt, ticks]
    rw [if_neg (by omega), if_neg (by omega), ih _ (by omega)]
    congr 1
    omega
theorem whoAt_one (p : Int) (n : Nat) (t : Int) (h : 0 ≤ t) : whoAt [⟨p, n⟩] t = if t < n then p else -1 := by
  simp only [whoAt]
  rw [if_neg (by omega)]
/-- Rows that are the same tick by tick. -/
def Alike (a b : List Rn) : Prop := ticks a = ticks b ∧ ∀ t : Int, 0 ≤ t → whoAt a t = whoAt b t
theorem alike_push (out : List Rn) (x : Rn) : Alike (tpush out x) (out ++ [x]) := by
  refine ⟨by rw [ticks_push, ticks_append]; simp [ticks], fun t ht => ?_⟩
  rcases tpush_cases out x with ⟨h, e⟩ | ⟨h, rfl, e⟩ | ⟨o, y, h, rfl, hp, e⟩ | ⟨o, y, h, rfl, hp, e⟩
  · rw [e]
    by_cases h1 : t < ticks out
    · rw [whoAt_low _ _ _ h1]
    · obtain ⟨xp, xn⟩ := x
      dsimp only at h
      subst h
      rw [whoAt_high _ _ _ (by omega), whoAt_one _ _ _ (by omega), if_neg (by omega), whoAt_out _ _ (by omega)]
  · rw [e]; rfl
  · rw [e, List.append_assoc]
    by_cases h1 : t < ticks o
    · rw [whoAt_low _ _ _ h1, whoAt_low _ _ _ h1]
    · rw [whoAt_high _ _ _ (by omega), whoAt_high _ _ _ (by omega)]
      obtain ⟨xp, xn⟩ := x
      obtain ⟨yp, yn⟩ := y
      dsimp only at hp h ⊢
      subst hp
      have e1 : ticks [⟨yp, yn⟩] = yn := by simp [ticks]
      rw [whoAt_one _ _ _ (by omega)]
      by_cases h2 : t - ticks o < yn
      · rw [whoAt_low _ _ _ (by rw [e1]; exact h2), whoAt_one _ _ _ (by omega), if_pos (by omega), if_pos h2]
      · rw [whoAt_high _ _ _ (by rw [e1]; omega), e1, whoAt_one _ _ _ (by omega)]
        by_cases h3 : t - ticks o < ((yn + xn : Nat) : Int)
        · rw [if_pos h3, if_pos (by omega)]
        · rw [if_neg h3, if_neg (by omega)]
  · rw [e]
theorem Alike.trans {a b c : List Rn} (h : Alike a b) (k : Alike b c) : Alike a c := ⟨h.1.trans k.1, fun t ht => (h.2 t ht).trans (k.2 t ht)⟩
theorem Alike.back {a b : List Rn} (h : Alike a b) (c : List Rn) : Alike (a ++ c) (b ++ c) := by
  refine ⟨by rw [ticks_append, ticks_append, h.1], fun t ht => ?_⟩
  by_cases h1 : t < ticks a
  · rw [whoAt_low _ _ _ h1, whoAt_low _ _ _ (by rw [← h.1]; exact h1), h.2 t ht]
  · rw [whoAt_high _ _ _ (by omega), whoAt_high _ _ _ (by rw [← h.1]; omega), h.1]
theorem alike_tidyOn (l : List Rn) : ∀ out, Alike (tidyOn out l) (out ++ l) := by
  induction l with
  | nil => intro out; simp only [tidyOn, List.foldl_nil, List.append_nil]; exact ⟨rfl, fun _ _ => rfl⟩
  | cons x l ih =>
    intro out
    have h1 := ih (tpush out x)
    have h2 := (alike_push out x).back l
    rw [List.append_assoc] at h2
    exact h1.trans h2
theorem whoAt_tidy (l : List Rn) (t : Int) : whoAt (tidy l) t = whoAt l t := by
  by_cases h : 0 ≤ t
  · have := (alike_tidyOn l []).2 t h
    simpa [tidy] using this
  · rw [whoAt_neg _ _ (by omega), whoAt_neg _ _ (by omega)]

theorem Apart.pos {l : List Rn} (h : Apart l) : ∀ r ∈ l, 1 ≤ r.n := by
  induction l with
  | nil => simp
  | cons r l ih =>
    cases l with
    | nil => intro q hq; simp at hq; subst hq; exact h
    | cons q s =>
      intro y hy
      rcases List.mem_cons.1 hy with rfl | hy
      · exact h.1
      · exact ih h.2.2 y hy
theorem Apart.snoc {o : List Rn} {y x : Rn} (h : Apart (o ++ [y])) (hx : 1 ≤ x.n) (hp : y.p ≠ x.p) : Apart (o ++ [y] ++ [x]) := by
  induction o with
  | nil => exact ⟨h, hp, hx⟩
  | cons r o ih =>
    cases o with
    | nil => exact ⟨h.1, h.2.1, ih h.2.2⟩
    | cons q s => exact ⟨h.1, h.2.1, ih h.2.2⟩
theorem Apart.more {o : List Rn} {y : Rn} (h : Apart (o ++ [y])) (k : Nat) : Apart (o ++ [⟨y.p, y.n + k⟩]) := by
  induction o with
  | nil => have h' : 1 ≤ y.n := h; show 1 ≤ y.n + k; omega
  | cons r o ih =>
    cases o with
    | nil => exact ⟨h.1, h.2.1, ih h.2.2⟩
    | cons q s => exact ⟨h.1, h.2.1, ih h.2.2⟩
theorem Apart.push {out : List Rn} (h : Apart out) (x : Rn) : Apart (tpush out x) := by
  rcases tpush_cases out x with ⟨h0, e⟩ | ⟨h0, rfl, e⟩ | ⟨o, y, h0, rfl, hp, e⟩ | ⟨o, y, h0, rfl, hp, e⟩
  · rw [e]; exact h
  · rw [e]; show 1 ≤ x.n; omega
  · rw [e]; exact h.more _
  · rw [e]; exact h.snoc (by omega) hp
theorem tidyOn_apart (l : List Rn) : ∀ out, Apart out → Apart (tidyOn out l) := by
  induction l with
  | nil => intro out h; exact h
  | cons x l ih => intro out h; exact ih _ (h.push x)
theorem tidy_apart (l : List Rn) : Apart (tidy l) := tidyOn_apart l [] trivial
/-- Two that stand side by side. -/
theorem Apart.at_ {l : List Rn} (h : Apart l) {i : Nat} {r q : Rn} (hr : l[i]? = some r) (hq : l[i + 1]? = some q) : r.p ≠ q.p := by
  induction l generalizing i with
  | nil => simp at hr
  | cons x l ih =>
    cases l with
    | nil => simp at hq
    | cons y s =>
      cases i with
      | zero => simp at hr hq; subst hr; subst hq; exact h.2.1
      | succ i => exact ih h.2.2 (by simpa using hr) (by simpa using hq)
/-- What is tidy stays. -/
theorem tidyOn_stays (l : List Rn) : ∀ out, Apart (out ++ l) → tidyOn out l = out ++ l := by
  induction l with
  | nil => intro out _; simp [tidyOn]
  | cons x l ih =>
    intro out h
    have e : tpush out x = out ++ [x] := by
      have hx : x.n ≠ 0 := by have := h.pos x (by simp); omega
      rcases List.eq_nil_or_concat out with rfl | ⟨o, y, rfl⟩
      · exact tpush_nil hx
      · simp only [List.concat_eq_append] at h ⊢
        refine tpush_new hx (h.at_ (i := o.length) ?_ ?_)
        · rw [List.append_assoc, List.getElem?_append_right (Nat.le_refl _)]; simp
        · rw [List.append_assoc, List.getElem?_append_right (by omega)]; simp
    have := ih (out ++ [x]) (by rw [List.append_assoc]; exact h)
    show tidyOn (tpush out x) l = _
    rw [e, this, List.append_assoc]
    rfl
theorem tidy_tidy (l : List Rn) : tidy (tidy l) = tidy l := by
  have := tidyOn_stays (tidy l) [] (by simpa using tidy_apart l)
  simpa [tidy] using this

theorem tpush_le (out : List Rn) (x : Rn) : (tpush out x).length ≤ out.length + 1 ∧ out.length ≤ (tpush out x).length := by
  rcases tpush_cases out x with ⟨h0, e⟩ | ⟨h0, rfl, e⟩ | ⟨o, y, h0, rfl, hp, e⟩ | ⟨o, y, h0, rfl, hp, e⟩ <;> rw [e] <;> simp
theorem tidyOn_le (l : List Rn) : ∀ out, (tidyOn out l).length ≤ out.length + l.length := by
  induction l with
  | nil => intro out; simp [tidyOn]
  | cons x l ih =>
    intro out
    have h1 := ih (tpush out x)
    have h2 := (tpush_le out x).1
    simp only [List.length_cons]
    show (tidyOn (tpush out x) l).length ≤ _
    omega
theorem tidy_le (l : List Rn) : (tidy l).length ≤ l.length := by
  have := tidyOn_le l []
  simpa [tidy] using this
theorem tidy_take_le (l : List Rn) (i : Nat) : (tidy (l.take i)).length ≤ i := by
  have := tidy_le (l.take i)
  rw [List.length_take] at this
  omega
/-- Two runs of one behind a row, one by one or as one. -/
theorem tpush_two (o : List Rn) (y x : Rn) (hy : y.n ≠ 0) (hp : y.p = x.p) : tpush (tpush o y) x = tpush o ⟨y.p, y.n + x.n⟩ := by
  by_cases hx : x.n = 0
  · rw [tpush_none hx]
    obtain ⟨yp, yn⟩ := y
    dsimp only at hp ⊢
    rw [hx]
    rfl
  · have hz : (⟨y.p, y.n + x.n⟩ : Rn).n ≠ 0 := by dsimp only; omega
    rcases tpush_cases o y with ⟨h0, e⟩ | ⟨h0, rfl, e⟩ | ⟨q, z, h0, rfl, hq, e⟩ | ⟨q, z, h0, rfl, hq, e⟩
    · exact absurd h0 hy
    · rw [e, tpush_nil hz]
      exact tpush_one (o := []) hx hp
    · rw [e, tpush_one hx (by dsimp only; rw [hq, hp]), tpush_one hz hq]
      dsimp only
      rw [Nat.add_assoc]
    · rw [e, tpush_one (o := q ++ [z]) hx hp, tpush_new (o := q) hz hq]
theorem tidyOn_push (o out : List Rn) (x : Rn) (h : Apart out) : tidyOn o (tpush out x) = tpush (tidyOn o out) x := by
  rcases tpush_cases out x with ⟨h0, e⟩ | ⟨h0, rfl, e⟩ | ⟨q, y, h0, rfl, hq, e⟩ | ⟨q, y, h0, rfl, hq, e⟩
  · rw [e, tpush_none h0]
  · rw [e]; rfl
  · rw [e, tidyOn_append, tidyOn_append]
    have hy : y.n ≠ 0 := by have := h.pos y (by simp); omega
    exact (tpush_two _ y x hy hq).symm
  · rw [e, tidyOn_append]
    rfl
theorem tidyOn_tidyOn (o l : List Rn) : ∀ out, Apart out → tidyOn o (tidyOn out l) = tidyOn (tidyOn o out) l := by
  induction l with
  | nil => intro out _; rfl
  | cons x l ih =>
    intro out h
    show tidyOn o (tidyOn (tpush out x) l) = tidyOn (tpush (tidyOn o out) x) l
    rw [ih _ (h.push x), tidyOn_push o out x h]
theorem tidy_append (a b : List Rn) : tidy (a ++ b) = tidyOn (tidy a) (tidy b) := by
  unfold tidy
  rw [tidyOn_tidyOn _ b [] trivial, tidyOn_append]
  rfl
theorem tidy_append_le (a b : List Rn) : (tidy (a ++ b)).length ≤ (tidy a).length + (tidy b).length := by
  rw [tidy_append]
  exact tidyOn_le _ _
theorem tidy_reps_le (m : Nat) (s : List Rn) : (tidy (reps m s)).length ≤ (tidy s).length * m := by
  induction m with
  | zero => simp [reps, tidy, tidyOn]
  | succ m ih =>
    have := tidy_append_le s (reps m s)
    show (tidy (s ++ reps m s)).length ≤ _
    rw [Nat.mul_succ]
    omega
theorem tkOf_reps (p : Int) (m : Nat) (s : List Rn) : tkOf p (reps m s) = m * tkOf p s := by
  induction m with
  | zero => simp [reps, tkOf]
  | succ m ih =>
    show tkOf p (s ++ reps m s) = _
    rw [tkOf_append, ih, Nat.succ_mul]
    omega
/-- How many are of somebody. -/
def swi : List Rn → Nat
  | [] => 0
  | r :: s => (if r.p = -1 then 0 else 1) + swi s
theorem swi_append (a b : List Rn) : swi (a ++ b) = swi a + swi b := by
  induction a with
  | nil => simp [swi]
  | cons x a ih => simp only [List.cons_append, swi, ih]; omega
theorem swi_le (l : List Rn) : swi l ≤ l.length := by
  induction l with
  | nil => simp [swi]
  | cons x l ih => simp only [swi, List.length_cons]; split <;> omega
theorem swi_take (l : List Rn) (i : Nat) : swi (l.take i) ≤ i := by
  have := swi_le (l.take i)
  rw [List.length_take] at this
  omega
theorem swi_more {l : List Rn} {i : Nat} {r : Rn} (h : l[i]? = some r) : swi (l.take (i + 1)) = swi (l.take i) + if r.p = -1 then 0 else 1 := by
  obtain ⟨hi, e⟩ := List.getElem?_eq_some_iff.1 h
  rw [List.take_succ_eq_append_getElem hi, swi_append, e]
  simp [swi]
theorem tkOf_more {p : Int} {l : List Rn} {i : Nat} {r : Rn} (h : l[i]? = some r) : tkOf p (l.take (i + 1)) = tkOf p (l.take i) + if r.p = p then r.n else 0 := by
  obtain ⟨hi, e⟩ := List.getElem?_eq_some_iff.1 h
  rw [List.take_succ_eq_append_getElem hi, tkOf_append, e]
  simp [tkOf]
/-- Parts of a tidied row are parts of the row. -/
theorem tpush_part {out : List Rn} {x r : Rn} (h : r ∈ tpush out x) : r.p = x.p ∨ ∃ q ∈ out, q.p = r.p := by
  rcases tpush_cases out x with ⟨h0, e⟩ | ⟨h0, rfl, e⟩ | ⟨q, y, h0, rfl, hq, e⟩ | ⟨q, y, h0, rfl, hq, e⟩
  · rw [e] at h; exact .inr ⟨r, h, rfl⟩
  · rw [e] at h; simp at h; subst h; exact .inl rfl
  · rw [e] at h
    rcases List.mem_append.1 h with h | h
    · exact .inr ⟨r, by simp [h], rfl⟩
    · simp at h; subst h; exact .inl hq
  · rw [e] at h
    rcases List.mem_append.1 h with h | h
    · exact .inr ⟨r, h, rfl⟩
    · simp at h; subst h; exact .inl rfl
theorem tidyOn_part (l : List Rn) : ∀ out, ∀ r ∈ tidyOn out l, (∃ q ∈ out, q.p = r.p) ∨ ∃ q ∈ l, q.p = r.p := by
  induction l with
  | nil => intro out r h; exact .inl ⟨r, h, rfl⟩
  | cons x l ih =>
    intro out r h
    rcases ih (tpush out x) r h with ⟨q, hq, e⟩ | ⟨q, hq, e⟩
    · rcases tpush_part hq with h | ⟨z, hz, e2⟩
      · exact .inr ⟨x, by simp, by rw [← h, e]⟩
      · exact .inl ⟨z, hz, by rw [e2, e]⟩
    · exact .inr ⟨q, by simp [hq], e⟩
theorem tidy_part {l : List Rn} {r : Rn} (h : r ∈ tidy l) : ∃ q ∈ l, q.p = r.p := by
  rcases tidyOn_part l [] r h with ⟨q, hq, _⟩ | h
  · simp at hq
  · exact h
theorem mem_ticks {l : List Rn} {r : Rn} (h : r ∈ l) : r.n ≤ ticks l := by
  induction l with
  | nil => simp at h
  | cons x l ih =>
    simp only [ticks]
    rcases List.mem_cons.1 h with rfl | h
    · omega
    · have := ih h; omega
/-- Whose the leaves of a table are. -/
theorem one_parts {x : Nd} {s : List Rn} (hf : fine x = true) (h : ∀ r ∈ s, -1 ≤ r.p ∧ r.p ≤ 5) : ∀ r ∈ one x s, -1 ≤ r.p ∧ r.p ≤ 5 := by
  intro r hr
  unfold one at hr
  split at hr
  · exact h r hr
  · split at hr
    · exact h r (reps_mem hr)
    · simp at hr
      subst hr
      unfold fine at hf
      unfold whose
      dsimp only
      simp only [Bool.and_eq_true, decide_eq_true_eq] at hf
      rename_i h3 h4
      split
      · omega
      · have h5 := hf.2
        rename_i h2
        by_cases h1 : x.k = 1
        · rw [if_pos h1] at h5
          simp at h5
          omega
        · rw [if_neg h1] at h5
          simp [h2, h3, h4] at h5
theorem lvs_parts {f : F} (h : f.ok) : ∀ r ∈ f.lvs, -1 ≤ r.p ∧ r.p ≤ 5 := by
  induction f with
  | nil => intro r hr; simp [F.lvs] at hr
  | cons x k r hk hr =>
    intro q hq
    rcases List.mem_append.1 hq with hq | hq
    · exact one_parts h.1 (hk h.2.2.1) q hq
    · exact hr h.2.2.2 q hq
end Tab
end Go.Proofs.Ytknlhhbkahollaa

/- The places of a node's children: what both answers lean on. -/
namespace Go.Proofs.Ytknlhhbkahollaa
open Go.RowKit Tab
set_option linter.unusedSimpArgs false
set_option linter.unusedVariables false

/-- Tables behind one another end where the node's does. -/
theorem pos_fit {l : List Nd} {a : Nat} (h : size l (a : Int) ≠ 0) : ∃ x, l[a]? = some x ∧ fine x = true ∧ ∀ j, j ≤ kn x → pos l (a + 1) j ≤ l.length := by
  obtain ⟨x, k, t, hok, _, h2, h3, h4⟩ := size_tree h
  rw [Int.toNat_natCast] at h3
  have hd : l.drop (a + 1) = k.flat ++ t := by
    rw [← List.drop_drop, h3]
    rfl
  refine ⟨x, ?_, hok.1, fun j hj => (pos_dr hok.2.2.1 hd (by omega) j (by rw [hok.2.1]; exact hj)).2.2.2⟩
  have : (l.drop a)[0]? = some x := by rw [h3]; rfl
  simpa using this
theorem kids_none (l : List Nd) (a : Int) (h : size l a = 0) : kids l a = [] := by unfold kids; rw [if_pos h]
theorem madeI_nil (w w' : World) (hb : Below w.heap.size w w') : MadeI [] w (.returned (.slice none 0 0)) w' := ⟨none, 0, 0, rfl, ⟨rfl, RdV.nil⟩, Nat.le_refl _, hb⟩
end Go.Proofs.Ytknlhhbkahollaa

/- The places of a node's children, by the document's own answer. -/
namespace Go.Proofs.Ytknlhhbkahollaa
open Go.RowKit Tab
set_option linter.unusedSimpArgs false
set_option linter.unusedVariables false

/-- It answers a row of numbers in a new block. -/
def MadeJ (l : List Int) (w : World) (e : Ending) (w' : World) : Prop := ∃ A n c, e = .returned (.slice A n c) ∧ RdI w' w'.heap.size A n l ∧ n ≤ c ∧ Below w.heap.size w w' ∧ ∀ ad, A = some ad → w.heap.size ≤ ad.block
theorem OwnV.newer {E s : Nat} {w : World} {B n c : Nat} {A : Option Addr} {l : List Value} (h : OwnV E s w B A n c l) : ∀ ad, A = some ad → B ≤ ad.block := fun ad e => by
  rcases h.2 with ⟨hv, _⟩ | ⟨g, cap, cur, hv, hbg, _⟩
  · injection hv with h1; rw [e] at h1; cases h1
  · injection hv with h1; rw [e] at h1; injection h1 with h1; rw [h1]; exact hbg
theorem MadeJ.mk {l : List Int} {w w' : World} {A : Option Addr} {n c : Nat} (h : OwnV 3 1 w' w.heap.size A n c (is l)) (hb : Below w.heap.size w w') : MadeJ l w (.returned (.slice A n c)) w' :=
  ⟨A, n, c, rfl, ⟨by have := h.len; rw [is_length] at this; omega, h.rd⟩, h.cap, hb, h.newer⟩
theorem madeJ_nil (w w' : World) (hb : Below w.heap.size w w') : MadeJ [] w (.returned (.slice none 0 0)) w' := ⟨none, 0, 0, rfl, ⟨rfl, RdV.nil⟩, Nat.le_refl _, hb, fun _ h => by cases h⟩
/-- What a walk over the children meets. -/
theorem kids_tree {l : List Nd} {a : Nat} (h : size l (a : Int) ≠ 0) : ∃ m, kids l (a : Int) = plc l (a + 1) m ∧ m ≤ 128 ∧ ∀ j, j ≤ m → pos l (a + 1) j ≤ a + size l (a : Int) ∧ (j < m → pos l (a + 1) j < a + size l (a : Int)) ∧ (j = m → pos l (a + 1) j = a + size l (a : Int)) := by
  obtain ⟨x, k, t, hok, _, h2, h3, h4⟩ := size_tree h
  rw [Int.toNat_natCast] at h3
  have hd : l.drop (a + 1) = k.flat ++ t := by
    rw [← List.drop_drop, h3]
    rfl
  refine ⟨kn x, ?_, kn_le hok.1, fun j hj => ?_⟩
  · unfold kids
    have : (l.drop a)[0]? = some x := by rw [h3]; rfl
    have hx : l[a]? = some x := by simpa using this
    rw [if_neg h, Int.toNat_natCast, hx]
    rfl
  · obtain ⟨_, h5, _, _⟩ := pos_dr hok.2.2.1 hd (by omega) j (by rw [hok.2.1]; exact hj)
    have h6 := dr_cnt k j
    have h7 := F.cnt_le_sz (F.dr j k)
    rw [hok.2.1] at h6
    refine ⟨by omega, fun hlt => by omega, fun he => ?_⟩
    have h8 : F.dr j k = .nil := F.cnt_zero (by omega)
    rw [h8] at h5
    simp only [F.sz] at h5
    omega
set_option maxRecDepth 100000 in
set_option maxHeartbeats 1600000 in
theorem rkids_in (A : Option Addr) (n cap : Nat) (l : List Nd) (a : Nat) (w : World) (h : RdN w w.heap.size A n l) (hc : n ≤ cap) (hn : n ≤ 1099511627776) (ha : a < n) (hs : size l (a : Int) ≠ 0) :
    Calls Try.prog 62 #[.slice A n cap, .int .i64 a] w (MadeJ (kids l a) w) := by
  obtain ⟨m, hkd, hm, hpos⟩ := kids_tree hs
  rw [hkd]
  have hfit : a + size l (a : Int) ≤ n := by
    obtain ⟨_, h1, _⟩ := hpos m (Nat.le_refl _)
    obtain ⟨x, hx, _, h2⟩ := pos_fit hs
    obtain ⟨x', k, t, hok, _, h3, h4, h5⟩ := size_tree hs
    rw [Int.toNat_natCast] at h4
    have := congrArg List.length h4
    rw [List.length_drop, List.length_cons, List.length_append, F.flat_length] at this
    have := h.len
    omega
  clear hkd
  generalize hSd : size l (a : Int) = S at hs hfit hpos
  have HSD := Lib.hid hSd
  have HP := Lib.hid hpos
  clear hSd hpos hs
  have hca : ¬ cap = a := by omega
  go_enter Try.func62, Try.ntmps62
  go_wp2_with fail
  refine (rsize_any A n cap l a w h hc hn).mono ?_
  rw [HSD.out]
  rintro e w1 ⟨rfl, hb1⟩
  go_wp2_with fail
  go_loopw [6, 7] (fun o s wr => ∃ (i c : Nat) (Ao : Option Addr), i ≤ m ∧ s = .int .i64 (pos l (a + 1) i : Nat) ∧ o = .slice Ao i c ∧ OwnV 3 1 wr w.heap.size Ao i c (is (plc l (a + 1) i)) ∧ Below w.heap.size w wr) (fun o _ _ => m - lenOf o)
  case atStart => exact ⟨0, 0, none, by omega, ret_num (by simp [pos]), rfl, OwnV.nil _ _ _ _, hb1⟩
  case round =>
    obtain ⟨i, c, Ao, hi, rfl, rfl, hw, hb⟩ := hrel
    by_cases hlt : i < m
    · obtain ⟨_, hp1, _⟩ := HP.out i hi
      have hp1 := hp1 hlt
      have hp2 : pos l (a + 1) i + size l (pos l (a + 1) i : Nat) ≤ a + S := (HP.out (i + 1) (by omega)).1
      have HPS : Hid (pos l (a + 1) (i + 1) = pos l (a + 1) i + size l (pos l (a + 1) i : Nat)) := Lib.hid rfl
      have HPL := Lib.hid (plc_succ l (a + 1) i)
      generalize hPd : pos l (a + 1) i = P at hp1 hp2 HPS HPL ⊢
      have HPD := Lib.hid hPd
      clear hPd
      have hlt2 : decide ((P : Int) < (a : Int) + (S : Int)) = true := by simp; omega
      have hbs := hb.alloc hb.size (.cells #[.int .i64 (P : Int)] 3)
      have hw' := OwnV.below hw rfl (bl1 wr (.cells #[.int .i64 (P : Int)] 3))
      have hrd := rdV_new wr #[.int .i64 (P : Int)] 3 (is [(P : Int)]) rfl
      go_wp2_with (at_builtin; go_loud (refine wpList_appV elI rfl (.tmp 23) (.tmp 25) rfl rfl w.heap.size Ao i c _ rfl hw' _ 1 1 _ _ rfl hrd rfl (is_one _) (by omega) (by unfold maxLen; omega) hbs.size (i + 1) rfl (is (plc l (a + 1) (i + 1))) (by rw [HPL.out, is_append]) ?_; intro A2 c2 w2 hw2 hb2 _))
      have k2 := hbs.trans hb2
      refine (rsize_any A n cap l (P : Int) _ (h.on k2) hc hn).mono ?_
      generalize size l (P : Int) = Z at HPS hp2 ⊢
      rintro e w4 ⟨rfl, hb4⟩
      go_wp2_with fail
      go_roundw
      case rel => exact ⟨i + 1, c2, A2, by omega, ret_num (by rw [HPS.out]; omega), rfl, hw2.below rfl hb4, k2.trans (hb4.mono k2.size)⟩
      case measure => simp [lenOf]; omega
    · have hge : m ≤ i := by omega
      have e : i = m := by omega
      obtain ⟨_, _, hp1⟩ := HP.out i hi
      have hp1 := hp1 e
      generalize pos l (a + 1) i = P at hp1 ⊢
      have hlt2 : decide ((P : Int) < (a : Int) + (S : Int)) = false := by simp; omega
      have HPD := Lib.hid hp1
      have HE := Lib.hid e
      clear hp1 e
      go_wp2_with fail
      go_ret
      have e := HE.out
      subst e
      exact MadeJ.mk hw hb
set_option maxHeartbeats 400000 in
theorem rkids_out (A : Option Addr) (n cap : Nat) (l : List Nd) (a : Int) (w : World) (h : RdN w w.heap.size A n l) (hc : n ≤ cap) (hn : n ≤ 1099511627776) (hs : size l a = 0) (ha : -9223372036854775808 ≤ a) (ha2 : a < 9223372036854775807) :
    Calls Try.prog 62 #[.slice A n cap, .int .i64 a] w (MadeJ [] w) := by
  have HS := Lib.hid hs
  clear hs
  have hlt : decide (a + 1 < a) = false := decide_eq_false (by omega)
  go_enter Try.func62, Try.ntmps62
  go_wp2_with fail
  refine (rsize_any A n cap l a w h hc hn).mono ?_
  rw [HS.out]
  rintro e w1 ⟨rfl, hb1⟩
  go_wp2_with fail
  go_loopw [6, 7] (fun o s wr => o = .slice none 0 0 ∧ s = .int .i64 (a + 1) ∧ Below w.heap.size w wr) (fun _ _ _ => 0)
  case atStart => exact ⟨rfl, rfl, hb1⟩
  case round =>
    obtain ⟨rfl, rfl, hb⟩ := hrel
    go_wp2_with fail
    go_ret
    exact madeJ_nil _ _ hb
theorem rkids_new (A : Option Addr) (n cap : Nat) (l : List Nd) (a : Int) (w : World) (h : RdN w w.heap.size A n l) (hc : n ≤ cap) (hn : n ≤ 1099511627776) (ha : -9223372036854775808 ≤ a) (ha2 : a < 9223372036854775807) :
    Calls Try.prog 62 #[.slice A n cap, .int .i64 a] w (MadeJ (kids l a) w) := by
  by_cases hs : size l a = 0
  · rw [kids_none l a hs]
    exact rkids_out A n cap l a w h hc hn hs ha ha2
  · obtain ⟨x, k, t, _, h1, h2, _⟩ := size_tree hs
    obtain ⟨a', rfl⟩ := Int.eq_ofNat_of_zero_le h1
    exact rkids_in A n cap l a' w h hc hn (by have := h.len; omega) hs
theorem rkids_any (A : Option Addr) (n cap : Nat) (l : List Nd) (a : Int) (w : World) (h : RdN w w.heap.size A n l) (hc : n ≤ cap) (hn : n ≤ 1099511627776) (ha : -9223372036854775808 ≤ a) (ha2 : a < 9223372036854775807) :
    Calls Try.prog 62 #[.slice A n cap, .int .i64 a] w (MadeI (kids l a) w) := by
  refine (rkids_new A n cap l a w h hc hn ha ha2).mono ?_
  rintro e w' ⟨A, n, c, h1, h2, h3, h4, _⟩
  exact ⟨A, n, c, h1, h2, h3, h4⟩
end Go.Proofs.Ytknlhhbkahollaa

/- How deep a table goes, how many ticks it has, by the document's own answer. -/
namespace Go.Proofs.Ytknlhhbkahollaa
open Go.RowKit Tab
set_option linter.unusedSimpArgs false
set_option linter.unusedVariables false

theorem kids_at {l t : List Nd} {p : Nat} {x : Nd} {k r : F} (hok : (F.cons x k r).ok) (hl : l.drop p = (F.cons x k r).flat ++ t) : kids l (p : Int) = plc l (p + 1) k.cnt ∧ p + 1 + k.sz ≤ l.length ∧ l.drop (p + 1) = k.flat ++ (r.flat ++ t) ∧ l[p]? = some x := by
  have hs := size_at hok hl
  have hx : l[p]? = some x := by
    have : (l.drop p)[0]? = some x := by rw [hl]; rfl
    simpa using this
  have hd : l.drop (p + 1) = k.flat ++ (r.flat ++ t) := by
    rw [← List.drop_drop, hl]
    simp [F.flat]
  refine ⟨?_, ?_, hd, hx⟩
  · unfold kids
    rw [if_neg (by omega), Int.toNat_natCast, hx, hok.2.1]
    rfl
  · have := congrArg List.length hl
    rw [List.length_drop, List.length_append, F.flat_length] at this
    simp only [F.sz] at this
    omega
theorem plc_get (l : List Nd) (p m i : Nat) (h : i < m) : (plc l p m)[i]? = some (pos l p i : Int) := by
  simp [plc, h]
set_option maxRecDepth 100000 in
set_option maxHeartbeats 1600000 in
theorem rdepth_any (A : Option Addr) (n cap : Nat) (l : List Nd) (hc : n ≤ cap) (hn : n ≤ 1099511627776) (M : Nat) : ∀ (p : Nat) (x : Nd) (k r : F) (t : List Nd) (w : World), k.sz < M → RdN w w.heap.size A n l → (F.cons x k r).ok → l.drop p = (F.cons x k r).flat ++ t →
    Calls Try.prog 60 #[.slice A n cap, .int .i64 p] w (Ans (.int .i64 (k.dep + 1 : Nat)) w) := by
  induction M with
  | zero => intro p x k r t w h; omega
  | succ M ih =>
    intro p x k r t w hM h hok hl
    obtain ⟨hk, hfit, hd, hx⟩ := kids_at hok hl
    have hlen := h.len
    rw [hlen] at hfit
    have hm : k.cnt ≤ n := by have := F.cnt_le_sz k; omega
    have HPD := Lib.hid fun j hj => pos_dr hok.2.2.1 hd (by omega) j hj
    have hkok := Lib.hid hok.2.2.1
    generalize hmd : k.cnt = m at hk hm HPD
    have hp63 : (p : Int) ≤ 1099511627776 := by omega
    have hdz := F.dep_le_sz k
    have HM := Lib.hid hmd
    have HK := Lib.hid hk
    have HIH := Lib.hid ih
    clear hk hmd hl hd hx hlen hok ih
    go_enter Try.func60, Try.ntmps60
    go_wp2_with fail
    refine (rkids_any A n cap l (p : Int) w h hc hn (by omega) (by omega)).mono ?_
    rw [HK.out]
    rintro e w1 ⟨A1, n1, c1, rfl, hr1, hc1, hb1⟩
    have hn1 : n1 = m := by have := hr1.len; simp [plc] at this; omega
    subst hn1
    go_wp2_with fail
    go_loopw [5, 12] (fun d s wr => ∃ (i e : Nat), i ≤ n1 ∧ s = .int .i64 i ∧ d = .int .i64 e ∧ max e (F.dr i k).dep = k.dep ∧ Below w1.heap.size w1 wr) (fun _ s _ => n1 - (intOf s).toNat)
    case atStart => exact ⟨0, 0, by omega, rfl, rfl, by simp [F.dr], Below.refl _ _⟩
    case round =>
      obtain ⟨i, e, hi, rfl, rfl, he, hb⟩ := hrel
      have HE := Lib.hid he
      have he2 : e ≤ k.dep := by omega
      clear he
      by_cases hlt : i < n1
      · obtain ⟨hd, hsz, hp1, hp2⟩ := HPD.out i (by omega)
        obtain ⟨y, ky, r', ed⟩ := dr_cons (f := k) (j := i) (by have := HM.out; omega)
        have hok' := dr_ok hkok.out i
        have ed2 := dr_succ ed
        rw [ed] at hd hsz hok'
        have hky : ky.sz < M := by simp only [F.sz] at hsz; omega
        have hdep : max e (max (ky.dep + 1) r'.dep) = k.dep := by have := HE.out; rw [ed] at this; exact this
        have hget := plc_get l (p + 1) n1 i hlt
        have HED := Lib.hid ed2
        have HDEP := Lib.hid hdep
        clear hsz ed ed2
        generalize pos l (p + 1) i = P at hd hp1 hp2 hget
        have hky2 : ky.dep + 1 ≤ k.dep := by omega
        obtain ⟨adk, z, rfl, _, hz, hcell⟩ := (hr1.on hb).at_ hlt
        rw [hget] at hz
        injection hz with hz
        subst hz
        clear hget
        have k1 := hb1.trans (hb.mono hb1.size)
        go_wp2_with fail
        refine (HIH.out P y ky r' _ wr hky (h.on k1) hok' hd).mono ?_
        rintro e2 w4 ⟨rfl, hb4⟩
        go_wp2_with fail
        go_roundw
        case rel => exact ⟨i + 1, max e (ky.dep + 1), by omega, by go_num, ret_num (by split <;> omega), by rw [HED.out]; have := HDEP.out; omega, hb.trans (hb4.mono hb.size)⟩
        case measure => simp [intOf]; omega
      · have hge : n1 ≤ i := by omega
        go_wp2_with fail
        go_ret
        refine Ans.mk (ret_num (b := (e : Int) + 1) ?_) (hb1.trans (hb.mono hb1.size))
        have e1 := HE.out
        have e2 : F.dr i k = .nil := by rw [show i = k.cnt by have := HM.out; omega]; exact dr_all k
        rw [e2] at e1
        simp only [F.dep] at e1
        omega
/-- Ticks, held. -/
def hl4 (a : Nat) : Nat := min a 4097
theorem hl4_add (a b : Nat) : hl4 (hl4 a + b) = hl4 (a + b) := by unfold hl4; omega
theorem hl4_mul (a b : Nat) (ha : 1 ≤ a) (hb : 1 ≤ b) : hl4 (hl4 a * hl4 b) = hl4 (a * b) := by
  unfold hl4
  by_cases h1 : a ≤ 4097
  · rw [Nat.min_eq_left h1]
    by_cases h2 : b ≤ 4097
    · rw [Nat.min_eq_left h2]
    · rw [Nat.min_eq_right (by omega : 4097 ≤ b)]
      have h3 : 1 * 4097 ≤ a * 4097 := Nat.mul_le_mul_right _ ha
      have h4 : a * 4097 ≤ a * b := Nat.mul_le_mul_left _ (by omega)
      omega
  · rw [Nat.min_eq_right (by omega : 4097 ≤ a)]
    have h3 : 4097 * 1 ≤ 4097 * min b 4097 := Nat.mul_le_mul_left _ (by omega)
    have h4 : 4097 * 1 ≤ 4097 * b := Nat.mul_le_mul_left _ hb
    have h5 : 4097 * b ≤ a * b := Nat.mul_le_mul_right _ (by omega)
    omega
set_option maxRecDepth 100000 in
set_option maxHeartbeats 1600000 in
theorem rlength_any (A : Option Addr) (n cap : Nat) (l : List Nd) (hc : n ≤ cap) (hn : n ≤ 1099511627776) (M : Nat) : ∀ (p : Nat) (x : Nd) (k r : F) (t : List Nd) (w : World), k.sz < M → RdN w w.heap.size A n l → (F.cons x k r).ok → l.drop p = (F.cons x k r).flat ++ t →
    Calls Try.prog 61 #[.slice A n cap, .int .i64 p] w (Ans (.int .i64 (hl4 (F.tick x k.len) : Nat)) w) := by
  induction M with
  | zero => intro p x k r t w h; omega
  | succ M ih =>
    intro p x k r t w hM h hok hl
    obtain ⟨hk, hfit, hd, hx⟩ := kids_at hok hl
    have hlen := h.len
    rw [hlen] at hfit
    have hm : k.cnt ≤ n := by have := F.cnt_le_sz k; omega
    have HPD := Lib.hid fun j hj => pos_dr hok.2.2.1 hd (by omega) j hj
    have hkok := Lib.hid hok
    generalize hmd : k.cnt = m at hk hm HPD
    have hp63 : (p : Int) ≤ 1099511627776 := by omega
    have hpn : p < n := by omega
    have HM := Lib.hid hmd
    have HK := Lib.hid hk
    have HX := Lib.hid hx
    have HIH := Lib.hid ih
    clear hk hmd hl hd hx hlen hok ih
    go_enter Try.func61, Try.ntmps61
    go_wp2_with fail
    refine (rkids_any A n cap l (p : Int) w h hc hn (by omega) (by omega)).mono ?_
    rw [HK.out]
    rintro e w1 ⟨A1, n1, c1, rfl, hr1, hc1, hb1⟩
    have hn1 : n1 = m := by have := hr1.len; simp [plc] at this; omega
    subst hn1
    go_wp2_with fail
    go_loopw [5, 12] (fun d s wr => ∃ (i e : Nat), i ≤ n1 ∧ s = .int .i64 i ∧ d = .int .i64 e ∧ e ≤ 4097 ∧ hl4 (e + (F.dr i k).len) = hl4 k.len ∧ Below w1.heap.size w1 wr) (fun _ s _ => n1 - (intOf s).toNat)
    case atStart => exact ⟨0, 0, by omega, rfl, rfl, by omega, by simp [F.dr], Below.refl _ _⟩
    case round =>
      obtain ⟨i, e, hi, rfl, rfl, he2, he, hb⟩ := hrel
      have HE := Lib.hid he
      clear he
      have k1 := hb1.trans (hb.mono hb1.size)
      by_cases hlt : i < n1
      · obtain ⟨hd, hsz, hp1, hp2⟩ := HPD.out i (by omega)
        obtain ⟨y, ky, r', ed⟩ := dr_cons (f := k) (j := i) (by have := HM.out; omega)
        have hok' := dr_ok hkok.out.2.2.1 i
        have ed2 := dr_succ ed
        rw [ed] at hd hsz hok'
        have hky : ky.sz < M := by simp only [F.sz] at hsz; omega
        have hdep : hl4 (e + (F.tick y ky.len + r'.len)) = hl4 k.len := by have := HE.out; rw [ed] at this; exact this
        have hget := plc_get l (p + 1) n1 i hlt
        have HED := Lib.hid ed2
        have HDEP := Lib.hid hdep
        clear hsz ed ed2 hdep
        generalize pos l (p + 1) i = P at hd hp1 hp2 hget
        obtain ⟨adk, z, rfl, _, hz, hcell⟩ := (hr1.on hb).at_ hlt
        rw [hget] at hz
        injection hz with hz
        subst hz
        clear hget
        have hb4097 : hl4 (F.tick y ky.len) ≤ 4097 := by unfold hl4; omega
        go_wp2_with fail
        refine (HIH.out P y ky r' _ wr hky (h.on k1) hok' hd).mono ?_
        generalize hV : hl4 (F.tick y ky.len) = V at hb4097 ⊢
        have HV := Lib.hid hV
        clear hV
        rintro e2 w4 ⟨rfl, hb4⟩
        go_wp2_with fail
        go_roundw
        case rel =>
          refine ⟨i + 1, min (e + V) 4097, by omega, by go_num, ret_num (by split <;> omega), by omega, ?_, hb.trans (hb4.mono hb.size)⟩
          rw [HED.out, ← HDEP.out]
          have := HV.out
          unfold hl4 at *
          omega
        case measure => simp [intOf]; omega
      · have hge : n1 ≤ i := by omega
        have e2 : F.dr i k = .nil := by rw [show i = k.cnt by have := HM.out; omega]; exact dr_all k
        have e1 := HE.out
        rw [e2] at e1
        have e3 : e = hl4 k.len := by simp only [F.len, hl4] at e1 ⊢; omega
        have HE3 := Lib.hid e3
        clear e1 e2 e3
        obtain ⟨ad, x', rfl, _, hx', hin, c0, c1, c2⟩ := (h.on k1).at_ hpn
        obtain ⟨xk, xp, xn⟩ := x'
        rw [HX.out] at hx'
        injection hx' with hx'
        subst hx'
        have h1n : 1 ≤ xn := fine_one hkok.out.1
        have hkc : Hid (k.cnt = kn ⟨xk, xp, xn⟩) := Lib.hid hkok.out.2.1
        have hkp : Hid k.ok := Lib.hid hkok.out.2.2.1
        have hx2 : xn ≤ 9223372036854775807 := hin.2.2.2
        clear hin hr1
        by_cases h3 : xk = 3
        · subst h3
          go_wp2_with fail
          go_ret
          refine Ans.mk (ret_num (b := (e : Int)) ?_) k1
          rw [HE3.out]
          rfl
        · by_cases h4 : xk = 4
          · subst h4
            have hlp : 1 ≤ k.len := F.len_pos hkp.out (by rw [hkc.out]; exact Nat.one_pos)
            have htk : F.tick ⟨4, xp, xn⟩ k.len = k.len * xn.toNat := rfl
            have hfin : ∀ z : Nat, z = min xn.toNat 4097 → hl4 (e * z) = hl4 (k.len * xn.toNat) := fun z hz => by
              rw [hz, HE3.out]
              exact hl4_mul _ _ hlp (by omega)
            have HF := Lib.hid hfin
            have HT := Lib.hid htk
            clear hfin htk h3
            by_cases hN : 4097 < xn
            · have hpr : (0 : Int) ≤ (e : Int) * 4097 := by omega
              go_wp2_with fail
              all_goals
                go_ret
                refine Ans.mk ?_ k1
                refine ret_num ?_
                rw [HT.out, ← HF.out 4097 (by omega)]
                unfold hl4
                omega
            · obtain ⟨N, rfl⟩ := Int.eq_ofNat_of_zero_le (show 0 ≤ xn by omega)
              have hN2 : N ≤ 4097 := by omega
              have h0 : e * N ≤ 4097 * 4097 := Nat.mul_le_mul he2 hN2
              have hpr : (0 : Int) ≤ (e : Int) * (N : Int) := Int.mul_nonneg (by omega) (by omega)
              have hpr2 : (e : Int) * (N : Int) ≤ 16785409 := (Int.natCast_mul e N) ▸ (show ((e * N : Nat) : Int) ≤ 16785409 by omega)
              clear h0
              go_wp2_with fail
              all_goals
                go_ret
                refine Ans.mk ?_ k1
                refine ret_num ?_
                rw [HT.out, ← HF.out N (by omega)]
                unfold hl4
                rw [← Int.natCast_mul] at *
                omega
          · have h3' : (xk == 3) = false := beq_eq_false_iff_ne.2 h3
            have h4' : (xk == 4) = false := beq_eq_false_iff_ne.2 h4
            have htk : F.tick ⟨xk, xp, xn⟩ k.len = xn.toNat := by unfold F.tick; rw [if_neg h3, if_neg h4]
            have HT := Lib.hid htk
            clear htk h3 h4
            go_wp2_with fail
            all_goals
              go_ret
              refine Ans.mk ?_ k1
              refine ret_num ?_
              rw [HT.out]
              unfold hl4
              omega
end Go.Proofs.Ytknlhhbkahollaa

/- The leaves of a table, by the document's own answer. -/
namespace Go.Proofs.Ytknlhhbkahollaa
open Go.RowKit Tab
set_option linter.unusedSimpArgs false
set_option linter.unusedVariables false

/-- It answers the row with more behind it. -/
def MoreR (B : Nat) (A0 : Option Addr) (L : List Rn) (w : World) (e : Ending) (w' : World) : Prop := ∃ A c, e = .returned (.slice A L.length c) ∧ OwnV 88 2 w' B A L.length c (rs L) ∧ Below B w w' ∧ Grew A0 A w w'
theorem MoreR.mk {B : Nat} {L L' : List Rn} {w w' : World} {A0 A : Option Addr} {n c : Nat} (hL : L = L') (hn : n = L.length) (h : OwnV 88 2 w' B A n c (rs L)) (hb : Below B w w') (hg : Grew A0 A w w') : MoreR B A0 L' w (.returned (.slice A n c)) w' := by
  subst hL; subst hn
  exact ⟨A, c, rfl, h, hb, hg⟩
set_option maxRecDepth 100000 in
set_option maxHeartbeats 3200000 in
theorem leaf1_any (B : Nat) (A : Option Addr) (n cap : Nat) (l : List Nd) (hc : n ≤ cap) (hn : n ≤ 1099511627776) (p : Nat) (x : Nd) (w : World) (h : RdN w B A n l) (hx : l[p]? = some x) (hf : fine x = true) (h3 : ¬ x.k = 3) (h4 : ¬ x.k = 4) (hB : B ≤ w.heap.size)
    (A0 : Option Addr) (n0 c0 : Nat) (L : List Rn) (hL : L.length = n0) (h0 : OwnV 88 2 w B A0 n0 c0 (rs L)) (hs : n0 ≤ 1048576) :
    Calls Try.prog 54 #[.slice A n cap, .int .i64 p, .slice A0 n0 c0] w (MoreR B A0 (L ++ [⟨whose x, x.n.toNat⟩]) w) := by
  have hpl : p < n := by rw [← h.len]; exact (List.getElem?_eq_some_iff.1 hx).1
  obtain ⟨ad, y, rfl, hab, hy, hin, d0, d1, d2⟩ := h.at_ hpl
  rw [hx] at hy
  injection hy with hy
  subst hy
  obtain ⟨xk, xp, xn⟩ := x
  have hn1 := fine_one hf
  have hff := (fine_iff _ _ _).1 hf
  obtain ⟨N, rfl⟩ := Int.eq_ofNat_of_zero_le (show 0 ≤ xn by dsimp only at hn1; omega)
  have hlt0 : (p : Int) < (n : Int) := by omega
  have hlt1 : 0 ≤ (p : Int) := by omega
  dsimp only at h3 h4
  have hk : xk = 1 ∨ xk = 2 := by omega
  have H0 := Lib.hid h0
  have hal : (ad.add (p * 3)).block < w.heap.size := by rw [add_block]; omega
  clear h hf hff hx hin h0 h3 h4
  have hfin : ∀ (v : Int) (A2 : Option Addr) (c2 : Nat) (w2 : World), v = whose ⟨xk, xp, (N : Int)⟩ → OwnV 88 2 w2 B A2 (n0 + 1) c2 (rs (L ++ [⟨v, N⟩])) → Below B (w.alloc (.cells #[.int .i64 v, .int .i64 (N : Int)] 88)) w2 → Grew A0 A2 (w.alloc (.cells #[.int .i64 v, .int .i64 (N : Int)] 88)) w2 → MoreR B A0 (L ++ [⟨whose ⟨xk, xp, (N : Int)⟩, (N : Int).toNat⟩]) w (.returned (.slice A2 (n0 + 1) c2)) w2 := fun v A2 c2 w2 hv hw hb hg => by
    refine MoreR.mk (L := L ++ [⟨v, N⟩]) (by rw [hv]; simp) (by simp [hL]) hw ?_ ((Grew.bel (bl1 w _)).trans hg)
    exact ((Below.refl B w).alloc hB _).trans hb
  have HF := Lib.hid hfin
  clear hfin
  rcases hk with rfl | rfl
  · have hw1 : OwnV 88 2 (w.alloc (.cells #[.int .i64 xp, .int .i64 (N : Int)] 88)) B A0 n0 c0 (rs L) := H0.out.below rfl (bl1 w (.cells #[.int .i64 xp, .int .i64 (N : Int)] 88))
    have hr1 := rdV_new w #[.int .i64 xp, .int .i64 (N : Int)] 88 (rs [⟨xp, N⟩]) rfl
    have hB1 : B ≤ (w.alloc (.cells #[.int .i64 xp, .int .i64 (N : Int)] 88)).heap.size := by simp; omega
    go_enter Try.func54, Try.ntmps54
    go_wp2_with fail
    go_region_law (refine step_appX elR rfl (.tmp 17) (.tmp 29) rfl rfl B A0 n0 c0 _ rfl hw1 _ 1 1 _ _ rfl hr1 rfl Nat.one_pos (rs_one _) (by omega) (by unfold maxLen; omega) hB1 (n0 + 1) rfl (rs (L ++ [⟨xp, N⟩])) (rs_append _ _).symm ?_; intro A2 c2 w2 hw2 hb2 hg2)
    all_goals
      go_wp2_with fail
      go_ret
      exact HF.out xp A2 c2 w2 rfl hw2 ⟨hb2.os, hb2.tape, hb2.output, hb2.size, hb2.block⟩ hg2.drew
  · have hw1 : OwnV 88 2 (w.alloc (.cells #[.int .i64 (-1), .int .i64 (N : Int)] 88)) B A0 n0 c0 (rs L) := H0.out.below rfl (bl1 w (.cells #[.int .i64 (-1), .int .i64 (N : Int)] 88))
    have hr1 := rdV_new w #[.int .i64 (-1), .int .i64 (N : Int)] 88 (rs [⟨-1, N⟩]) rfl
    have hB1 : B ≤ (w.alloc (.cells #[.int .i64 (-1), .int .i64 (N : Int)] 88)).heap.size := by simp; omega
    go_enter Try.func54, Try.ntmps54
    go_wp2_with (at_builtin; go_loud (refine wpList_appX elR rfl (.tmp 33) (.tmp 40) rfl rfl B A0 n0 c0 _ rfl hw1 _ 1 1 _ _ rfl hr1 rfl Nat.one_pos (rs_one _) (by omega) (by unfold maxLen; omega) hB1 (n0 + 1) rfl (rs (L ++ [⟨-1, N⟩])) (rs_append _ _).symm ?_; intro A2 c2 w2 hw2 hb2 hg2))
    go_ret
    exact HF.out (-1) A2 c2 w2 rfl hw2 hb2 hg2
theorem OwnV.older {E s : Nat} {w : World} {B n c : Nat} {A : Option Addr} {l : List Value} (h : OwnV E s w B A n c l) {g : Nat} (e : obk A = some g) : g < w.heap.size := by
  rcases h.2 with ⟨hv, _⟩ | ⟨g', cap, cur, hv, _, hg, _⟩
  · injection hv with h1
    rw [h1] at e
    cases e
  · injection hv with h1
    rw [h1] at e
    injection e with e
    rw [← e]
    exact (Array.getElem?_eq_some_iff.1 hg).1
theorem reps_more (i : Nat) (s : List Rn) : reps (i + 1) s = reps i s ++ s := by
  induction i with
  | zero => simp [reps]
  | succ j ih =>
    have e : reps (j + 1) s = s ++ reps j s := rfl
    have e2 : reps (j + 1 + 1) s = s ++ reps (j + 1) s := rfl
    rw [e2, ih, ← List.append_assoc, ← e, ih]
theorem reps_split (i N : Nat) (s : List Rn) (h : i ≤ N) : reps i s ++ reps (N - i) s = reps N s := by
  induction i with
  | zero => simp [reps]
  | succ i ih =>
    rw [← ih (by omega), reps_one (n := N - i) (by omega), show N - i - 1 = N - (i + 1) by omega, ← List.append_assoc, reps_more]
set_option maxRecDepth 100000 in
set_option maxHeartbeats 3200000 in
theorem rleaves_any (B : Nat) (A : Option Addr) (n cap : Nat) (l : List Nd) (hc : n ≤ cap) (hn : n ≤ 1099511627776) (M : Nat) : ∀ (p : Nat) (x : Nd) (k r : F) (t : List Nd) (w : World) (A0 : Option Addr) (n0 c0 : Nat) (L : List Rn), k.sz < M → RdN w B A n l → (F.cons x k r).ok → l.drop p = (F.cons x k r).flat ++ t → B ≤ w.heap.size → L.length = n0 → OwnV 88 2 w B A0 n0 c0 (rs L) → n0 + (one x k.lvs).length ≤ 1048576 →
    Calls Try.prog 54 #[.slice A n cap, .int .i64 p, .slice A0 n0 c0] w (MoreR B A0 (L ++ one x k.lvs) w) := by
  induction M with
  | zero => intro p x k r t w A0 n0 c0 L h; omega
  | succ M ih =>
    intro p x k r t w A0 n0 c0 L hM h hok hl hB hL h0 hs
    obtain ⟨hk, hfit, hd, hx⟩ := kids_at hok hl
    have hlen := h.len
    rw [hlen] at hfit
    have hpn : p < n := by omega
    by_cases h3 : x.k = 3
    · have hm : k.cnt ≤ n := by have := F.cnt_le_sz k; omega
      have HPD := Lib.hid fun j hj => pos_dr hok.2.2.1 hd (by omega) j hj
      have hkok := Lib.hid hok
      rw [lvs_seq h3] at hs ⊢
      generalize hmd : k.cnt = m at hk hm HPD
      have hp63 : (p : Int) ≤ 1099511627776 := by omega
      obtain ⟨ad, x', rfl, hab, hx', hin, c0', c1', c2'⟩ := h.at_ hpn
      rw [hx] at hx'
      injection hx' with hx'
      subst hx'
      obtain ⟨xk, xp, xn⟩ := x
      dsimp only at h3
      subst h3
      have HM := Lib.hid hmd
      have HK := Lib.hid hk
      have HIH := Lib.hid ih
      have HR := Lib.hid h
      have H0 := Lib.hid h0
      have HL := Lib.hid hL
      clear hk hmd hl hd hx hlen hok ih hin h h0
      go_enter Try.func54, Try.ntmps54
      go_wp2_with fail
      refine (rkids_new (some ad) n cap l (p : Int) w (HR.out.more hB) hc hn (by omega) (by omega)).mono ?_
      rw [HK.out]
      rintro e w1 ⟨A1, n1, c1, rfl, hr1, hc1, hb1, hnew⟩
      have hn1 : n1 = m := by have := hr1.len; simp [plc] at this; omega
      subst hn1
      have hw1 := H0.out.below rfl hb1
      have hs1 := hb1.size
      have HFAR : Hid (∀ ad, A1 = some ad → some ad.block ≠ obk A0) := Lib.hid fun ad' e' => by
        have h1 := hnew ad' e'
        intro e2
        have h2 := H0.out.older e2.symm
        omega
      have HW1 := Lib.hid hw1
      have HR1 := Lib.hid hr1
      clear hw1 hnew hr1 c0' c1' c2'
      go_wp2_with fail
      go_loopw [2, 63] (fun o s wr => ∃ (i : Nat) (Ao : Option Addr) (co : Nat) (Li : List Rn), i ≤ n1 ∧ s = .int .i64 i ∧ o = .slice Ao (L ++ Li).length co ∧ Li ++ (F.dr i k).lvs = k.lvs ∧ OwnV 88 2 wr B Ao (L ++ Li).length co (rs (L ++ Li)) ∧ Below B w wr ∧ Grew A0 Ao w1 wr) (fun _ s _ => n1 - (intOf s).toNat)
      case atStart => exact ⟨0, A0, c0, [], by omega, rfl, by rw [List.append_nil, HL.out], by simp [F.dr], by rw [List.append_nil, HL.out]; exact HW1.out, hb1.mono hB, Grew.refl _ _⟩
      case round =>
        obtain ⟨i, Ao, co, Li, hi, rfl, rfl, hLi, how, hb, hg⟩ := hrel
        have HLI := Lib.hid hLi
        have HOW := Lib.hid how
        have HG := Lib.hid hg
        have hbs := hb.size
        clear hLi how hg
        by_cases hlt : i < n1
        · obtain ⟨hd, hsz, hp1, hp2⟩ := HPD.out i (by omega)
          obtain ⟨y, ky, r', ed⟩ := dr_cons (f := k) (j := i) (by have := HM.out; omega)
          have hok' := dr_ok hkok.out.2.2.1 i
          have ed2 := dr_succ ed
          rw [ed] at hd hsz hok'
          have hky : ky.sz < M := by simp only [F.sz] at hsz; omega
          have hlv : Li ++ (one y ky.lvs ++ r'.lvs) = k.lvs := by have := HLI.out; rw [ed] at this; exact this
          have hlen2 : (L ++ Li).length + (one y ky.lvs).length ≤ 1048576 := by
            have := congrArg List.length hlv
            simp only [List.length_append] at this ⊢
            have := HL.out
            omega
          have hget := plc_get l (p + 1) n1 i hlt
          have HED := Lib.hid ed2
          have HLV := Lib.hid hlv
          clear hsz ed ed2 hlv
          generalize pos l (p + 1) i = P at hd hp1 hp2 hget
          obtain ⟨adk, z, rfl, hadk, hz, hcell⟩ := HR1.out.at_ hlt
          rw [hget] at hz
          injection hz with hz
          subst hz
          have hcell2 : wr.cell? (adk.add i) = some (.int .i64 (P : Int)) := by
            refine (World.cell?_of_block ?_).trans hcell
            rw [add_block]
            exact HG.out.gb.block adk.block hadk (HFAR.out adk rfl)
          clear hget hcell
          have hcall := HIH.out P y ky r' _ wr Ao (L ++ Li).length co (L ++ Li) hky (HR.out.below hb) hok' hd (by omega) rfl HOW.out hlen2
          have HCALL := Lib.hid hcall
          clear hcall hd hok' hlen2
          generalize (L ++ Li).length = q at HCALL ⊢
          go_wp2_with fail
          refine HCALL.out.mono ?_
          rintro e2 w4 ⟨A4, c4, rfl, how4, hb4, hg4⟩
          have HOW4 := Lib.hid how4
          have HG4 := Lib.hid hg4
          clear how4 hg4
          generalize hqd : (L ++ Li ++ one y ky.lvs).length = q4
          have HQD := Lib.hid hqd
          clear hqd
          go_wp2_with fail
          go_roundw
          case rel => exact ⟨i + 1, A4, c4, Li ++ one y ky.lvs, by omega, by go_num, by rw [← HQD.out, List.append_assoc], by rw [HED.out, List.append_assoc]; exact HLV.out, by rw [← List.append_assoc]; exact HOW4.out, hb.trans hb4, HG.out.trans HG4.out⟩
          case measure => simp [intOf]; omega
        · have hge : n1 ≤ i := by omega
          have e2 : F.dr i k = .nil := by rw [show i = k.cnt by have := HM.out; omega]; exact dr_all k
          have e3 : Li = k.lvs := by have := HLI.out; rw [e2] at this; simpa [F.lvs] using this
          have HE3 := Lib.hid e3
          clear e2 e3
          generalize hqd : (L ++ Li).length = q
          have HQD := Lib.hid hqd
          clear hqd
          go_wp2_with fail
          go_ret
          have hw := HOW.out
          rw [HQD.out] at hw
          exact MoreR.mk (L := L ++ Li) (by rw [HE3.out]) HQD.out.symm hw hb ((Grew.bel hb1).trans HG.out)
    · by_cases h4 : x.k = 4
      · rw [lvs_rep h4] at hs ⊢
        obtain ⟨ad, x', rfl, hab, hx', hin, c0', c1', c2'⟩ := h.at_ hpn
        rw [hx] at hx'
        injection hx' with hx'
        subst hx'
        obtain ⟨xk, xp, xn⟩ := x
        dsimp only at h4 hs
        subst h4
        have hn1 := fine_one hok.1
        obtain ⟨N, rfl⟩ := Int.eq_ofNat_of_zero_le (show 0 ≤ xn by dsimp only at hn1; omega)
        have hN2 : (N : Int) ≤ 9223372036854775807 := hin.2.2.2
        have hc' : k.cnt = 1 := hok.2.1
        cases k with
        | nil => simp [F.cnt] at hc'
        | cons y q r2 =>
          obtain rfl : r2 = .nil := F.cnt_zero (by simp only [F.cnt] at hc'; omega)
          have e1 : (F.cons y q .nil).lvs = one y q.lvs := by simp [F.lvs]
          rw [Int.toNat_natCast, e1] at hs
          simp only [Int.toNat_natCast, e1]
          have hq : q.sz < M := by simp only [F.sz] at hM; omega
          have hok2 := hok.2.2.1
          have HOK := Lib.hid hok2
          have HD := Lib.hid hd
          have HIH := Lib.hid ih
          have HR := Lib.hid h
          have H0 := Lib.hid h0
          have HL := Lib.hid hL
          have hp63 : (p : Int) ≤ 1099511627776 := by omega
          have HX := Lib.hid hx
          clear h3 hk hd hx hlen hok hl ih hin h h0 hok2 hc' c2' e1 hn1 hM
          generalize hsd : one y q.lvs = sl at hs ⊢
          have HSD := Lib.hid hsd
          clear hsd
          go_enter Try.func54, Try.ntmps54
          go_wp2_with fail
          clear c0' c1'
          go_loopw [2, 7] (fun o s wr => ∃ (i : Nat) (Ao : Option Addr) (co : Nat), i ≤ N ∧ s = .int .i64 i ∧ o = .slice Ao (L ++ reps i sl).length co ∧ OwnV 88 2 wr B Ao (L ++ reps i sl).length co (rs (L ++ reps i sl)) ∧ Below B w wr ∧ Grew A0 Ao w wr) (fun _ s _ => N - (intOf s).toNat)
          case atStart => exact ⟨0, A0, c0, by omega, rfl, by simp [reps, HL.out], by simp only [reps, List.append_nil, HL.out]; exact H0.out, Below.refl _ _, Grew.refl _ _⟩
          case round =>
            obtain ⟨i, Ao, co, hi, rfl, rfl, how, hb, hg⟩ := hrel
            have HOW := Lib.hid how
            have HG := Lib.hid hg
            have hbs := hb.size
            clear how hg
            obtain ⟨ad', x', e, _, hx', _, k0, k1, k2⟩ := (HR.out.below hb).at_ hpn
            injection e with e
            subst e
            rw [HX.out] at hx'
            injection hx' with hx'
            subst hx'
            clear k0 k1
            by_cases hlt : i < N
            · have hlen2 : (L ++ reps i sl).length + (one y q.lvs).length ≤ 1048576 := by
                rw [HSD.out]
                have := congrArg List.length (reps_split (i + 1) N sl (by omega))
                rw [reps_more] at this
                simp only [List.length_append] at this ⊢
                have := HL.out
                omega
              have hcall := HIH.out (p + 1) y q .nil _ wr Ao (L ++ reps i sl).length co (L ++ reps i sl) hq (HR.out.below hb) HOK.out HD.out (by omega) rfl HOW.out hlen2
              rw [HSD.out] at hcall
              have HCALL := Lib.hid hcall
              clear hcall hlen2
              generalize (L ++ reps i sl).length = q1 at HCALL ⊢
              go_wp2_with fail
              refine HCALL.out.mono ?_
              rintro e2 w4 ⟨A4, c4, rfl, how4, hb4, hg4⟩
              have HOW4 := Lib.hid how4
              have HG4 := Lib.hid hg4
              clear how4 hg4
              generalize hqd : (L ++ reps i sl ++ sl).length = q4
              have HQD := Lib.hid hqd
              clear hqd
              go_wp2_with fail
              go_roundw
              case rel => exact ⟨i + 1, A4, c4, by omega, by go_num, by rw [← HQD.out, List.append_assoc, ← reps_more], by rw [reps_more, ← List.append_assoc]; exact HOW4.out, hb.trans hb4, HG.out.trans HG4.out⟩
              case measure => simp [intOf]; omega
            · have hge : N ≤ i := by omega
              have e3 : i = N := by omega
              have HE3 := Lib.hid e3
              clear e3
              generalize hqd : (L ++ reps i sl).length = q1
              have HQD := Lib.hid hqd
              clear hqd
              go_wp2_with fail
              go_ret
              have hw := HOW.out
              rw [HQD.out] at hw
              exact MoreR.mk (L := L ++ reps i sl) (by rw [HE3.out]) HQD.out.symm hw hb HG.out
      · have hk0 : k = .nil := F.cnt_zero (by rw [hok.2.1]; unfold kn; rw [if_neg h3, if_neg h4])
        rw [lvs_leaf h3 h4]
        exact leaf1_any B A n cap l hc hn p x w h hx hok.1 h3 h4 hB A0 n0 c0 L hL h0 (by omega)
end Go.Proofs.Ytknlhhbkahollaa

/- The path of open nodes in memory: how often the next node is gone through; the path behind a node. -/
namespace Go.Proofs.Ytknlhhbkahollaa
open Go.RowKit Tab
set_option linter.unusedSimpArgs false
set_option linter.unusedVariables false

/-- A path as cells: the outermost first. -/
def os : List (Nat × Nat) → List Value
  | [] => []
  | (a, t) :: o => os o ++ [.int .i64 (a : Int), .int .i64 (t : Int)]
theorem os_length (st : List (Nat × Nat)) : (os st).length = st.length * 2 := by
  induction st with
  | nil => rfl
  | cons e o ih => obtain ⟨a, t⟩ := e; simp only [os, List.length_append, ih, List.length_cons, List.length_nil]; omega
theorem os_last (a t : Nat) (o : List (Nat × Nat)) : (os ((a, t) :: o))[o.length * 2]? = some (.int .i64 (a : Int)) ∧ (os ((a, t) :: o))[o.length * 2 + 1]? = some (.int .i64 (t : Int)) := by
  have := os_length o
  constructor
  · simp only [os]; rw [List.getElem?_append_right (by omega), this, Nat.sub_self]; rfl
  · simp only [os]; rw [List.getElem?_append_right (by omega), this, show o.length * 2 + 1 - o.length * 2 = 1 by omega]; rfl
theorem os_set (a t : Nat) (o : List (Nat × Nat)) (b : Nat) : (os ((a, t) :: o)).set (o.length * 2) (.int .i64 (b : Int)) = os ((b, t) :: o) := by
  have := os_length o
  simp only [os]
  rw [List.set_append_right _ _ (by omega), this, Nat.sub_self]
  rfl
theorem os_dec (a t : Nat) (o : List (Nat × Nat)) (h : 1 ≤ a) : (os ((a, t) :: o)).set (o.length * 2) (.int .i64 ((a : Int) - 1)) = os ((a - 1, t) :: o) := by
  rw [show (a : Int) - 1 = ((a - 1 : Nat) : Int) by omega]
  exact os_set a t o (a - 1)
theorem OwnV.front {E s : Nat} {w : World} {B : Nat} {A : Option Addr} {n c : Nat} {l : List Value} (h : OwnV E s w B A n c l) (m : Nat) (hm : m ≤ n) : OwnV E s w B A m c (l.take (m * s)) := by
  have h0 : m * s ≤ n * s := Nat.mul_le_mul_right _ hm
  refine ⟨by rw [List.length_take, h.1]; omega, ?_⟩
  rcases h.2 with ⟨hv, hz⟩ | ⟨g, cap, cur, hv, hbg, hg, hnc, hcm, hcs, ht⟩
  · refine .inl ⟨?_, by omega⟩
    simp only [Value.slice.injEq] at hv ⊢
    exact ⟨hv.1, by omega, hv.2.2⟩
  · simp only [Value.slice.injEq] at hv
    obtain ⟨rfl, _, rfl⟩ := hv
    refine .inr ⟨g, c, cur, rfl, hbg, hg, by omega, hcm, hcs, ?_⟩
    rw [← ht, List.take_take, Nat.min_eq_left h0]
theorem os_take (a t : Nat) (o : List (Nat × Nat)) : (os ((a, t) :: o)).take (o.length * 2) = os o := by
  simp only [os]
  exact List.take_left' (os_length o)
theorem pops_more {a t : Nat} {o : List (Nat × Nat)} (h : 1 < a) : pops ((a, t) :: o) = (a - 1, t) :: o := by simp only [pops]; rw [if_pos h]
theorem pops_less {a t : Nat} {o : List (Nat × Nat)} (h : ¬ 1 < a) : pops ((a, t) :: o) = pops o := by simp only [pops]; rw [if_neg h]
end Go.Proofs.Ytknlhhbkahollaa
