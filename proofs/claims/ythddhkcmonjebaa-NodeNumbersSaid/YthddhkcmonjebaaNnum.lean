/- NodeNumbers: chapter 3's runs, tables of sixty tapes, each thing of them turned; deep ones, long ones, numbers that run over: the program's answers are the document's. -/
import Derived.Test.YthddhkcmonjebaaFrameN
import Derived.Test.YthddhkcmonjebaaTape
namespace Go.Proofs.Ythddhkcmonjebaa.nodeNumbers
open Go.ChangeShapes Go.WideShapes Go.ChangeAt Go.RowKit Tab
set_option linter.unusedSimpArgs false
set_option linter.unusedVariables false

theorem elL : Elt 30 2 1 8 (.int .i64 0) := ⟨Try.underlying30, by kernel_rfl, rfl, by omega⟩
def LL : List Int := [-1, 0, 1, 2, 5, 6, 128, 129, 4096, 4097, 9223372036854775807]
theorem LL_in : ∀ z ∈ LL, In64 z := by
  intro z hz
  simp [LL] at hz
  unfold In64
  omega
theorem big_in : ∀ x ∈ ([⟨4, 0, 4611686018427387904⟩, ⟨4, 0, 4611686018427387904⟩, ⟨2, 0, 4611686018427387904⟩] : List Nd), NdIn x := by
  intro x hx
  simp at hx
  rcases hx with rfl | rfl <;> (refine ⟨?_, ?_, ?_⟩ <;> (unfold In64; simp))
set_option maxRecDepth 100000 in
set_option maxHeartbeats 8000000 in
theorem walk (w : World)  :
    Calls Try.prog 3 #[] w (Ans (.bool true) w) := by
  go_enter Try.func3, Try.ntmps3
  go_wp2_with fail
  obtain ⟨m, hm⟩ : ∃ m : Nat, (60 : Int) = (m : Int) := ⟨60, rfl⟩
  have hm1 : m ≤ 60 := by omega
  rw [hm]
  clear hm
  go_loopw [1] (fun s wr => ∃ k : Nat, k ≤ m ∧ s = .int .i64 k ∧ Below w.heap.size w wr) (fun s _ => m - (intOf s).toNat)
  case atStart => exact ⟨0, by omega, rfl, Below.refl _ _⟩
  case round =>
    obtain ⟨k, hk, rfl, hb⟩ := hrel
    by_cases hlt : k < m
    · go_wp2_with fail
      refine (tape_any k wr (by omega)).mono ?_
      rintro e w1 ⟨A1, n1, c1, f1, rfl, hr1, hn1, hb1⟩
      have k1 := hb.trans (hb1.mono hb.size)
      go_wp2_with fail
      refine (table_box A1 n1 c1 f1 w1 3 _ 3 (k % 7) rfl (by omega) (by omega) (by omega) (by omega) hr1 (by omega)).mono ?_
      rintro e w2 ⟨x, kk, A2, n2, c2, rfl, hok, hr2, hc2, hsz, hb2⟩
      have k2 := k1.trans (hb2.mono k1.size)
      clear hb hb1 hb2 k1 hr1
      have hlen : (x :: kk.flat).length = n2 := hr2.len
      have hX : 5 ^ (k % 7 + 1) ≤ 5 ^ 7 := Nat.pow_le_pow_right (by omega) (by omega)
      have hn2 : n2 ≤ 78125 := by simp only [List.length_cons, F.flat_length] at hlen; omega
      generalize x :: kk.flat = l at hr2 hlen
      clear hX hsz hok hlen
      by_cases h150 : 150 < n2
      · have h150' : decide ((150 : Int) < (n2 : Int)) = true := decide_eq_true (by omega)
        go_wp2_with fail
        go_roundw
        case rel => exact ⟨k + 1, by omega, by go_num, k2⟩
        case measure => simp [intOf]; omega
      · have h150' : decide ((150 : Int) < (n2 : Int)) = false := decide_eq_false (by omega)
        go_wp2_with fail
        refine (same_any A2 n2 c2 l (k : Int) w2 hr2 hc2 (by omega) (by omega) (by omega)).mono ?_
        rintro e w3 ⟨rfl, hb3⟩
        have k3 := k2.trans (hb3.mono k2.size)
        have r3 := hr2.on hb3
        clear hb3 k2 hr2
        go_wp2_with fail
        obtain ⟨m7, hm7⟩ : ∃ m : Nat, (7 : Int) = (m : Int) := ⟨7, rfl⟩
        have hm71 : m7 ≤ 7 := by omega
        rw [hm7]
        clear hm7
        go_loopw [3] (fun s wr => ∃ q : Nat, q ≤ m7 ∧ s = .int .i64 q ∧ Below w3.heap.size w3 wr) (fun s _ => m7 - (intOf s).toNat)
        case atStart => exact ⟨0, by omega, rfl, Below.refl _ _⟩
        case round =>
          obtain ⟨q, hq, rfl, hb⟩ := hrel
          by_cases hlt2 : q < m7
          · have hbl := bl1 wr (.cells #[.int .i64 (-1), .int .i64 0, .int .i64 1, .int .i64 2, .int .i64 5, .int .i64 6, .int .i64 128, .int .i64 129, .int .i64 4096, .int .i64 4097, .int .i64 9223372036854775807] 2)
            have q4 : RdI (wr.alloc (.cells #[.int .i64 (-1), .int .i64 0, .int .i64 1, .int .i64 2, .int .i64 5, .int .i64 6, .int .i64 128, .int .i64 129, .int .i64 4096, .int .i64 4097, .int .i64 9223372036854775807] 2)) (wr.alloc (.cells #[.int .i64 (-1), .int .i64 0, .int .i64 1, .int .i64 2, .int .i64 5, .int .i64 6, .int .i64 128, .int .i64 129, .int .i64 4096, .int .i64 4097, .int .i64 9223372036854775807] 2)).heap.size (some ⟨wr.heap.size, 0, none⟩) 11 LL :=
              ⟨rfl, rdV_new wr _ _ _ rfl⟩
            have k4 := hb.trans (hbl.mono hb.size)
            go_wp2_with fail
            generalize wr.alloc (.cells #[.int .i64 (-1), .int .i64 0, .int .i64 1, .int .i64 2, .int .i64 5, .int .i64 6, .int .i64 128, .int .i64 129, .int .i64 4096, .int .i64 4097, .int .i64 9223372036854775807] 2) = w4 at q4 k4 hbl ⊢
            generalize wr.heap.size = g at q4 hbl ⊢
            clear hb hbl
            obtain ⟨m11, hm11⟩ : ∃ m : Nat, (11 : Int) = (m : Int) := ⟨11, rfl⟩
            have hm111 : m11 ≤ 11 := by omega
            rw [hm11]
            clear hm11
            go_loopw [5, 36] (fun _ s wr => ∃ i : Nat, i ≤ m11 ∧ s = .int .i64 i ∧ Below w4.heap.size w4 wr) (fun _ s _ => m11 - (intOf s).toNat)
            case atStart => exact ⟨0, by omega, rfl, Below.refl _ _⟩
            case round =>
              obtain ⟨i, hi, rfl, hb⟩ := hrel
              by_cases hlt3 : i < m11
              · obtain ⟨ad, z, e, _, hz, hcell⟩ := (q4.on hb).at_ (i := i) (by omega)
                injection e with e
                subst e
                have hzin := LL_in z (List.mem_of_getElem? hz)
                rw [add_zero] at hcell
                clear hz
                have r5 := (r3.on k4).on hb
                have hi11 : i < 11 := by omega
                go_wp2_with fail
                refine (odd_any A2 n2 c2 l (k : Int) (q : Int) z wr r5 hc2 (by omega) hzin).mono ?_
                rintro e w6 ⟨A6, n6, c6, l6, rfl, h6, hc6, hn6, hb6⟩
                go_wp2_with fail
                refine (same_any A6 n6 c6 l6 (k : Int) w6 h6 hc6 (by omega) (by omega) (by omega)).mono ?_
                rintro e w7 ⟨rfl, hb7⟩
                have t7 := hb6.trans (hb7.mono hb6.size)
                go_wp2_with fail
                go_roundw
                case rel => exact ⟨i + 1, by omega, by go_num, hb.trans (t7.mono hb.size)⟩
                case measure => simp [intOf]; omega
              · have hge : m11 ≤ i := by omega
                have t7 := k4.trans (hb.mono k4.size)
                go_wp2_with fail
                go_roundw
                case rel => exact ⟨q + 1, by omega, by go_num, t7⟩
                case measure => simp [intOf]; omega
          · have hge : m7 ≤ q := by omega
            have t7 := k3.trans (hb.mono k3.size)
            go_wp2_with fail
            go_roundw
            case rel => exact ⟨k + 1, by omega, by go_num, t7⟩
            case measure => simp [intOf]; omega
    · have hge : m ≤ k := by omega
      go_wp2_with fail
      generalize wr = wA at hb ⊢
      obtain ⟨m19, hm19⟩ : ∃ m : Nat, (19 : Int) = (m : Int) := ⟨19, rfl⟩
      have hm191 : m19 ≤ 19 := by omega
      have hm192 : 1 ≤ m19 := by omega
      rw [hm19]
      clear hm19
      go_loopw [6] (fun s wr => ∃ d : Nat, 1 ≤ d ∧ d ≤ m19 ∧ s = .int .i64 d ∧ Below w.heap.size w wr) (fun s _ => m19 - (intOf s).toNat)
      case atStart => exact ⟨1, by omega, by omega, rfl, hb⟩
      case round =>
        obtain ⟨d, hd1, hd, rfl, hb'⟩ := hrel
        clear hb
        by_cases hlt4 : d < m19
        · go_wp2_with fail
          generalize wr = wB at hb' ⊢
          go_loopw [7, 8] (fun q s wr => ∃ (j c : Nat) (A : Option Addr) (L : List Nd), j + 1 ≤ d ∧ s = .int .i64 ((j : Int) + 1) ∧ q = .slice A j c ∧ OwnN wr w.heap.size A j c L ∧ Below w.heap.size w wr) (fun _ s _ => d - (intOf s).toNat)
          case atStart => exact ⟨0, 0, none, [], by omega, rfl, rfl, ⟨rfl, OwnV.nil _ _ _ _, by simp⟩, hb'⟩
          case round =>
            obtain ⟨j, c, A, L, hj, rfl, rfl, hw, hb⟩ := hrel
            by_cases hlt5 : j + 1 < d
            · have hlt5' : decide ((j : Int) + 1 < (d : Int)) = true := decide_eq_true (by omega)
              by_cases hpar : ((j : Int) + 1) % 2 = 0
              · skip
                have hbs1 := hb.alloc hb.size (.cells #[.int .i64 3, .int .i64 4] 3)
                have hbs := hbs1.alloc hbs1.size (.cells #[.int .i64 3, .int .i64 0, .int .i64 1] 33)
                have ho1 := hw.keep (w' := wr.alloc (.cells #[.int .i64 3, .int .i64 4] 3)) fun b _ hb => Below.heap_alloc wr _ b hb
                have ho2 := ho1.keep (w' := (wr.alloc (.cells #[.int .i64 3, .int .i64 4] 3)).alloc (.cells #[.int .i64 3, .int .i64 0, .int .i64 1] 33)) fun b _ hb => Below.heap_alloc _ _ b hb
                have hrd := rdV_new (wr.alloc (.cells #[.int .i64 3, .int .i64 4] 3)) #[.int .i64 3, .int .i64 0, .int .i64 1] 33 (ns [⟨3, 0, 1⟩]) rfl
                have esz : (wr.alloc (.cells #[.int .i64 3, .int .i64 4] 3)).heap.size = wr.heap.size + 1 := by simp
                rw [esz] at hrd
                clear esz
                have HO2 := Lib.hid ho2
                clear ho1 ho2 hw
                go_wp2_with (at_builtin; go_loud (refine wpList_appV elN rfl (.tmp 58) (.tmp 65) rfl rfl w.heap.size A j c _ rfl HO2.out.own _ 1 1 (ns [⟨3, 0, 1⟩]) _ rfl hrd rfl (ns_one _) (by omega) (by unfold maxLen; omega) hbs.size (j + 1) rfl _ rfl ?_; intro A5 c5 w5 hw5 hb5 _))
                go_roundw
                case rel =>
                  refine ⟨j + 1, c5, A5, L ++ [⟨3, 0, 1⟩], by omega, by go_num, rfl, ⟨by rw [List.length_append, HO2.out.len]; rfl, by rw [ns_append]; exact hw5, fun y hy => ?_⟩, hbs.trans hb5⟩
                  rcases List.mem_append.1 hy with hy | hy
                  · exact HO2.out.bd y hy
                  · simp at hy; subst hy; exact ndIn_mk (by omega) (by omega) (by omega)
                case measure => simp [intOf]; omega
              · have hpar : ((j : Int) + 1) % 2 = 1 := by omega
                have hbs1 := hb.alloc hb.size (.cells #[.int .i64 3, .int .i64 4] 3)
                have hbs := hbs1.alloc hbs1.size (.cells #[.int .i64 4, .int .i64 0, .int .i64 1] 33)
                have ho1 := hw.keep (w' := wr.alloc (.cells #[.int .i64 3, .int .i64 4] 3)) fun b _ hb => Below.heap_alloc wr _ b hb
                have ho2 := ho1.keep (w' := (wr.alloc (.cells #[.int .i64 3, .int .i64 4] 3)).alloc (.cells #[.int .i64 4, .int .i64 0, .int .i64 1] 33)) fun b _ hb => Below.heap_alloc _ _ b hb
                have hrd := rdV_new (wr.alloc (.cells #[.int .i64 3, .int .i64 4] 3)) #[.int .i64 4, .int .i64 0, .int .i64 1] 33 (ns [⟨4, 0, 1⟩]) rfl
                have esz : (wr.alloc (.cells #[.int .i64 3, .int .i64 4] 3)).heap.size = wr.heap.size + 1 := by simp
                rw [esz] at hrd
                clear esz
                have HO2 := Lib.hid ho2
                clear ho1 ho2 hw
                go_wp2_with (at_builtin; go_loud (refine wpList_appV elN rfl (.tmp 58) (.tmp 65) rfl rfl w.heap.size A j c _ rfl HO2.out.own _ 1 1 (ns [⟨4, 0, 1⟩]) _ rfl hrd rfl (ns_one _) (by omega) (by unfold maxLen; omega) hbs.size (j + 1) rfl _ rfl ?_; intro A5 c5 w5 hw5 hb5 _))
                go_roundw
                case rel =>
                  refine ⟨j + 1, c5, A5, L ++ [⟨4, 0, 1⟩], by omega, by go_num, rfl, ⟨by rw [List.length_append, HO2.out.len]; rfl, by rw [ns_append]; exact hw5, fun y hy => ?_⟩, hbs.trans hb5⟩
                  rcases List.mem_append.1 hy with hy | hy
                  · exact HO2.out.bd y hy
                  · simp at hy; subst hy; exact ndIn_mk (by omega) (by omega) (by omega)
                case measure => simp [intOf]; omega
            · have hlt5' : decide ((j : Int) + 1 < (d : Int)) = false := decide_eq_false (by omega)
              have hbs := hb.alloc hb.size (.cells #[.int .i64 2, .int .i64 0, .int .i64 1] 33)
              have ho2 := hw.keep (w' := wr.alloc (.cells #[.int .i64 2, .int .i64 0, .int .i64 1] 33)) fun b _ hb => Below.heap_alloc wr _ b hb
              have hrd := rdV_new wr #[.int .i64 2, .int .i64 0, .int .i64 1] 33 (ns [⟨2, 0, 1⟩]) rfl
              have HO2 := Lib.hid ho2
              clear ho2 hw
              go_wp2_with (at_builtin; go_loud (refine wpList_appV elN rfl (.tmp 67) (.tmp 69) rfl rfl w.heap.size A j c _ rfl HO2.out.own _ 1 1 _ _ rfl hrd rfl (ns_one _) (by omega) (by unfold maxLen; omega) hbs.size (j + 1) rfl _ rfl ?_; intro A5 c5 w5 hw5 hb5 _))
              have k5 := hbs.trans hb5
              have r5 : OwnN w5 w.heap.size A5 (j + 1) c5 (L ++ [⟨2, 0, 1⟩]) := by
                refine ⟨by rw [List.length_append, HO2.out.len]; rfl, by rw [ns_append]; exact hw5, fun y hy => ?_⟩
                rcases List.mem_append.1 hy with hy | hy
                · exact HO2.out.bd y hy
                · simp at hy; subst hy; exact ndIn_mk (by omega) (by omega) (by omega)
              refine (same_any A5 (j + 1) c5 _ _ w5 r5.rdn r5.cap (by omega) (by omega) (by omega)).mono ?_
              rintro e w6 ⟨rfl, hb6⟩
              have k6 := k5.trans (hb6.mono k5.size)
              go_wp2_with fail
              go_roundw
              case rel => exact ⟨d + 1, by omega, by omega, by go_num, k6⟩
              case measure => simp [intOf]; omega
        · have hge : m19 ≤ d := by omega
          go_wp2_with fail
          generalize wr = wC at hb' ⊢
          obtain ⟨m131, hm131⟩ : ∃ m : Nat, (131 : Int) = (m : Int) := ⟨131, rfl⟩
          have hm1311 : m131 ≤ 131 := by omega
          rw [hm131]
          clear hm131
          go_loopw [9] (fun s wr => ∃ n : Nat, 1 ≤ n ∧ n ≤ m131 + 10 ∧ s = .int .i64 n ∧ Below w.heap.size w wr) (fun s _ => m131 - (intOf s).toNat)
          case atStart => exact ⟨1, by omega, by omega, rfl, hb'⟩
          case round =>
            obtain ⟨n, hn1, hn, rfl, hb⟩ := hrel
            clear hb'
            by_cases hlt6 : n < m131
            · have hn131 : n ≤ 131 := by omega
              have ql := OwnN.lit wr w.heap.size #[.int .i64 3, .int .i64 0, .int .i64 (n : Int)] [⟨3, 0, (n : Int)⟩] 1 rfl rfl hb.size (by omega) (by intro x hx; simp at hx; subst hx; exact ndIn_mk (by omega) (by omega) (by omega))
              have k1 := hb.alloc hb.size (.cells #[.int .i64 3, .int .i64 0, .int .i64 (n : Int)] 33)
              go_wp2_with fail
              generalize wr.alloc (.cells #[.int .i64 3, .int .i64 0, .int .i64 (n : Int)] 33) = wD at ql k1 ⊢
              generalize wr.heap.size = gD at ql ⊢
              clear hb
              go_loopw [10, 11] (fun q s wr => ∃ (i c : Nat) (A : Option Addr) (L : List Nd), i ≤ n ∧ s = .int .i64 i ∧ q = .slice A (i + 1) c ∧ OwnN wr w.heap.size A (i + 1) c L ∧ Below w.heap.size w wr) (fun _ s _ => n - (intOf s).toNat)
              case atStart => exact ⟨0, 1, _, _, by omega, rfl, rfl, ql, k1⟩
              case round =>
                obtain ⟨i, c, A, L, hi, rfl, rfl, hw, hb⟩ := hrel
                clear ql k1
                by_cases hlt7 : i < n
                · have hbs := hb.alloc hb.size (.cells #[.int .i64 1, .int .i64 ((i : Int) % 6), .int .i64 ((i : Int) % 40 + 1)] 33)
                  have ho2 := hw.keep (w' := wr.alloc (.cells #[.int .i64 1, .int .i64 ((i : Int) % 6), .int .i64 ((i : Int) % 40 + 1)] 33)) fun b _ hb => Below.heap_alloc wr _ b hb
                  have hrd := rdV_new wr #[.int .i64 1, .int .i64 ((i : Int) % 6), .int .i64 ((i : Int) % 40 + 1)] 33 (ns [⟨1, (i : Int) % 6, (i : Int) % 40 + 1⟩]) rfl
                  have HO2 := Lib.hid ho2
                  clear ho2 hw
                  go_wp2_with (at_builtin; go_loud (refine wpList_appV elN rfl (.tmp 87) (.tmp 94) rfl rfl w.heap.size A (i + 1) c _ rfl HO2.out.own _ 1 1 (ns [⟨1, (i : Int) % 6, (i : Int) % 40 + 1⟩]) _ rfl hrd rfl (ns_one _) (by omega) (by unfold maxLen; omega) hbs.size (i + 1 + 1) rfl _ rfl ?_; intro A5 c5 w5 hw5 hb5 _))
                  go_roundw
                  case rel =>
                    refine ⟨i + 1, c5, A5, L ++ [⟨1, (i : Int) % 6, (i : Int) % 40 + 1⟩], by omega, by go_num, rfl, ⟨by rw [List.length_append, HO2.out.len]; rfl, by rw [ns_append]; exact hw5, fun y hy => ?_⟩, hbs.trans hb5⟩
                    rcases List.mem_append.1 hy with hy | hy
                    · exact HO2.out.bd y hy
                    · simp at hy; subst hy; exact ndIn_mk (by omega) (by omega) (by omega)
                  case measure => simp [intOf]; omega
                · have hge : n ≤ i := by omega
                  go_wp2_with fail
                  refine (same_any A (i + 1) c L (n : Int) wr hw.rdn hw.cap (by omega) (by omega) (by omega)).mono ?_
                  rintro e w6 ⟨rfl, hb6⟩
                  have k6 := hb.trans (hb6.mono hb.size)
                  go_wp2_with fail
                  go_roundw
                  case rel => exact ⟨n + 7, by omega, by omega, by go_num, k6⟩
                  case measure => simp [intOf]; omega
            · have hge : m131 ≤ n := by omega
              have q7 := lit_rdN wr [⟨4, 0, 4611686018427387904⟩, ⟨4, 0, 4611686018427387904⟩, ⟨2, 0, 4611686018427387904⟩] 3 #[.int .i64 4, .int .i64 0, .int .i64 4611686018427387904, .int .i64 4, .int .i64 0, .int .i64 4611686018427387904, .int .i64 2, .int .i64 0, .int .i64 4611686018427387904] 33 rfl rfl big_in
              have k7 := hb.alloc hb.size (.cells #[.int .i64 4, .int .i64 0, .int .i64 4611686018427387904, .int .i64 4, .int .i64 0, .int .i64 4611686018427387904, .int .i64 2, .int .i64 0, .int .i64 4611686018427387904] 33)
              go_wp2_with fail
              refine (same_any _ 3 3 _ 1 _ q7 (by omega) (by omega) (by omega) (by omega)).mono ?_
              rintro e w8 ⟨rfl, hb8⟩
              have k8 := k7.trans (hb8.mono k7.size)
              go_wp2_with fail
              refine (known_any w8).mono ?_
              rintro e w9 ⟨rfl, hb9⟩
              have k9 := k8.trans (hb9.mono k8.size)
              go_wp2_with fail
              go_ret
              exact Ans.mk rfl k9

set_option maxRecDepth 100000 in
theorem lifted (os : Os) (started : os.Started) (H : Type) (enc : TypeId × Value → H) :
    ReturnsInHanded {} Try.checked os 3 .any (Rows.nodeNumbersSpec.pre6 enc Try.prog Try.f3 Rows.nodeNumbersRow.domain false) (Rows.nodeNumbersSpec.post enc Try.prog Try.f3 false true false false) := by
  refine returnsInHanded_of_change_sized (C := Try.checked) own started (by kernel_rfl) Try.func3
    (ChangeSpec.witness6 (enc := enc) (C := Try.checked) false ⟨#[], #[], []⟩ 8 (by kernel_rfl) (by kernel_rfl) (by kernel_rfl) (by kernel_rfl)) ?_
  intro W base args ds gs before hval0 hW hcnd hsz0 _
  have hval : ∀ (j : Nat) t v, Try.f3.params[j]? = some t → args[j]? = some v → Value.okWide Try.prog W .any base t v := hval0
  have hW' := hW
  obtain ⟨p, q, hA0, hV, rfl, hfz, hnd⟩ := hW
  have hA : DataW.TrodAll enc Try.prog W 0 (fun _ => true) true Try.f3.params.toList args.toList ds p := hA0
  rw [Try.params3] at hA hval
  obtain ⟨rfl, rfl, rfl⟩ := trodAll_none hA
  obtain ⟨rfl, rfl⟩ := trodVars_none hV
  clear hA0 hval0
  refine (walk  W ).mono fun e W' ⟨he, bel⟩ => ?_
  subst he
  exact ⟨_, rfl, _, _, _, [], _, [], hW', trodAll_mk1 (shut_bool Try.underlying4 _), trodAll_mk0, rfl, bel.frame _, fun h => by cases h⟩

theorem proved : Rows.NodeNumbersSaid :=
  OpenClaim.holds_of_wide 3 Try.f3 rfl rfl rfl rfl rfl rfl rfl ⟨rfl, rfl, rfl, rfl, rfl⟩ rfl rfl rfl rfl rfl (by kernel_rfl) Try.func3 (by kernel_rfl)
    (of_decide_eq_true (by kernel_rfl)) (by unfold Func.isWrapper; first | (rw [if_pos (by decide +kernel)]; kernel_rfl) | (rw [if_neg (by decide +kernel)]; exact ⟨rfl, rfl⟩))
    (fun os started H enc _ => lifted os started H enc)
end Go.Proofs.Ythddhkcmonjebaa.nodeNumbers
