import Derived.Test.YtfmndmhjjbeokaaGreatDoorLow49
import Derived.Lib.AppendStr
import Derived.Laws.IdiomStrings
namespace Go.Proofs.YtfmndmhjjbeokaaGreatDoor
set_option maxRecDepth 100000
open Go.RowKit Tab Txt
set_option linter.unusedSimpArgs false
set_option linter.unusedVariables false
set_option maxHeartbeats 4000000 in
theorem tchanw_any (x : ChV) (AN : Option Addr) (nn cn : Nat) (N : List (List UInt8)) (w : World) (hN : RdB sc w w.heap.size AN nn N) (hNl : ∀ s ∈ N, s.length ≤ 64) (hx : PcIn nn x) (ht : TabW w) :
    Calls Tryz.prog 32 #[cv x, .slice AN nn cn] w (Ans (.string (bsOf (chanL N x))) w) := by
  have HLN := Lib.hid (chanL_len hNl hx)
  have HCL : Hid (chanL N x = joinB 32 (chanW N x) ++ [10]) := Lib.hid rfl
  have NR := Lib.hid hN
  have HT := Lib.hid ht
  have CI := Lib.hid hx
  obtain ⟨xf', xt', xq, xc', xm', xl'⟩ := x
  obtain ⟨xf, h1⟩ := Int.eq_ofNat_of_zero_le CI.out.fr.1
  obtain ⟨xt, h2⟩ := Int.eq_ofNat_of_zero_le CI.out.tt.1
  obtain ⟨xc, h3⟩ := Int.eq_ofNat_of_zero_le CI.out.cap.1
  obtain ⟨xm, h4⟩ := Int.eq_ofNat_of_zero_le CI.out.max.1
  obtain ⟨xl, h5⟩ := Int.eq_ofNat_of_zero_le CI.out.late.1
  dsimp only at h1 h2 h3 h4 h5
  subst h1 h2 h3 h4 h5
  have CB2 : Hid (xf < nn ∧ xt < nn ∧ xc ≤ 8 ∧ xm ≤ 4294967295 ∧ xl ≤ 4096) := Lib.hid (by
    have h1 := CI.out.fr
    have h2 := CI.out.tt
    have h3 := CI.out.cap
    have h4 := CI.out.max
    have h5 := CI.out.late
    dsimp only at h1 h2 h3 h4 h5
    omega)
  have HIX : Hid ((xf : Int) < (nn : Int) ∧ xf < nn ∧ (xt : Int) < (nn : Int) ∧ xt < nn) := Lib.hid (by have := CB2.out; omega)
  have HWR : Hid (IntKind.i64.wrap (xm : Int) = (xm : Int)) := Lib.hid (wrap_few (by have := CB2.out; omega))
  obtain ⟨an, nx, rfl, han, hnx, a0, ak⟩ := hN.at_ sc_len (by omega) HIX.out.2.1
  obtain ⟨an2, ny, hA2, han2, hny, b0, bk⟩ := hN.at_ sc_len (by omega) HIX.out.2.2.2
  obtain rfl : an = an2 := by injection hA2
  have a0 := a0 _ rfl
  have b0 := b0 _ rfl
  rw [Nat.mul_one] at a0 b0
  have NXE : Hid (nmP N (xf : Int) = nx ∧ nmP N (xt : Int) = ny) := Lib.hid ⟨nmP_get (by omega) hnx, nmP_get (by omega) hny⟩
  have hb := bl1 w (.cells #[.int .i64 (xf : Int), .int .i64 (xt : Int), .bool xq, .int .i64 (xc : Int), .int .u32 (xm : Int), .int .i64 (xl : Int)] 66)
  have f0 : ∀ o v, (#[Value.int .i64 (xf : Int), .int .i64 (xt : Int), .bool xq, .int .i64 (xc : Int), .int .u32 (xm : Int), .int .i64 (xl : Int)] : Array Value)[o]? = some v → (w.alloc (.cells #[.int .i64 (xf : Int), .int .i64 (xt : Int), .bool xq, .int .i64 (xc : Int), .int .u32 (xm : Int), .int .i64 (xl : Int)] 66)).cell? ⟨w.heap.size, o, none⟩ = some v := fun o v hv => (World.cell?_alloc_mark _ _ _ _ _).trans hv
  have hgy : w.heap.size < (w.alloc (.cells #[.int .i64 (xf : Int), .int .i64 (xt : Int), .bool xq, .int .i64 (xc : Int), .int .u32 (xm : Int), .int .i64 (xl : Int)] 66)).heap.size := by simp
  have a1 := (hb.cell (World.block_lt_of_cell? _ _ a0)).trans a0
  have b1 := (hb.cell (World.block_lt_of_cell? _ _ b0)).trans b0
  obtain ⟨sx, hsx⟩ : ∃ s, s = bsOf nx := ⟨_, rfl⟩
  obtain ⟨sy, hsy⟩ : ∃ s, s = bsOf ny := ⟨_, rfl⟩
  rw [← hsx] at a1
  rw [← hsy] at b1
  clear hN hNl hx ht ak bk hA2 CI a0 b0 han han2 hnx hny
  go_enter Tryz.func32, Tryz.ntmps32
  go_upto_region 2 with fail
  generalize w.alloc (.cells #[.int .i64 (xf : Int), .int .i64 (xt : Int), .bool xq, .int .i64 (xc : Int), .int .u32 (xm : Int), .int .i64 (xl : Int)] 66) = w8 at hb f0 hgy a1 b1 ⊢
  generalize w.heap.size = gy at f0 hgy ⊢
  have HB8 := Lib.hid hb
  have HFY := Lib.hid fun V (hv : Below w8.heap.size w8 V) o v hq => (hv.cell (p := ⟨gy, o, none⟩) hgy).trans (f0 o v hq)
  have HNX8 := Lib.hid fun V (hv : Below w8.heap.size w8 V) => (hv.cell (World.block_lt_of_cell? _ _ a1)).trans a1
  have HNY8 := Lib.hid fun V (hv : Below w8.heap.size w8 V) => (hv.cell (World.block_lt_of_cell? _ _ b1)).trans b1
  obtain ⟨s1, hs1⟩ : ∃ s, s = bsOf (numB xm) := ⟨_, rfl⟩
  obtain ⟨s2, hs2⟩ : ∃ s, s = bsOf (numB xl) := ⟨_, rfl⟩
  have f2 := HFY.out w8 (Below.refl _ _) 2 _ rfl
  have f3 := HFY.out w8 (Below.refl _ _) 3 _ rfl
  clear hb f0 hgy a1 b1
  cases xq with
  | true =>
          obtain ⟨s6, hs6⟩ : ∃ s, s = bsOf (chanL N ⟨(xf : Int), (xt : Int), true, (xc : Int), (xm : Int), (xl : Int)⟩) := ⟨_, rfl⟩
          obtain ⟨sk, hsk⟩ : ∃ s, s = bsOf (113 :: numB xc) := ⟨_, rfl⟩
          obtain ⟨sn, hsn⟩ : ∃ s, s = bsOf (numB xc) := ⟨_, rfl⟩
          have ad : ∀ W, (Op.stringOp .add ⟨#[113]⟩ sn).run Tryz.prog W = .ok (.string sk) W := by
            rw [hsn, hsk]
            exact sadd [113] (numB xc) (by have h1 := num_few (n := xc) (by have := CB2.out; omega); show 1 + _ ≤ _; omega)
          have HNC := Lib.hid (tnumi_any xc (by have := CB2.out; omega) w8 (HT.out.on HB8.out))
          rw [← hsn] at HNC
          clear hsn
          go_wp2_with fail
          refine HNC.out.mono ?_
          rintro e w10 ⟨rfl, hb10⟩
          have HFZ := Lib.hid fun V (hv : Below w10.heap.size w10 V) => HFY.out V (hb10.trans (hv.mono hb10.size))
          have HNX := Lib.hid fun V (hv : Below w10.heap.size w10 V) => HNX8.out V (hb10.trans (hv.mono hb10.size))
          have HNY := Lib.hid fun V (hv : Below w10.heap.size w10 V) => HNY8.out V (hb10.trans (hv.mono hb10.size))
          have HB10 := Lib.hid (HB8.out.trans (hb10.mono HB8.out.size))
          have HON : Hid (∀ V, Below w10.heap.size w10 V → Below w.heap.size w V) := Lib.hid fun V hv => HB10.out.trans (hv.mono HB10.out.size)
          have HN1 := Lib.hid fun V (hv : Below w10.heap.size w10 V) => tnumu_any xm (by have := CB2.out; omega) V (HT.out.on (HON.out V hv))
          have HN2 := Lib.hid fun V (hv : Below w10.heap.size w10 V) => tnuml_any xl (by have := CB2.out; omega) V (HT.out.on (HON.out V hv))
          have HROW : Hid ([Value.string ⟨#[99, 104, 97, 110]⟩, .string sx, .string sy, .string sk, .string s1, .string s2] = (chanW N ⟨(xf : Int), (xt : Int), true, (xc : Int), (xm : Int), (xl : Int)⟩).flatMap sc) := Lib.hid (by
            unfold chanW
            dsimp only
            rw [NXE.out.1, NXE.out.2, hs1, hs2, hsk, hsx, hsy]
            rfl)
          have HN6 := Lib.hid fun V gl (ho : OwnV 9 1 V w10.heap.size (some ⟨gl, 0, none⟩) 6 6 [Value.string ⟨#[99, 104, 97, 110]⟩, .string sx, .string sy, .string sk, .string s1, .string s2]) => tln_any (n := 6) (c := 6) (L := chanW N ⟨(xf : Int), (xt : Int), true, (xc : Int), (xm : Int), (xl : Int)⟩) (by rw [← HROW.out]; exact ho) rfl (by omega) (by have h := HLN.out; rw [HCL.out, List.length_append] at h; omega)
          rw [← HCL.out, ← hs6] at HN6
          rw [← hs1] at HN1
          rw [← hs2] at HN2
          have HS6 := Lib.hid hs6
          clear hb10 HFY HNX8 HNY8 HB8 hs1 hs2 hs6 hsk hsx hsy HROW HCL HLN NXE HWR
          clear f2 f3 HNC
          go_upto_region 4 with fail
          clear ad
          refine Rgs.region (by kernel_rfl) (by kernel_rfl) (fun (opn : Nat) (vl : Value) (wv : World) => match opn with
              | 0 => vl = .slice (some an) nn cn
              | 1 => vl = .pointer (some ⟨gy, 0, none⟩)
              | 2 => vl = .int .i64 (xf : Int)
              | 3 => vl = .pointer (some (an.add xf))
              | 4 => vl = .string sx
              | 5 => vl = .slice (some an) nn cn
              | 6 => vl = .pointer (some ⟨gy, 1, none⟩)
              | 7 => vl = .int .i64 (xt : Int)
              | 8 => vl = .pointer (some (an.add xt))
              | 9 => vl = .string sy
              | 10 => vl = .string sk
              | 11 => vl = .pointer (some ⟨gy, 4, none⟩)
              | 12 => vl = .int .u32 (xm : Int)
              | 13 => vl = .string s1
              | 14 => vl = .pointer (some ⟨gy, 5, none⟩)
              | 15 => vl = .int .i64 (xl : Int)
              | 16 => vl = .string s2
              | 17 => ∃ gq, vl = .slice (some ⟨gq, 0, none⟩) (6 : Nat) 6 ∧ OwnV 9 1 wv w10.heap.size (some ⟨gq, 0, none⟩) 6 6 [.string ⟨#[99, 104, 97, 110]⟩, .string sx, .string sy, .string sk, .string s1, .string s2]
              | 18 => vl = .string s6
              | 19 => vl = .string s6
              | _ => True) (fun _ _ wv => Below w10.heap.size w10 wv) (Below.refl _ _).drew (Rgs.steps_of ?_) ?_
          · refine ⟨?_, ?_, ?_, ?_, ?_, ?_, ?_, ?_, ?_, ?_, ?_, ?_, ?_, ?_, ?_, ?_, ?_, ?_, ?_, ?_, trivial⟩
            · intro a w1 live S E D C h0 hk hX
              have hW := hX
              have e1 : a.eval (.tmp 1) = .slice (some an) nn cn := E 1 rfl
              exact Rgs.val rfl (Reg.wanted_free rfl) (.slice (some an) nn cn) (by have c := Reg.consts a; generalize a.eval = ρ at *; simp [execOp, go_sem, c.1, c.2, e1]) rfl hW
            · intro a w1 live S E D C h0 hk hX
              have hW := hX
              have e2 : a.eval (.tmp 2) = .pointer (some ⟨gy, 0, none⟩) := E 2 rfl
              exact Rgs.val rfl (Reg.wanted_free rfl) (.pointer (some ⟨gy, 0, none⟩)) (by have c := Reg.consts a; generalize a.eval = ρ at *; simp [execOp, go_sem, c.1, c.2, e2]) rfl hW
            · intro a w1 live S E D C h0 hk hX
              have hW := hX
              have d1 : a.eval (.tmp 13) = .pointer (some ⟨gy, 0, none⟩) := D 1 rfl _ _ rfl rfl
              have hc0 := HFZ.out w1 hW 0 _ rfl
              exact Rgs.val rfl (Reg.wanted_free rfl) (.int .i64 (xf : Int)) (by have c := Reg.consts a; generalize a.eval = ρ at *; simp [execOp, go_sem, c.1, c.2, d1, hc0]) rfl hW
            · intro a w1 live S E D C h0 hk hX
              have hW := hX
              have d0 : a.eval (.tmp 12) = .slice (some an) nn cn := D 0 rfl _ _ rfl rfl
              have d2 : a.eval (.tmp 14) = .int .i64 (xf : Int) := D 2 rfl _ _ rfl rfl
              have ix := HIX.out
              obtain ⟨ix1, ix2, ix3, ix4⟩ := ix
              have ix5 : ¬ nn ≤ xf := by omega
              have ix6 : ¬ nn ≤ xt := by omega
              exact Rgs.val rfl (Reg.wanted_free rfl) (.pointer (some (an.add xf))) (by have c := Reg.consts a; generalize a.eval = ρ at *; simp [execOp, go_sem, c.1, c.2, d0, d2, ix1, ix2, ix3, ix4, ix5, ix6]) rfl hW
            · intro a w1 live S E D C h0 hk hX
              have hW := hX
              have d3 : a.eval (.tmp 15) = .pointer (some (an.add xf)) := D 3 rfl _ _ rfl rfl
              have hc0 := HNX.out w1 hW
              exact Rgs.val rfl (Reg.wanted_free rfl) (.string sx) (by have c := Reg.consts a; generalize a.eval = ρ at *; simp [execOp, go_sem, c.1, c.2, d3, hc0]) rfl hW
            · intro a w1 live S E D C h0 hk hX
              have hW := hX
              have e1 : a.eval (.tmp 1) = .slice (some an) nn cn := E 1 rfl
              exact Rgs.val rfl (Reg.wanted_free rfl) (.slice (some an) nn cn) (by have c := Reg.consts a; generalize a.eval = ρ at *; simp [execOp, go_sem, c.1, c.2, e1]) rfl hW
            · intro a w1 live S E D C h0 hk hX
              have hW := hX
              have e2 : a.eval (.tmp 2) = .pointer (some ⟨gy, 0, none⟩) := E 2 rfl
              exact Rgs.val rfl (Reg.wanted_free rfl) (.pointer (some ⟨gy, 1, none⟩)) (by have c := Reg.consts a; generalize a.eval = ρ at *; simp [execOp, go_sem, c.1, c.2, e2]) rfl hW
            · intro a w1 live S E D C h0 hk hX
              have hW := hX
              have d6 : a.eval (.tmp 18) = .pointer (some ⟨gy, 1, none⟩) := D 6 rfl _ _ rfl rfl
              have hc0 := HFZ.out w1 hW 1 _ rfl
              exact Rgs.val rfl (Reg.wanted_free rfl) (.int .i64 (xt : Int)) (by have c := Reg.consts a; generalize a.eval = ρ at *; simp [execOp, go_sem, c.1, c.2, d6, hc0]) rfl hW
            · intro a w1 live S E D C h0 hk hX
              have hW := hX
              have d5 : a.eval (.tmp 17) = .slice (some an) nn cn := D 5 rfl _ _ rfl rfl
              have d7 : a.eval (.tmp 19) = .int .i64 (xt : Int) := D 7 rfl _ _ rfl rfl
              have ix := HIX.out
              obtain ⟨ix1, ix2, ix3, ix4⟩ := ix
              have ix5 : ¬ nn ≤ xf := by omega
              have ix6 : ¬ nn ≤ xt := by omega
              exact Rgs.val rfl (Reg.wanted_free rfl) (.pointer (some (an.add xt))) (by have c := Reg.consts a; generalize a.eval = ρ at *; simp [execOp, go_sem, c.1, c.2, d5, d7, ix1, ix2, ix3, ix4, ix5, ix6]) rfl hW
            · intro a w1 live S E D C h0 hk hX
              have hW := hX
              have d8 : a.eval (.tmp 20) = .pointer (some (an.add xt)) := D 8 rfl _ _ rfl rfl
              have hc0 := HNY.out w1 hW
              exact Rgs.val rfl (Reg.wanted_free rfl) (.string sy) (by have c := Reg.consts a; generalize a.eval = ρ at *; simp [execOp, go_sem, c.1, c.2, d8, hc0]) rfl hW
            · intro a w1 live S E D C h0 hk hX
              have hW := hX
              have e5 : a.eval (.tmp 5) = .string sk := E 5 rfl
              exact Rgs.val rfl (Reg.wanted_free rfl) (.string sk) (by have c := Reg.consts a; generalize a.eval = ρ at *; simp [execOp, go_sem, c.1, c.2, e5]) rfl hW
            · intro a w1 live S E D C h0 hk hX
              have hW := hX
              have e2 : a.eval (.tmp 2) = .pointer (some ⟨gy, 0, none⟩) := E 2 rfl
              exact Rgs.val rfl (Reg.wanted_free rfl) (.pointer (some ⟨gy, 4, none⟩)) (by have c := Reg.consts a; generalize a.eval = ρ at *; simp [execOp, go_sem, c.1, c.2, e2]) rfl hW
            · intro a w1 live S E D C h0 hk hX
              have hW := hX
              have d11 : a.eval (.tmp 23) = .pointer (some ⟨gy, 4, none⟩) := D 11 rfl _ _ rfl rfl
              have hc0 := HFZ.out w1 hW 4 _ rfl
              exact Rgs.val rfl (Reg.wanted_free rfl) (.int .u32 (xm : Int)) (by have c := Reg.consts a; generalize a.eval = ρ at *; simp [execOp, go_sem, c.1, c.2, d11, hc0]) rfl hW
            · intro a w1 live S E D C h0 hk hX
              have hW := hX
              have d12 : a.eval (.tmp 24) = .int .u32 (xm : Int) := D 12 rfl _ _ rfl rfl
              refine Rgs.call rfl (Reg.wanted_free rfl) 62 #[.int .u32 (xm : Int)] (by have c := Reg.consts a; generalize a.eval = ρ at *; simp [execOp, go_sem, c.1, c.2, d12]) ?_
              refine (HN1.out w1 hW).mono ?_
              rintro e w5 ⟨rfl, hb5⟩
              exact ⟨_, rfl, rfl, (hW.trans (hb5.mono hW.size)), fun jq vq _ hq => by
                revert hq
                match jq with
                | 17 => exact fun ⟨gq, e1, e2⟩ => ⟨gq, e1, OwnV.below e2 rfl hb5⟩
                | 0 | 1 | 2 | 3 | 4 | 5 | 6 | 7 | 8 | 9 | 10 | 11 | 12 | 13 | 14 | 15 | 16 | 18 | 19 | _ + 20 => exact fun hq => hq⟩
            · intro a w1 live S E D C h0 hk hX
              have hW := hX
              have e2 : a.eval (.tmp 2) = .pointer (some ⟨gy, 0, none⟩) := E 2 rfl
              exact Rgs.val rfl (Reg.wanted_free rfl) (.pointer (some ⟨gy, 5, none⟩)) (by have c := Reg.consts a; generalize a.eval = ρ at *; simp [execOp, go_sem, c.1, c.2, e2]) rfl hW
            · intro a w1 live S E D C h0 hk hX
              have hW := hX
              have d14 : a.eval (.tmp 26) = .pointer (some ⟨gy, 5, none⟩) := D 14 rfl _ _ rfl rfl
              have hc0 := HFZ.out w1 hW 5 _ rfl
              exact Rgs.val rfl (Reg.wanted_free rfl) (.int .i64 (xl : Int)) (by have c := Reg.consts a; generalize a.eval = ρ at *; simp [execOp, go_sem, c.1, c.2, d14, hc0]) rfl hW
            · intro a w1 live S E D C h0 hk hX
              have hW := hX
              have d15 : a.eval (.tmp 27) = .int .i64 (xl : Int) := D 15 rfl _ _ rfl rfl
              refine Rgs.call rfl (Reg.wanted_free rfl) 58 #[.int .i64 (xl : Int)] (by have c := Reg.consts a; generalize a.eval = ρ at *; simp [execOp, go_sem, c.1, c.2, d15]) ?_
              refine (HN2.out w1 hW).mono ?_
              rintro e w5 ⟨rfl, hb5⟩
              exact ⟨_, rfl, rfl, (hW.trans (hb5.mono hW.size)), fun jq vq _ hq => by
                revert hq
                match jq with
                | 17 => exact fun ⟨gq, e1, e2⟩ => ⟨gq, e1, OwnV.below e2 rfl hb5⟩
                | 0 | 1 | 2 | 3 | 4 | 5 | 6 | 7 | 8 | 9 | 10 | 11 | 12 | 13 | 14 | 15 | 16 | 18 | 19 | _ + 20 => exact fun hq => hq⟩
            · intro a w1 live S E D C h0 hk hX
              have hW := hX
              have d4 : a.eval (.tmp 16) = .string sx := D 4 rfl _ _ rfl rfl
              have d9 : a.eval (.tmp 21) = .string sy := D 9 rfl _ _ rfl rfl
              have d10 : a.eval (.tmp 22) = .string sk := D 10 rfl _ _ rfl rfl
              have d13 : a.eval (.tmp 25) = .string s1 := D 13 rfl _ _ rfl rfl
              have d16 : a.eval (.tmp 28) = .string s2 := D 16 rfl _ _ rfl rfl
              have hb5 := bl1 w1 (.cells #[.string ⟨#[99, 104, 97, 110]⟩, .string sx, .string sy, .string sk, .string s1, .string s2] 9)
              refine Rgs.grow rfl (Reg.wanted_free rfl) (.slice (some ⟨w1.heap.size, 0, none⟩) (6 : Nat) 6) (w1.alloc (.cells #[.string ⟨#[99, 104, 97, 110]⟩, .string sx, .string sy, .string sk, .string s1, .string s2] 9)) (by have c := Reg.consts a; generalize a.eval = ρ at *; simp [execOp, go_sem, c.1, c.2, d4, d9, d10, d13, d16]) ⟨w1.heap.size, rfl, ownV_lit w1 9 1 w10.heap.size #[.string ⟨#[99, 104, 97, 110]⟩, .string sx, .string sy, .string sk, .string s1, .string s2] 6 rfl hW.size (by unfold maxLen; omega)⟩ (hW.trans (hb5.mono hW.size)) (fun jq vq _ hq => by
                revert hq
                match jq with
                | 17 => exact fun ⟨gq, e1, e2⟩ => ⟨gq, e1, OwnV.below e2 rfl hb5⟩
                | 0 | 1 | 2 | 3 | 4 | 5 | 6 | 7 | 8 | 9 | 10 | 11 | 12 | 13 | 14 | 15 | 16 | 18 | 19 | _ + 20 => exact fun hq => hq)
            · intro a w1 live S E D C h0 hk hX
              have hW := hX
              obtain ⟨gl, dl, ho⟩ := D 17 rfl _ _ rfl rfl
              refine Rgs.call rfl (Reg.wanted_free rfl) 33 #[.slice (some ⟨gl, 0, none⟩) (6 : Nat) 6] (by have c := Reg.consts a; generalize a.eval = ρ at *; simp [execOp, go_sem, c.1, c.2, dl]) ?_
              refine (HN6.out w1 gl ho).mono ?_
              rintro e w5 ⟨rfl, hb5⟩
              exact ⟨_, rfl, rfl, (hW.trans (hb5.mono hW.size)), fun jq vq _ hq => by
                revert hq
                match jq with
                | 17 => exact fun ⟨gq, e1, e2⟩ => ⟨gq, e1, OwnV.below e2 rfl hb5⟩
                | 0 | 1 | 2 | 3 | 4 | 5 | 6 | 7 | 8 | 9 | 10 | 11 | 12 | 13 | 14 | 15 | 16 | 18 | 19 | _ + 20 => exact fun hq => hq⟩
            · intro a w1 live S E D C h0 hk hX
              have hW := hX
              have d18 : a.eval (.tmp 30) = .string s6 := D 18 rfl _ _ rfl rfl
              exact Rgs.val rfl (Reg.wanted_free rfl) (.string s6) (by have c := Reg.consts a; generalize a.eval = ρ at *; simp [execOp, go_sem, c.1, c.2, d18]) rfl hW
          · intro a w4 live hs hd E D Hl hX
            have e4 : a.eval (.tmp 4) = .string s6 := by
              obtain ⟨v, hv, he⟩ := D 19 _ rfl
              exact (he 4 rfl).trans hv
            rw [Rgs.act_ws a _ _ hs hd E [12, 13, 14, 15, 16, 17, 18, 19, 20, 21, 22, 23, 24, 25, 26, 27, 28, 29, 30, 4] (by kernel_rfl)]
            simp only [List.foldl, List.setIfInBounds_toArray, List.set_cons_succ, List.set_cons_zero, e4]
            have HX5 := Lib.hid hX
            clear E D Hl hX e4
            generalize a.eval = ρ
            clear a hs hd
            go_wp2_with fail
            go_ret
            exact Ans.mk (congrArg Value.string HS6.out.symm) (HB10.out.trans (HX5.out.mono HB10.out.size))
  | false =>
          obtain ⟨s6, hs6⟩ : ∃ s, s = bsOf (chanL N ⟨(xf : Int), (xt : Int), false, (xc : Int), (xm : Int), (xl : Int)⟩) := ⟨_, rfl⟩
          obtain ⟨sk, hsk⟩ : ∃ s, s = bsOf [115] := ⟨_, rfl⟩
          obtain ⟨w10, hw10⟩ : ∃ v, v = w8 := ⟨_, rfl⟩
          have hb10 : Below w8.heap.size w8 w10 := by rw [hw10]; exact Below.refl _ _
          have e115 : (⟨#[115]⟩ : ByteArray) = sk := by rw [hsk]; rfl
          have HFZ := Lib.hid fun V (hv : Below w10.heap.size w10 V) => HFY.out V (hb10.trans (hv.mono hb10.size))
          have HNX := Lib.hid fun V (hv : Below w10.heap.size w10 V) => HNX8.out V (hb10.trans (hv.mono hb10.size))
          have HNY := Lib.hid fun V (hv : Below w10.heap.size w10 V) => HNY8.out V (hb10.trans (hv.mono hb10.size))
          have HB10 := Lib.hid (HB8.out.trans (hb10.mono HB8.out.size))
          have HON : Hid (∀ V, Below w10.heap.size w10 V → Below w.heap.size w V) := Lib.hid fun V hv => HB10.out.trans (hv.mono HB10.out.size)
          have HN1 := Lib.hid fun V (hv : Below w10.heap.size w10 V) => tnumu_any xm (by have := CB2.out; omega) V (HT.out.on (HON.out V hv))
          have HN2 := Lib.hid fun V (hv : Below w10.heap.size w10 V) => tnuml_any xl (by have := CB2.out; omega) V (HT.out.on (HON.out V hv))
          have HROW : Hid ([Value.string ⟨#[99, 104, 97, 110]⟩, .string sx, .string sy, .string sk, .string s1, .string s2] = (chanW N ⟨(xf : Int), (xt : Int), false, (xc : Int), (xm : Int), (xl : Int)⟩).flatMap sc) := Lib.hid (by
            unfold chanW
            dsimp only
            rw [NXE.out.1, NXE.out.2, hs1, hs2, hsk, hsx, hsy]
            rfl)
          have HN6 := Lib.hid fun V gl (ho : OwnV 9 1 V w10.heap.size (some ⟨gl, 0, none⟩) 6 6 [Value.string ⟨#[99, 104, 97, 110]⟩, .string sx, .string sy, .string sk, .string s1, .string s2]) => tln_any (n := 6) (c := 6) (L := chanW N ⟨(xf : Int), (xt : Int), false, (xc : Int), (xm : Int), (xl : Int)⟩) (by rw [← HROW.out]; exact ho) rfl (by omega) (by have h := HLN.out; rw [HCL.out, List.length_append] at h; omega)
          rw [← HCL.out, ← hs6] at HN6
          rw [← hs1] at HN1
          rw [← hs2] at HN2
          have HS6 := Lib.hid hs6
          clear hb10 HFY HNX8 HNY8 HB8 hs1 hs2 hs6 hsk hsx hsy HROW HCL HLN NXE HWR
          clear f3
          go_upto_region 4 with fail
          clear f2
          rw [e115, ← hw10]
          clear e115 hw10
          refine Rgs.region (by kernel_rfl) (by kernel_rfl) (fun (opn : Nat) (vl : Value) (wv : World) => match opn with
              | 0 => vl = .slice (some an) nn cn
              | 1 => vl = .pointer (some ⟨gy, 0, none⟩)
              | 2 => vl = .int .i64 (xf : Int)
              | 3 => vl = .pointer (some (an.add xf))
              | 4 => vl = .string sx
              | 5 => vl = .slice (some an) nn cn
              | 6 => vl = .pointer (some ⟨gy, 1, none⟩)
              | 7 => vl = .int .i64 (xt : Int)
              | 8 => vl = .pointer (some (an.add xt))
              | 9 => vl = .string sy
              | 10 => vl = .string sk
              | 11 => vl = .pointer (some ⟨gy, 4, none⟩)
              | 12 => vl = .int .u32 (xm : Int)
              | 13 => vl = .string s1
              | 14 => vl = .pointer (some ⟨gy, 5, none⟩)
              | 15 => vl = .int .i64 (xl : Int)
              | 16 => vl = .string s2
              | 17 => ∃ gq, vl = .slice (some ⟨gq, 0, none⟩) (6 : Nat) 6 ∧ OwnV 9 1 wv w10.heap.size (some ⟨gq, 0, none⟩) 6 6 [.string ⟨#[99, 104, 97, 110]⟩, .string sx, .string sy, .string sk, .string s1, .string s2]
              | 18 => vl = .string s6
              | 19 => vl = .string s6
              | _ => True) (fun _ _ wv => Below w10.heap.size w10 wv) (Below.refl _ _).drew (Rgs.steps_of ?_) ?_
          · refine ⟨?_, ?_, ?_, ?_, ?_, ?_, ?_, ?_, ?_, ?_, ?_, ?_, ?_, ?_, ?_, ?_, ?_, ?_, ?_, ?_, trivial⟩
            · intro a w1 live S E D C h0 hk hX
              have hW := hX
              have e1 : a.eval (.tmp 1) = .slice (some an) nn cn := E 1 rfl
              exact Rgs.val rfl (Reg.wanted_free rfl) (.slice (some an) nn cn) (by have c := Reg.consts a; generalize a.eval = ρ at *; simp [execOp, go_sem, c.1, c.2, e1]) rfl hW
            · intro a w1 live S E D C h0 hk hX
              have hW := hX
              have e2 : a.eval (.tmp 2) = .pointer (some ⟨gy, 0, none⟩) := E 2 rfl
              exact Rgs.val rfl (Reg.wanted_free rfl) (.pointer (some ⟨gy, 0, none⟩)) (by have c := Reg.consts a; generalize a.eval = ρ at *; simp [execOp, go_sem, c.1, c.2, e2]) rfl hW
            · intro a w1 live S E D C h0 hk hX
              have hW := hX
              have d1 : a.eval (.tmp 13) = .pointer (some ⟨gy, 0, none⟩) := D 1 rfl _ _ rfl rfl
              have hc0 := HFZ.out w1 hW 0 _ rfl
              exact Rgs.val rfl (Reg.wanted_free rfl) (.int .i64 (xf : Int)) (by have c := Reg.consts a; generalize a.eval = ρ at *; simp [execOp, go_sem, c.1, c.2, d1, hc0]) rfl hW
            · intro a w1 live S E D C h0 hk hX
              have hW := hX
              have d0 : a.eval (.tmp 12) = .slice (some an) nn cn := D 0 rfl _ _ rfl rfl
              have d2 : a.eval (.tmp 14) = .int .i64 (xf : Int) := D 2 rfl _ _ rfl rfl
              have ix := HIX.out
              obtain ⟨ix1, ix2, ix3, ix4⟩ := ix
              have ix5 : ¬ nn ≤ xf := by omega
              have ix6 : ¬ nn ≤ xt := by omega
              exact Rgs.val rfl (Reg.wanted_free rfl) (.pointer (some (an.add xf))) (by have c := Reg.consts a; generalize a.eval = ρ at *; simp [execOp, go_sem, c.1, c.2, d0, d2, ix1, ix2, ix3, ix4, ix5, ix6]) rfl hW
            · intro a w1 live S E D C h0 hk hX
              have hW := hX
              have d3 : a.eval (.tmp 15) = .pointer (some (an.add xf)) := D 3 rfl _ _ rfl rfl
              have hc0 := HNX.out w1 hW
              exact Rgs.val rfl (Reg.wanted_free rfl) (.string sx) (by have c := Reg.consts a; generalize a.eval = ρ at *; simp [execOp, go_sem, c.1, c.2, d3, hc0]) rfl hW
            · intro a w1 live S E D C h0 hk hX
              have hW := hX
              have e1 : a.eval (.tmp 1) = .slice (some an) nn cn := E 1 rfl
              exact Rgs.val rfl (Reg.wanted_free rfl) (.slice (some an) nn cn) (by have c := Reg.consts a; generalize a.eval = ρ at *; simp [execOp, go_sem, c.1, c.2, e1]) rfl hW
            · intro a w1 live S E D C h0 hk hX
              have hW := hX
              have e2 : a.eval (.tmp 2) = .pointer (some ⟨gy, 0, none⟩) := E 2 rfl
              exact Rgs.val rfl (Reg.wanted_free rfl) (.pointer (some ⟨gy, 1, none⟩)) (by have c := Reg.consts a; generalize a.eval = ρ at *; simp [execOp, go_sem, c.1, c.2, e2]) rfl hW
            · intro a w1 live S E D C h0 hk hX
              have hW := hX
              have d6 : a.eval (.tmp 18) = .pointer (some ⟨gy, 1, none⟩) := D 6 rfl _ _ rfl rfl
              have hc0 := HFZ.out w1 hW 1 _ rfl
              exact Rgs.val rfl (Reg.wanted_free rfl) (.int .i64 (xt : Int)) (by have c := Reg.consts a; generalize a.eval = ρ at *; simp [execOp, go_sem, c.1, c.2, d6, hc0]) rfl hW
            · intro a w1 live S E D C h0 hk hX
              have hW := hX
              have d5 : a.eval (.tmp 17) = .slice (some an) nn cn := D 5 rfl _ _ rfl rfl
              have d7 : a.eval (.tmp 19) = .int .i64 (xt : Int) := D 7 rfl _ _ rfl rfl
              have ix := HIX.out
              obtain ⟨ix1, ix2, ix3, ix4⟩ := ix
              have ix5 : ¬ nn ≤ xf := by omega
              have ix6 : ¬ nn ≤ xt := by omega
              exact Rgs.val rfl (Reg.wanted_free rfl) (.pointer (some (an.add xt))) (by have c := Reg.consts a; generalize a.eval = ρ at *; simp [execOp, go_sem, c.1, c.2, d5, d7, ix1, ix2, ix3, ix4, ix5, ix6]) rfl hW
            · intro a w1 live S E D C h0 hk hX
              have hW := hX
              have d8 : a.eval (.tmp 20) = .pointer (some (an.add xt)) := D 8 rfl _ _ rfl rfl
              have hc0 := HNY.out w1 hW
              exact Rgs.val rfl (Reg.wanted_free rfl) (.string sy) (by have c := Reg.consts a; generalize a.eval = ρ at *; simp [execOp, go_sem, c.1, c.2, d8, hc0]) rfl hW
            · intro a w1 live S E D C h0 hk hX
              have hW := hX
              have e5 : a.eval (.tmp 5) = .string sk := E 5 rfl
              exact Rgs.val rfl (Reg.wanted_free rfl) (.string sk) (by have c := Reg.consts a; generalize a.eval = ρ at *; simp [execOp, go_sem, c.1, c.2, e5]) rfl hW
            · intro a w1 live S E D C h0 hk hX
              have hW := hX
              have e2 : a.eval (.tmp 2) = .pointer (some ⟨gy, 0, none⟩) := E 2 rfl
              exact Rgs.val rfl (Reg.wanted_free rfl) (.pointer (some ⟨gy, 4, none⟩)) (by have c := Reg.consts a; generalize a.eval = ρ at *; simp [execOp, go_sem, c.1, c.2, e2]) rfl hW
            · intro a w1 live S E D C h0 hk hX
              have hW := hX
              have d11 : a.eval (.tmp 23) = .pointer (some ⟨gy, 4, none⟩) := D 11 rfl _ _ rfl rfl
              have hc0 := HFZ.out w1 hW 4 _ rfl
              exact Rgs.val rfl (Reg.wanted_free rfl) (.int .u32 (xm : Int)) (by have c := Reg.consts a; generalize a.eval = ρ at *; simp [execOp, go_sem, c.1, c.2, d11, hc0]) rfl hW
            · intro a w1 live S E D C h0 hk hX
              have hW := hX
              have d12 : a.eval (.tmp 24) = .int .u32 (xm : Int) := D 12 rfl _ _ rfl rfl
              refine Rgs.call rfl (Reg.wanted_free rfl) 62 #[.int .u32 (xm : Int)] (by have c := Reg.consts a; generalize a.eval = ρ at *; simp [execOp, go_sem, c.1, c.2, d12]) ?_
              refine (HN1.out w1 hW).mono ?_
              rintro e w5 ⟨rfl, hb5⟩
              exact ⟨_, rfl, rfl, (hW.trans (hb5.mono hW.size)), fun jq vq _ hq => by
                revert hq
                match jq with
                | 17 => exact fun ⟨gq, e1, e2⟩ => ⟨gq, e1, OwnV.below e2 rfl hb5⟩
                | 0 | 1 | 2 | 3 | 4 | 5 | 6 | 7 | 8 | 9 | 10 | 11 | 12 | 13 | 14 | 15 | 16 | 18 | 19 | _ + 20 => exact fun hq => hq⟩
            · intro a w1 live S E D C h0 hk hX
              have hW := hX
              have e2 : a.eval (.tmp 2) = .pointer (some ⟨gy, 0, none⟩) := E 2 rfl
              exact Rgs.val rfl (Reg.wanted_free rfl) (.pointer (some ⟨gy, 5, none⟩)) (by have c := Reg.consts a; generalize a.eval = ρ at *; simp [execOp, go_sem, c.1, c.2, e2]) rfl hW
            · intro a w1 live S E D C h0 hk hX
              have hW := hX
              have d14 : a.eval (.tmp 26) = .pointer (some ⟨gy, 5, none⟩) := D 14 rfl _ _ rfl rfl
              have hc0 := HFZ.out w1 hW 5 _ rfl
              exact Rgs.val rfl (Reg.wanted_free rfl) (.int .i64 (xl : Int)) (by have c := Reg.consts a; generalize a.eval = ρ at *; simp [execOp, go_sem, c.1, c.2, d14, hc0]) rfl hW
            · intro a w1 live S E D C h0 hk hX
              have hW := hX
              have d15 : a.eval (.tmp 27) = .int .i64 (xl : Int) := D 15 rfl _ _ rfl rfl
              refine Rgs.call rfl (Reg.wanted_free rfl) 58 #[.int .i64 (xl : Int)] (by have c := Reg.consts a; generalize a.eval = ρ at *; simp [execOp, go_sem, c.1, c.2, d15]) ?_
              refine (HN2.out w1 hW).mono ?_
              rintro e w5 ⟨rfl, hb5⟩
              exact ⟨_, rfl, rfl, (hW.trans (hb5.mono hW.size)), fun jq vq _ hq => by
                revert hq
                match jq with
                | 17 => exact fun ⟨gq, e1, e2⟩ => ⟨gq, e1, OwnV.below e2 rfl hb5⟩
                | 0 | 1 | 2 | 3 | 4 | 5 | 6 | 7 | 8 | 9 | 10 | 11 | 12 | 13 | 14 | 15 | 16 | 18 | 19 | _ + 20 => exact fun hq => hq⟩
            · intro a w1 live S E D C h0 hk hX
              have hW := hX
              have d4 : a.eval (.tmp 16) = .string sx := D 4 rfl _ _ rfl rfl
              have d9 : a.eval (.tmp 21) = .string sy := D 9 rfl _ _ rfl rfl
              have d10 : a.eval (.tmp 22) = .string sk := D 10 rfl _ _ rfl rfl
              have d13 : a.eval (.tmp 25) = .string s1 := D 13 rfl _ _ rfl rfl
              have d16 : a.eval (.tmp 28) = .string s2 := D 16 rfl _ _ rfl rfl
              have hb5 := bl1 w1 (.cells #[.string ⟨#[99, 104, 97, 110]⟩, .string sx, .string sy, .string sk, .string s1, .string s2] 9)
              refine Rgs.grow rfl (Reg.wanted_free rfl) (.slice (some ⟨w1.heap.size, 0, none⟩) (6 : Nat) 6) (w1.alloc (.cells #[.string ⟨#[99, 104, 97, 110]⟩, .string sx, .string sy, .string sk, .string s1, .string s2] 9)) (by have c := Reg.consts a; generalize a.eval = ρ at *; simp [execOp, go_sem, c.1, c.2, d4, d9, d10, d13, d16]) ⟨w1.heap.size, rfl, ownV_lit w1 9 1 w10.heap.size #[.string ⟨#[99, 104, 97, 110]⟩, .string sx, .string sy, .string sk, .string s1, .string s2] 6 rfl hW.size (by unfold maxLen; omega)⟩ (hW.trans (hb5.mono hW.size)) (fun jq vq _ hq => by
                revert hq
                match jq with
                | 17 => exact fun ⟨gq, e1, e2⟩ => ⟨gq, e1, OwnV.below e2 rfl hb5⟩
                | 0 | 1 | 2 | 3 | 4 | 5 | 6 | 7 | 8 | 9 | 10 | 11 | 12 | 13 | 14 | 15 | 16 | 18 | 19 | _ + 20 => exact fun hq => hq)
            · intro a w1 live S E D C h0 hk hX
              have hW := hX
              obtain ⟨gl, dl, ho⟩ := D 17 rfl _ _ rfl rfl
              refine Rgs.call rfl (Reg.wanted_free rfl) 33 #[.slice (some ⟨gl, 0, none⟩) (6 : Nat) 6] (by have c := Reg.consts a; generalize a.eval = ρ at *; simp [execOp, go_sem, c.1, c.2, dl]) ?_
              refine (HN6.out w1 gl ho).mono ?_
              rintro e w5 ⟨rfl, hb5⟩
              exact ⟨_, rfl, rfl, (hW.trans (hb5.mono hW.size)), fun jq vq _ hq => by
                revert hq
                match jq with
                | 17 => exact fun ⟨gq, e1, e2⟩ => ⟨gq, e1, OwnV.below e2 rfl hb5⟩
                | 0 | 1 | 2 | 3 | 4 | 5 | 6 | 7 | 8 | 9 | 10 | 11 | 12 | 13 | 14 | 15 | 16 | 18 | 19 | _ + 20 => exact fun hq => hq⟩
            · intro a w1 live S E D C h0 hk hX
              have hW := hX
              have d18 : a.eval (.tmp 30) = .string s6 := D 18 rfl _ _ rfl rfl
              exact Rgs.val rfl (Reg.wanted_free rfl) (.string s6) (by have c := Reg.consts a; generalize a.eval = ρ at *; simp [execOp, go_sem, c.1, c.2, d18]) rfl hW
          · intro a w4 live hs hd E D Hl hX
            have e4 : a.eval (.tmp 4) = .string s6 := by
              obtain ⟨v, hv, he⟩ := D 19 _ rfl
              exact (he 4 rfl).trans hv
            rw [Rgs.act_ws a _ _ hs hd E [12, 13, 14, 15, 16, 17, 18, 19, 20, 21, 22, 23, 24, 25, 26, 27, 28, 29, 30, 4] (by kernel_rfl)]
            simp only [List.foldl, List.setIfInBounds_toArray, List.set_cons_succ, List.set_cons_zero, e4]
            have HX5 := Lib.hid hX
            clear E D Hl hX e4
            generalize a.eval = ρ
            clear a hs hd
            go_wp2_with fail
            go_ret
            exact Ans.mk (congrArg Value.string HS6.out.symm) (HB10.out.trans (HX5.out.mono HB10.out.size))
end Go.Proofs.YtfmndmhjjbeokaaGreatDoor
namespace Go.Proofs.YtfmndmhjjbeokaaGreatDoor
set_option maxRecDepth 100000
open Go.RowKit Tab Txt
set_option linter.unusedSimpArgs false
set_option linter.unusedVariables false
theorem byt_info:(Tryz.prog.info? 5).map (fun i=>(i.zero,i.size,i.bytes))=some (some (.int .u8 0),1,1):=by kernel_rfl
def byC (l:List UInt8):List Value:=l.map fun b=>.int .u8 (b.toNat:Int)
theorem byC_len (l:List UInt8):(byC l).length=l.length:=by simp [byC]
theorem byC_str (t:List UInt8):Lib.strCells (bsOf t)=byC t:=rfl
theorem bsOf_size (t:List UInt8):(bsOf t).size=t.length:=by show t.toArray.size=_;simp
theorem gb_belowB {w w':World} {B E s n c:Nat} {A:Option Addr} {l:List Value} (h:OwnV E s w B A n c l) (hg:w.grownBy w' (obk A)) (hB:B≤w.heap.size):Below B w w' :=
 (Below.refl _ _).grown hg hB fun k hk=>(h.obk_ge hk).1
theorem wpList_appB {ops:Array Oper} {rest:List Oper} {o:Oper} {a:Act} {Q:Exit→Act→World→Prop} {w:World} (hgd:o.guard=none) (sl x:Operand)
  (ho:o.op=.call { callee:=.builtin .append,args:=#[sl,x],argTypes:=#[38,9] })
  (B:Nat) (A:Option Addr) (n c:Nat) (l0:List UInt8) (hs:a.eval sl=.slice A n c) (h:OwnV 5 1 w B A n c (byC l0)) (s:ByteArray) (t:List UInt8) (hx:a.eval x=.string s) (hst:s=bsOf t) (hb:n+t.length≤1099511627776) (hB:B≤w.heap.size)
  (N:Nat) (hN:n+t.length=N) (L:List UInt8) (hL:l0++t=L)
  (hK:∀ A' c' w',OwnV 5 1 w' B A' N c' (byC L)→w.grownBy w' (obk A)→wpList Tryz.prog ops Q rest (a.put o.dst (.slice A' N c')) w'):wpList Tryz.prog ops Q (o::rest) a w:=by
 subst hN;subst hL;subst hst
 obtain ⟨i,hi,hz,hsz,hby⟩:=info_parts byt_info
 refine Lib.wpList_append_own_string (P:=Tryz.prog) w hgd sl x 38 9 ho B 5 i Tryz.underlying38 Tryz.underlying9 hi hz hsz hby (.slice A n c) n (byC l0) hs h (bsOf t) hx (by rw [bsOf_size];unfold maxLen;omega) (by rw [bsOf_size];omega) hB ?_
 intro v' w' hown hgr _
 rw [ownBlock_obk] at hgr
 have e:byC l0++Lib.strCells (bsOf t)=byC (l0++t):=by rw [byC_str];unfold byC;rw [List.map_append]
 rw [bsOf_size,e] at hown
 rcases hown.2 with ⟨hv,h0⟩ | ⟨g,cap,cur,hv,_⟩
 ·subst hv
  have e0:n+t.length=0:=h0
  have:=hK none 0 w' (by unfold OwnV;rw [e0] at hown ⊢;exact hown) hgr
  rw [e0] at this
  exact this
 ·subst hv
  exact hK _ _ w' hown hgr
theorem run_cnvB {w:World} {B n c:Nat} {A:Option Addr} {l:List UInt8} (h:OwnV 5 1 w B A n c (byC l)):(convert 38 9 (.slice A n c)).run Tryz.prog w=.ok (.string (bsOf l)) w:=by
 have hl:l.length=n:=by have h1:=h.1;rw [byC_len,Nat.mul_one] at h1;exact h1
 rcases h.2 with ⟨hv,h0⟩ | ⟨g,cap,cur,hv,_⟩
 ·have hn:n=0:=h0
  subst hn
  obtain rfl:l=[]:=List.eq_nil_of_length_eq_zero hl
  injection hv with h1
  subst h1
  rw [run_convert_bytes_string w _ _ _ _ _ _ Tryz.underlying38 Tryz.underlying5 Tryz.underlying9]
  simp [Conv.bytesToString]
  rfl
 ·injection hv with h1
  subst h1
  obtain rfl:=hl
  exact run_convert_bytes_back w 38 9 5 ⟨g,0,none⟩ c l Tryz.underlying38 Tryz.underlying5 Tryz.underlying9 fun j hj =>
   World.ownsRow.cells h (g:=g) rfl j _ (by simp [byC,hj])
end Go.Proofs.YtfmndmhjjbeokaaGreatDoor
namespace Go.Proofs.YtfmndmhjjbeokaaGreatDoor
set_option maxRecDepth 100000
open Go.RowKit Tab Txt
set_option linter.unusedSimpArgs false
set_option linter.unusedVariables false
structure PrW (W0:World) (gs n1:Nat) (NL:List Value) (A:Option Addr) (m c:Nat) (l:List UInt8) (w:World):Prop where
 lines:OwnV 5 1 w W0.heap.size A m c (byC l)
 names:OwnV 9 1 w W0.heap.size (some ⟨gs,0,none⟩) n1 n1 NL
 on:Below W0.heap.size W0 w
theorem PrW.len {W0:World} {gs n1:Nat} {NL:List Value} {A:Option Addr} {m c:Nat} {l:List UInt8} {w:World} (h:PrW W0 gs n1 NL A m c l w):m=l.length:=by
 have h1:=h.lines.1
 rw [byC_len,Nat.mul_one] at h1
 exact h1.symm
theorem PrW.below {W0:World} {gs n1:Nat} {NL:List Value} {A:Option Addr} {m c:Nat} {l:List UInt8} {w w':World} (h:PrW W0 gs n1 NL A m c l w) (hb:Below w.heap.size w w'):PrW W0 gs n1 NL A m c l w' :=
 ⟨h.lines.below rfl hb,h.names.below rfl hb,h.on.trans (hb.mono h.on.size)⟩
theorem PrW.app {W0:World} {gs n1:Nat} {NL:List Value} {A A':Option Addr} {m c m' c':Nat} {l l':List UInt8} {w w':World} (h:PrW W0 gs n1 NL A m c l w) (ho:OwnV 5 1 w' W0.heap.size A' m' c' (byC l')) (hg:w.grownBy w' (obk A)):PrW W0 gs n1 NL A' m' c' l' w' :=
 ⟨ho,OwnV.keep' h.names fun k hk=>hg.block k (OwnV.older h.names hk) (fun e=>OwnV.apart h.names h.lines (by decide) k hk e.symm),h.on.trans (gb_belowB h.lines hg h.on.size)⟩
theorem PrW.name {W0:World} {gs n1:Nat} {NL:List Value} {A:Option Addr} {m c:Nat} {l:List UInt8} {w:World} (h:PrW W0 gs n1 NL A m c l w) (i:Nat) (hi:i < n1) (v:Value):PrW W0 gs n1 (NL.set i v) A m c l (w.setCell ⟨gs,i,none⟩ v) :=
 ⟨OwnV.other h.lines _ _ (OwnV.apart' h.lines h.names (by decide)),OwnV.set h.names i v (by rw [h.names.1];omega),h.on.setCell (p:=⟨gs,i,none⟩) (OwnV.obk_ge h.names (b:=gs) rfl).1 v⟩
theorem PrW.cell {W0:World} {gs n1:Nat} {NL:List Value} {A:Option Addr} {m c:Nat} {l:List UInt8} {w:World} (h:PrW W0 gs n1 NL A m c l w) (i:Nat) (hi:i < n1):(∃ v,w.cell? ⟨gs,i,none⟩=some v)∧w.frozen? ⟨gs,i,none⟩=false :=
 ⟨⟨_,(World.ownsRow.cellAt h.names i (by omega)).trans (List.getElem?_eq_getElem (by rw [h.names.1];omega))⟩,World.ownsRow.frozenAt h.names i⟩
theorem tabL_two (N:List (List UInt8)) (y:Nd) (k:F):tabL N (.cons y k .nil)=joinB 32 [wTable,txN (nmP N) y (txX (nmP N) k false)]++[10]:=by
 unfold tabL tabW
 rw [txX_one]
set_option maxHeartbeats 8000000 in
theorem tPrint_any (x:Cf) (Fs:List F) (w:World) (hx:CfR w x) (hr:RiX x) (hs:SmX 16 x) (hFl:Fs.length=x.n3) (hF:∀ (i:Nat) (t:NdT) (f:F),x.T[i]? = some t→Fs[i]? = some f→∃ y k,f=.cons y k .nil∧f.ok∧t.l=y::k.flat) (hm:∀ y∈x.C,0≤y.max∧y.max≤4294967295) (hpp:∀ t∈x.T,∀ z∈t.l,z.k=1→z.p < x.n1)
  (hRt:∀ V,Below w.heap.size w V→Calls Tryz.prog 30 #[cfv x] V (Ans (.int .i64 0) V)) (ht:TabW w):Calls Tryz.prog 11 #[cfv x] w (Ans (.string (bsOf (textT (linesT x.P x.C Fs)))) w):=by
 have HPPR:=Lib.hid hx.pp
 have HCC:=Lib.hid hx.ch
 have HTB:=Lib.hid hx.tb
 have hpi:∀ (k:Nat) (y:Pq),x.P[k]? = some y→PrIn y∧RdB prc w w.heap.size y.1.pa y.1.pn y.2:=fun k y hy=>⟨PrIn.of hy (hr.pt k (List.getElem?_eq_some_iff.1 hy).1),(hx.pt y (List.mem_of_getElem? hy)).1.procs⟩
 have l1:=hx.pp.len
 have l2:=hx.ch.len
 have l3:=hx.tb.len
 have z1:x.n1≤6:=by rw [← l1];exact hr.sz.2.1
 have z2:x.n2≤8:=by rw [← l2];exact hr.sz.2.2.1
 have z3:x.n3≤3:=by rw [← l3];exact hr.sz.2.2.2.2
 have hci:∀ (k:Nat) (y:ChV),x.C[k]? = some y→PcIn x.n1 y:=fun k y hy=>by
  have:=hr.ch k (List.getElem?_eq_some_iff.1 hy).1
  rw [l1] at this
  exact PcIn.of hy this (hm y (List.mem_of_getElem? hy))
 have hnl:∀ s∈namesP x.P,s.length≤64:=fun s hsm=>by
  obtain ⟨y,hy,rfl⟩:=List.mem_map.1 hsm
  obtain ⟨k,hk⟩:=List.getElem?_of_mem hy
  have:=name_16 (hpi k y hk).1.name
  omega
 have hti:∀ y∈x.T,RdN w w.heap.size y.A y.n y.l∧y.n≤y.c∧y.n≤1040:=fun y hy=>⟨(hx.tt y hy).rd,(hx.tt y hy).cap,by have:=hs.nd y hy;omega⟩
 obtain ⟨PF,p0,ps,pe,pb⟩:=flat_fn partL 100 x.P (fun y hy=>by obtain ⟨k,hk⟩:=List.getElem?_of_mem hy;exact partL_len (hpi k y hk).1 (hx.pt y hy).1.procs.len) []
 rw [l1] at pe pb
 obtain ⟨CF,c0,cs,ce,cb⟩:=flat_fn (chanL (namesP x.P)) 170 x.C (fun y hy=>by obtain ⟨k,hk⟩:=List.getElem?_of_mem hy;exact chanL_len hnl (hci k y hk)) (PF x.n1)
 rw [l2] at ce cb
 have htl:∀ f∈Fs,(tabL (namesP x.P) f).length≤104010:=fun f hf=>by
  obtain ⟨i,hi⟩:=List.getElem?_of_mem hf
  have hlt:=(List.getElem?_eq_some_iff.1 hi).1
  obtain ⟨t,ht⟩:∃ t,x.T[i]? = some t:=⟨_,List.getElem?_eq_getElem (by omega)⟩
  obtain ⟨y,k,rfl,hok,htl⟩:=hF i t f ht hi
  have htm:=hti t (List.mem_of_getElem? ht)
  have e:(F.cons y k .nil).flat=t.l:=by rw [htl];show y::(k.flat++[])=_;rw [List.append_nil]
  have h1:=tx_len (nmP_len hnl) (F.cons y k .nil) (fun z hz=>(htm.1.bd z (by rw [← e];exact hz)).2.2) false
  have h2:(F.cons y k .nil).sz=t.n:=by rw [← F.flat_length,e];exact htm.1.len
  have h3:=htm.2.2
  rw [h2] at h1
  rw [tabL_eq]
  simp only [List.length_append,List.length_cons,List.length_nil,show wTable.length=5 from rfl]
  omega
 obtain ⟨TF,t0,ts,te,tb⟩:=flat_fn (tabL (namesP x.P)) 104010 Fs htl (CF x.n2)
 rw [hFl] at te tb
 have hend:TF x.n3=textT (linesT x.P x.C Fs):=by rw [te,ce,pe,textT_lines,List.nil_append]
 have pb2:∀ i,i≤x.n1→(PF i).length≤600:=fun i hi=>by have:=pb i hi;simp at this;omega
 have cb2:∀ i,i≤x.n2→(CF i).length≤2000:=fun i hi=>by have h1:=cb i hi;have h2:=pb2 x.n1 (Nat.le_refl _);omega
 have tb2:∀ i,i≤x.n3→(TF i).length≤400000:=fun i hi=>by have h1:=tb i hi;have h2:=cb2 x.n2 (Nat.le_refl _);omega
 have HPI:=Lib.hid hpi
 have HCI:=Lib.hid hci
 have HTI:=Lib.hid hti
 have HNL:=Lib.hid hnl
 have HP0:=Lib.hid p0
 have HPS:=Lib.hid ps
 have HPB:=Lib.hid pb2
 have HC0:=Lib.hid c0
 have HCS:=Lib.hid cs
 have HCB:=Lib.hid cb2
 have HT0:=Lib.hid t0
 have HTS:=Lib.hid ts
 have HTLB:=Lib.hid tb2
 have HEND:=Lib.hid hend
 have HFF:=Lib.hid hF
 have HFL:=Lib.hid hFl
 have HPN:=Lib.hid hpp
 have HRT:=Lib.hid hRt
 have HT:=Lib.hid ht
 have HPC:=Lib.hid fun (k:Nat) (y:Pq) (hy:x.P[k]? = some y)=>(hx.pt y (List.mem_of_getElem? hy)).2.1
 have HTLN:=Lib.hid htl
 have HL13:=Lib.hid (And.intro l1 (And.intro l2 l3))
 generalize textT (linesT x.P x.C Fs)=RES at HEND ⊢
 clear ht hpi hci hti hnl p0 ps pe pb c0 cs ce cb t0 ts te tb hend pb2 cb2 tb2 l1 l2 l3 hx hr hs hFl hF hm hpp hRt htl
 obtain ⟨A1,A2,A3,n1,n2,n3,c1,c2,c3,P,C,T⟩:=x
 dsimp only [cfv] at HPC HPPR HCC HTB HPI HCI HTI HNL HP0 HPS HPB HC0 HCS HCB HT0 HTS HTLB HEND HFF HFL HPN HRT HL13 HTLN z1 z2 z3 ⊢
 have hb0:=bl1 w (.cells #[.slice A1 n1 c1,.slice A2 n2 c2,.slice A3 n3 c3] 31)
 have hbox:=box_vec w (.slice A1 n1 c1) (.slice A2 n2 c2) (.slice A3 n3 c3) 31
 go_enter Tryz.func11,Tryz.ntmps11
 go_upto_region 1 with fail
 generalize w.alloc (.cells #[.slice A1 n1 c1,.slice A2 n2 c2,.slice A3 n3 c3] 31)=W0 at hb0 hbox ⊢
 have HBX:=Lib.hid fun V (hv:Below W0.heap.size W0 V)=>(hbox.on hv).three
 have HB0:=Lib.hid hb0
 have HW:=Lib.hid fun V (hv:Below W0.heap.size W0 V)=>hb0.trans (hv.mono hb0.size)
 obtain ⟨g0,hg0⟩:∃ g,g=w.heap.size:=⟨_,rfl⟩
 rw [← hg0] at HBX ⊢
 have HR0:=Lib.hid (HRT.out W0 hb0)
 clear hg0 hbox hb0 HRT
 obtain ⟨m0,m1,m2⟩:=HBX.out _ (Below.refl _ _)
 go_wp2_with fail
 refine HR0.out.mono ?_
 rintro e w1 ⟨rfl,hb1⟩
 have HB1:=Lib.hid hb1
 clear hb1 m0 m1 m2
 obtain ⟨m0,m1,m2⟩:=HBX.out _ HB1.out
 have hmk:=run_makeSt n1 (by omega) w1
 have hbm:=bl1 w1 (.cells (madeCells #[.string ⟨#[]⟩] n1) 9)
 have hom:=ownV_lit w1 9 1 W0.heap.size (madeCells #[.string ⟨#[]⟩] n1) n1 (by simp [size_madeCells]) HB1.out.size (by unfold maxLen;omega)
 rw [made_strs,← stRow_0 (namesP P) n1] at hom
 have HPW:Hid (PrW W0 w1.heap.size n1 (stRow (namesP P) n1 0) none 0 0 [] (w1.alloc (.cells (madeCells #[.string ⟨#[]⟩] n1) 9))):=Lib.hid ⟨OwnV.nil _ _ _ _,hom,HB1.out.trans (hbm.mono HB1.out.size)⟩
 have k0:=hbm.cell (World.block_lt_of_cell? _ _ m0) |>.trans m0
 have k1:=hbm.cell (World.block_lt_of_cell? _ _ m1) |>.trans m1
 have k2:=hbm.cell (World.block_lt_of_cell? _ _ m2) |>.trans m2
 clear hbm hom
 go_wp2_with fail
 clear m0 m1 m2 k0 k1 k2 hmk
 generalize w1.alloc (.cells (madeCells #[.string ⟨#[]⟩] n1) 9)=wm at HPW ⊢
 generalize w1.heap.size=gs at HPW ⊢
 go_loopw [4,21] (fun o q wr=>∃ (i:Nat) (A:Option Addr) (c:Nat),i≤n1∧q=.int .i64 i∧o=.slice A (PF i).length c∧PrW W0 gs n1 (stRow (namesP P) n1 i) A (PF i).length c (PF i) wr) (fun _ q _=>n1 - (intOf q).toNat)
 case atStart=>exact ⟨0,none,0,by omega,rfl,by rw [HP0.out];rfl,by rw [HP0.out];exact HPW.out⟩
 case round =>
  obtain ⟨i,A,c,hi,rfl,rfl,hpw⟩:=hrel
  have HPR:=Lib.hid hpw
  clear hpw HPW HP0
  by_cases hlt:i < n1
  ·have HON:=Lib.hid (HW.out _ HPR.out.on)
   obtain ⟨ad,y,rfl,had,hy,d0,ck⟩:=(HPPR.out.on HON.out).at_ pcq_len (by omega) hlt
   have hpi:=HPI.out i y hy
   have PLB:=Lib.hid (HPB.out i hi)
   have PC:=Lib.hid (HPC.out i y hy)
   have HNM:Hid ((namesP P)[i]? = some (toL y.1.name)):=Lib.hid (by unfold namesP;rw [List.getElem?_map,hy];rfl)
   have d0:=d0 _ rfl
   have d1:=ck 1 _ (by omega) rfl
   have d2:=ck 2 _ (by omega) rfl
   have d3:=ck 3 _ (by omega) rfl
   have d4:=ck 4 _ (by omega) rfl
   have d5:=ck 5 _ (by omega) rfl
   have d6:=ck 6 _ (by omega) rfl
   have d7:=ck 7 _ (by omega) rfl
   have d8:=ck 8 _ (by omega) rfl
   have d9:=ck 9 _ (by omega) rfl
   have d10:=ck 10 _ (by omega) rfl
   have PR:=Lib.hid hpi.2
   have PX:=Lib.hid (HPS.out i y hy)
   have PI:=Lib.hid hpi.1
   have PLL:=Lib.hid (partL_len hpi.1 hpi.2.len)
   clear hpi
   obtain ⟨⟨nm,bu,pe,sc1,st,pa,pn,pc,y0,y1,y2,y3,y4⟩,L⟩:=y
   dsimp only at d0 d1 d2 d3 d4 d5 d6 d7 d8 d9 d10 PI PR PX PLL PC HNM
   have hbx:=bl1 wr (.cells #[.string nm,.int .i64 bu,.int .i64 pe,.bool sc1,.bool st,.slice pa pn pc,.int .i64 y0,.int .i64 y1,.int .i64 y2,.int .i64 y3,.int .i64 y4] 60)
   have HP5:=Lib.hid (HPR.out.below hbx)
   have f:∀ o v,(#[Value.string nm,.int .i64 bu,.int .i64 pe,.bool sc1,.bool st,.slice pa pn pc,.int .i64 y0,.int .i64 y1,.int .i64 y2,.int .i64 y3,.int .i64 y4]:Array Value)[o]? = some v→(wr.alloc (.cells #[.string nm,.int .i64 bu,.int .i64 pe,.bool sc1,.bool st,.slice pa pn pc,.int .i64 y0,.int .i64 y1,.int .i64 y2,.int .i64 y3,.int .i64 y4] 60)).cell? ⟨wr.heap.size,o,none⟩=some v:=fun o v hv=>(World.cell?_alloc_mark _ _ _ _ _).trans hv
   have hgs:gs < wr.heap.size:=(OwnV.obk_ge HPR.out.names (b:=gs) rfl).2
   have hgx:wr.heap.size < (wr.alloc (.cells #[.string nm,.int .i64 bu,.int .i64 pe,.bool sc1,.bool st,.slice pa pn pc,.int .i64 y0,.int .i64 y1,.int .i64 y2,.int .i64 y3,.int .i64 y4] 60)).heap.size:=by simp
   clear ck had hy hbx HPR
   go_upto_region 8 with fail
   clear d0 d1 d2 d3 d4 d5 d6 d7 d8 d9 d10
   generalize wr.alloc (.cells #[.string nm,.int .i64 bu,.int .i64 pe,.bool sc1,.bool st,.slice pa pn pc,.int .i64 y0,.int .i64 y1,.int .i64 y2,.int .i64 y3,.int .i64 y4] 60)=w5 at HP5 f hgx ⊢
   generalize wr.heap.size=gx at f hgx hgs ⊢
   have f0:=f 0 _ rfl
   obtain ⟨⟨zc,cc0⟩,cc1⟩:=HP5.out.cell i hlt
   have hni:¬ n1≤i:=by omega
   have hsr:(stRow (namesP P) n1 i).set i (.string nm)=stRow (namesP P) n1 (i+1):=stRow_set hlt HNM.out
   have hp6:=HP5.out.name i hlt (.string nm)
   rw [hsr] at hp6
   have HP6:=Lib.hid hp6
   have h6:∀ o v,(#[Value.string nm,.int .i64 bu,.int .i64 pe,.bool sc1,.bool st,.slice pa pn pc,.int .i64 y0,.int .i64 y1,.int .i64 y2,.int .i64 y3,.int .i64 y4]:Array Value)[o]? = some v→(w5.setCell ⟨gs,i,none⟩ (.string nm)).cell? ⟨gx,o,none⟩=some v:=fun o v hv =>
    (World.cell?_of_block (Below.heap_setCell _ _ _ _ (by show gx≠gs;omega))).trans (f o v hv)
   have HCALL:=Lib.hid (tpartw_any (⟨nm,bu,pe,sc1,st,pa,pn,pc,y0,y1,y2,y3,y4⟩,L) (w5.setCell ⟨gs,i,none⟩ (.string nm)) PI.out (PR.out.on (HW.out _ HP6.out.on)) PC.out (HT.out.on (HW.out _ HP6.out.on)))
   obtain ⟨sv,hsv⟩:∃ s,s=bsOf (partL (⟨nm,bu,pe,sc1,st,pa,pn,pc,y0,y1,y2,y3,y4⟩,L)):=⟨_,rfl⟩
   rw [← hsv] at HCALL
   have HSV:=Lib.hid hsv
   clear hsr hp6 hsv f hgx
   go_upto_region 9 with fail
   clear f0 cc0 cc1
   generalize w5.setCell ⟨gs,i,none⟩ (.string nm)=w6 at HP6 h6 HCALL ⊢
   have f0:=h6 0 _ rfl
   have f1:=h6 1 _ rfl
   have f2:=h6 2 _ rfl
   have f3:=h6 3 _ rfl
   have f4:=h6 4 _ rfl
   have f5:=h6 5 _ rfl
   have f6:=h6 6 _ rfl
   have f7:=h6 7 _ rfl
   have f8:=h6 8 _ rfl
   have f9:=h6 9 _ rfl
   have f10:=h6 10 _ rfl
   clear h6
   go_wp2_with fail
   refine HCALL.out.mono ?_
   rintro e w7 ⟨rfl,hb7⟩
   have HP7:=Lib.hid (HP6.out.below hb7)
   clear f0 f1 f2 f3 f4 f5 f6 f7 f8 f9 f10 hb7 HCALL HP6 HP5
   go_wp2_with (at_builtin;go_loud (refine wpList_appB rfl (.tmp 31) (.tmp 33) rfl W0.heap.size A (PF i).length c (PF i) rfl HP7.out.lines sv _ rfl HSV.out (by have h1:=PLB.out;have h2:=PLL.out;omega) HP7.out.on.size (PF (i+1)).length (by rw [PX.out,List.length_append]) (PF (i+1)) PX.out.symm ?_;intro A8 c8 w8 hw8 hg8))
   have HP8:=Lib.hid (HP7.out.app hw8 hg8)
   clear hw8 hg8
   go_roundw
   case rel=>exact ⟨i+1,A8,c8,by omega,by go_num,rfl,HP8.out⟩
   case measure=>simp [intOf];omega
  ·have hlt':¬ (i:Int) < (n1:Int):=by omega
   obtain rfl:i=n1:=by omega
   have hp:=HPR.out
   rw [stRow_all (by unfold namesP;rw [List.length_map];exact HL13.out.1),← HC0.out] at hp
   have HPC0:=Lib.hid hp
   obtain ⟨m0,m1,m2⟩:=HBX.out _ hp.on
   have hpe:PF i=CF 0:=HC0.out.symm
   rw [hpe]
   clear hp hpe HPR HPS HPB HPI HPPR HB1 HPC
   go_wp2_with fail
   clear m0 m1 m2
   go_loopw [4,39] (fun o q wx=>∃ (k:Nat) (B:Option Addr) (b:Nat),k≤n2∧q=.int .i64 k∧o=.slice B (CF k).length b∧PrW W0 gs i ((namesP P).flatMap sc) B (CF k).length b (CF k) wx) (fun _ q _=>n2 - (intOf q).toNat)
   case atStart=>exact ⟨0,A,c,by omega,rfl,rfl,HPC0.out⟩
   case round =>
    obtain ⟨k,B,b,hk,rfl,rfl,hpw⟩:=hrel
    have HPR:=Lib.hid hpw
    clear hpw HPC0 HC0
    by_cases hlk:k < n2
    ·have HON:=Lib.hid (HW.out _ HPR.out.on)
     obtain ⟨ac,y,rfl,hac,hy,d0,ck⟩:=(HCC.out.on HON.out).at_ cc_len (by omega) hlk
     have d0:=d0 _ rfl
     have d1:=ck 1 _ (by omega) rfl
     have d2:=ck 2 _ (by omega) rfl
     have d3:=ck 3 _ (by omega) rfl
     have d4:=ck 4 _ (by omega) rfl
     have d5:=ck 5 _ (by omega) rfl
     have CI:=Lib.hid (HCI.out k y hy)
     have CX:=Lib.hid (HCS.out k y hy)
     have CB:=Lib.hid (HCB.out k hk)
     have CLL:=Lib.hid (chanL_len HNL.out CI.out)
     obtain ⟨xf,xt,xq,xc,xm,xl⟩:=y
     dsimp only at d0 d1 d2 d3 d4 d5 CI CX CLL
     have hbx:=bl1 wr (.cells #[.int .i64 xf,.int .i64 xt,.bool xq,.int .i64 xc,.int .u32 xm,.int .i64 xl] 66)
     have HP5:=Lib.hid (HPR.out.below hbx)
     have f:∀ o v,(#[Value.int .i64 xf,.int .i64 xt,.bool xq,.int .i64 xc,.int .u32 xm,.int .i64 xl]:Array Value)[o]? = some v→(wr.alloc (.cells #[.int .i64 xf,.int .i64 xt,.bool xq,.int .i64 xc,.int .u32 xm,.int .i64 xl] 66)).cell? ⟨wr.heap.size,o,none⟩=some v:=fun o v hv=>(World.cell?_alloc_mark _ _ _ _ _).trans hv
     clear ck hac hy hbx HPR
     go_upto_region 14 with fail
     clear d0 d1 d2 d3 d4 d5
     generalize wr.alloc (.cells #[.int .i64 xf,.int .i64 xt,.bool xq,.int .i64 xc,.int .u32 xm,.int .i64 xl] 66)=w5 at HP5 f ⊢
     generalize wr.heap.size=gx at f ⊢
     have HCALL:=Lib.hid (tchanw_any ⟨xf,xt,xq,xc,xm,xl⟩ (some ⟨gs,0,none⟩) i i (namesP P) w5 ⟨by unfold namesP;rw [List.length_map];exact HL13.out.1,HP5.out.names.rd⟩ HNL.out CI.out (HT.out.on (HW.out _ HP5.out.on)))
     obtain ⟨sv,hsv⟩:∃ s,s=bsOf (chanL (namesP P) ⟨xf,xt,xq,xc,xm,xl⟩):=⟨_,rfl⟩
     rw [← hsv] at HCALL
     have HSV:=Lib.hid hsv
     have f0:=f 0 _ rfl
     have f1:=f 1 _ rfl
     have f2:=f 2 _ rfl
     have f3:=f 3 _ rfl
     have f4:=f 4 _ rfl
     have f5:=f 5 _ rfl
     clear f hsv
     go_wp2_with fail
     refine HCALL.out.mono ?_
     rintro e w7 ⟨rfl,hb7⟩
     have HP7:=Lib.hid (HP5.out.below hb7)
     clear f0 f1 f2 f3 f4 f5 hb7 HCALL HP5
     go_wp2_with (at_builtin;go_loud (refine wpList_appB rfl (.tmp 43) (.tmp 46) rfl W0.heap.size B (CF k).length b (CF k) rfl HP7.out.lines sv _ rfl HSV.out (by have h1:=CB.out;have h2:=CLL.out;omega) HP7.out.on.size (CF (k+1)).length (by rw [CX.out,List.length_append]) (CF (k+1)) CX.out.symm ?_;intro A8 c8 w8 hw8 hg8))
     have HP8:=Lib.hid (HP7.out.app hw8 hg8)
     clear hw8 hg8
     go_roundw
     case rel=>exact ⟨k+1,A8,c8,by omega,by go_num,rfl,HP8.out⟩
     case measure=>simp [intOf];omega
    ·have hlk':¬ (k:Int) < (n2:Int):=by omega
     obtain rfl:k=n2:=by omega
     have hp:=HPR.out
     rw [← HT0.out] at hp
     have HPT0:=Lib.hid hp
     obtain ⟨m0,m1,m2⟩:=HBX.out _ hp.on
     have hpe:CF k=TF 0:=HT0.out.symm
     rw [hpe]
     clear hp hpe HPR HCS HCB HCI HCC
     go_wp2_with fail
     clear m0 m1 m2
     go_loopw [4,52] (fun o q wy=>∃ (j:Nat) (D:Option Addr) (d:Nat),j≤n3∧q=.int .i64 j∧o=.slice D (TF j).length d∧PrW W0 gs i ((namesP P).flatMap sc) D (TF j).length d (TF j) wy) (fun _ q _=>n3 - (intOf q).toNat)
     case atStart=>exact ⟨0,B,b,by omega,rfl,rfl,HPT0.out⟩
     case round =>
      obtain ⟨j,D,d,hj,rfl,rfl,hpw⟩:=hrel
      have HPR:=Lib.hid hpw
      clear hpw HPT0 HT0
      by_cases hlj:j < n3
      ·have HON:=Lib.hid (HW.out _ HPR.out.on)
       obtain ⟨at_,tt,rfl,hat,htt,d0,ck⟩:=(HTB.out.on HON.out).at_ tcn_len (by omega) hlj
       have d0:=d0 _ rfl
       rw [Nat.mul_one] at d0
       obtain ⟨ff,hff⟩:∃ f,Fs[j]? = some f:=⟨_,List.getElem?_eq_getElem (by have:=HFL.out;omega)⟩
       obtain ⟨ny,nk,rfl,hok,htl⟩:=HFF.out j tt ff htt hff
       have TX:=Lib.hid (HTS.out j _ hff)
       have TBD:=Lib.hid (HTLB.out j hj)
       have hti:=HTI.out tt (List.mem_of_getElem? htt)
       have TPP:=Lib.hid (HPN.out tt (List.mem_of_getElem? htt))
       have TLL:=Lib.hid (HTLN.out _ (List.mem_of_getElem? hff))
       obtain ⟨tA,tn,tc,tl⟩:=tt
       dsimp only at d0 hti htl TPP
       subst htl
       have HTI2:=Lib.hid hti
       have HCALL:=Lib.hid (ttxt_any tA tn tc ny nk (some ⟨gs,0,none⟩) i i (namesP P) HNL.out wr (hti.1.on HON.out) hti.2.1 (by omega) hok ⟨by unfold namesP;rw [List.length_map];exact HL13.out.1,HPR.out.names.rd⟩ TPP.out (HT.out.on HON.out))
       obtain ⟨sv,hsv⟩:∃ s,s=bsOf (txN (nmP (namesP P)) ny (txX (nmP (namesP P)) nk false)):=⟨_,rfl⟩
       rw [← hsv] at HCALL
       rw [tabL_two] at TX TLL
       clear ck hat htt hff hti hok
       go_wp2_with fail
       refine HCALL.out.mono ?_
       rintro e w6 ⟨rfl,hb6⟩
       have hbl:=bl1 w6 (.cells #[.string ⟨#[116,97,98,108,101]⟩,.string sv] 9)
       have HP6:=Lib.hid ((HPR.out.below hb6).below hbl)
       have hol:OwnV 9 1 (w6.alloc (.cells #[.string ⟨#[116,97,98,108,101]⟩,.string sv] 9)) w6.heap.size (some ⟨w6.heap.size,0,none⟩) 2 2 ([wTable,txN (nmP (namesP P)) ny (txX (nmP (namesP P)) nk false)].flatMap sc):=by
        have h:=ownV_lit w6 9 1 w6.heap.size #[.string ⟨#[116,97,98,108,101]⟩,.string sv] 2 rfl (Nat.le_refl _) (by unfold maxLen;omega)
        rw [hsv] at h ⊢
        exact h
       have HLINE:=Lib.hid (tln_any hol rfl (by omega) (by have h:=TLL.out;rw [List.length_append] at h;omega))
       obtain ⟨su,hsu⟩:∃ s,s=bsOf (joinB 32 [wTable,txN (nmP (namesP P)) ny (txX (nmP (namesP P)) nk false)]++[10]):=⟨_,rfl⟩
       rw [← hsu] at HLINE
       have HSU:=Lib.hid hsu
       clear hb6 hbl hol hsv hsu HCALL HPR
       go_wp2_with fail
       refine HLINE.out.mono ?_
       rintro e w7 ⟨rfl,hb7⟩
       have HP7:=Lib.hid (HP6.out.below hb7)
       clear hb7 HLINE HP6
       go_wp2_with (at_builtin;go_loud (refine wpList_appB rfl (.tmp 56) (.tmp 61) rfl W0.heap.size D (TF j).length d (TF j) rfl HP7.out.lines su _ rfl HSU.out (by have h1:=TBD.out;have h2:=TLL.out;omega) HP7.out.on.size (TF (j+1)).length (by rw [TX.out];exact List.length_append.symm) (TF (j+1)) TX.out.symm ?_;intro A8 c8 w8 hw8 hg8))
       have HP8:=Lib.hid (HP7.out.app hw8 hg8)
       clear hw8 hg8
       go_roundw
       case rel=>exact ⟨j+1,A8,c8,by omega,by go_num,rfl,HP8.out⟩
       case measure=>simp [intOf];omega
      ·have hlj':¬ (j:Int) < (n3:Int):=by omega
       obtain rfl:j=n3:=by omega
       have hpw:=HPR.out
       have hcv:=run_cnvB hpw.lines
       go_wp2_with fail
       go_ret
       exact Ans.mk (congrArg (fun l=>Value.string (bsOf l)) HEND.out.symm) (HW.out _ hpw.on)
end Go.Proofs.YtfmndmhjjbeokaaGreatDoor
