/- A tape's configuration, boxed: what it reads as, that it is right. -/
import Derived.Test.YtebcfiifaclniaaGreatYo
import Derived.Test.YtebcfiifaclniaaGreatYm
namespace Go.Proofs.YtebcfiifaclniaaGreat
open Go.RowKit Tab
set_option linter.unusedSimpArgs false
set_option linter.unusedVariables false

theorem tape_rightn (A : Option Addr) (n cap : Nat) (f : Nat → Int) (w : World) (h : RdC w w.heap.size A n (fun j => .int .i64 (f j))) (hn : n ≤ 140737488351232) :
    Calls Tryz.prog 4 #[.pointer (some ⟨w.heap.size, 0, none⟩)] (w.alloc (.cells #[.slice A n cap, .int .i64 0] 30)) (fun e w' => ∃ y, e = .returned (cfv y) ∧ CfR w' y ∧ SmX 16 y ∧ (whF y).1 = 0 ∧ (y.n2 ≤ 3 ∧ y.n3 ≤ 2) ∧ (∀ (i : Nat) (x : Pq), y.P[i]? = some x → x.1.name = nmL i) ∧ Below w.heap.size w w') := by
  refine (config_anyr w.heap.size w.heap.size A n cap f hn 0 _ (tape_boxed A n cap f w h)).mono ?_
  rintro e w1 ⟨A1, A2, A3, n1, n2, n3, c1, c2, c3, P, C, T, at', rfl, hCf, q1, q2, q3, q4, q5, hco, hT, hTt, q6, q7, q8, _, G1, hper, hlo, hso, _, _, _, _, _, hrt⟩
  obtain ⟨hP, hC⟩ := hCf
  have hPl : P.length = n1 := hP.len
  have hCl : C.length = n2 := hC.len
  have hTl : T.length = n3 := hT.len
  have hnm : ∀ x ∈ P, (1 ≤ x.pn ∧ x.pn ≤ 2) ∧ x.pn ≤ x.pc := fun x hx => by
    obtain ⟨i, hi⟩ := List.getElem?_of_mem hx
    exact (hrt.nm i x hi).2.2
  have hfew : ∀ t ∈ T, t.n ≤ 128 := fun t ht => (ofz_ok (hTt t ht).2.1).1
  refine ⟨⟨A1, A2, A3, n1, n2, n3, c1, c2, c3, P.map (pq w1), C, T.map ndT⟩, rfl, ⟨hP.pq w1, hC, hT.ndt, fun y hy => ?_, fun y hy => ?_, q4, q5, q8, by show n1 ≤ _; omega, by show n2 ≤ _; omega, by show n3 ≤ _; omega, by show n1 * 104 ≤ _; omega, by show n2 * 48 ≤ _; omega, by show n3 * 24 ≤ _; omega, fun y hy => ?_, fun y hy => ?_⟩, ⟨q1, by show n1 ≤ _; omega, by show n2 ≤ _; omega, by show n3 ≤ _; omega, fun y hy => ?_, fun y hy => ?_⟩, ?_, ⟨by show n2 ≤ 3; omega, by show n3 ≤ 2; omega⟩, fun i x hx => ?_, gb_boxed G1⟩
  · obtain ⟨x, hx, rfl⟩ := List.mem_map.1 hy
    have h1 := hnm x hx
    exact ⟨(hrt.pt x hx).ax, h1.2, by show x.pn ≤ _; omega⟩
  · obtain ⟨t, ht, rfl⟩ := List.mem_map.1 hy
    exact (hTt t ht).1.nd
  · obtain ⟨x, hx, rfl⟩ := List.mem_map.1 hy
    have h1 := hnm x hx
    show x.pn * 16 ≤ _
    omega
  · obtain ⟨t, ht, rfl⟩ := List.mem_map.1 hy
    have h1 := hfew t ht
    show t.n * 24 ≤ _
    omega
  · obtain ⟨x, hx, rfl⟩ := List.mem_map.1 hy
    have h1 := hnm x hx
    show x.pn ≤ 16
    omega
  · obtain ⟨t, ht, rfl⟩ := List.mem_map.1 hy
    have h1 := hfew t ht
    show t.n ≤ _
    omega
  · have h3 : C.length ≤ 3 := by omega
    have h4 : 1 ≤ T.length := by omega
    have h5 : T.length ≤ 2 := by omega
    exact rt_right hrt hPl q1 q2 h3 h4 h5 hTt hlo hso
  · have hx : (P.map (pq w1))[i]? = some x := hx
    rw [List.getElem?_map] at hx
    obtain ⟨z, hz, rfl⟩ := Option.map_eq_some_iff.1 hx
    exact (hrt.nm i z hz).1
theorem tape_right (A : Option Addr) (n cap : Nat) (f : Nat → Int) (w : World) (h : RdC w w.heap.size A n (fun j => .int .i64 (f j))) (hn : n ≤ 140737488351232) :
    Calls Tryz.prog 4 #[.pointer (some ⟨w.heap.size, 0, none⟩)] (w.alloc (.cells #[.slice A n cap, .int .i64 0] 30)) (fun e w' => ∃ y, e = .returned (cfv y) ∧ CfR w' y ∧ SmX 16 y ∧ (whF y).1 = 0 ∧ (y.n2 ≤ 3 ∧ y.n3 ≤ 2) ∧ Below w.heap.size w w') :=
  (tape_rightn A n cap f w h hn).mono fun e w' ⟨y, h1, h2, h3, h4, h5, _, h6⟩ => ⟨y, h1, h2, h3, h4, h5, h6⟩
theorem tapeR : TapeR := ⟨fun A n cap f w h hn => (tape_right A n cap f w h hn).mono fun e w' ⟨y, h1, h2, h3, h4, _, h5⟩ => ⟨y, h1, h2, h3, h4, h5⟩⟩
theorem tapeC : TapeC := ⟨fun A n cap f w h hn => (tape_right A n cap f w h hn).mono fun e w' ⟨y, h1, h2, h3, _, _, h5⟩ => ⟨y, h1, h2, h3, h5⟩⟩
end Go.Proofs.YtebcfiifaclniaaGreat
