import Derived.Test.YtfmndmhjjbeokaaGreatDoorLow46
import Derived.Test.YtfmndmhjjbeokaaGreatDoorLow44
import Derived.Test.YtfmndmhjjbeokaaGreatDoorLow30
import Derived.Test.YtfmndmhjjbeokaaGreatDoorLow36
namespace Go.Proofs.YtfmndmhjjbeokaaGreatDoor
set_option maxRecDepth 100000
open Go.RowKit Tab Txt
set_option linter.unusedSimpArgs false
set_option linter.unusedVariables false
def cfOf (c : Cft) : Cf := ⟨none, none, none, 0, 0, 0, 0, 0, 0, c.P, c.C, c.T⟩
theorem Ctn.same {x : Cf} {c : Cft} (h : Ctn x c) : SamX x (cfOf c) := by
  refine ⟨⟨?_, fun i a b ha hb => ?_, h.ec⟩, ?_, fun i a b ha hb => ?_⟩
  · show x.P.length = c.P.length
    rw [← h.ep, List.length_map]
  · have hb : c.P[i]? = some b := hb
    rw [← h.ep, List.getElem?_map, ha] at hb
    injection hb with hb
    rw [← hb]
    exact ⟨rfl, rfl, rfl, rfl, rfl, ⟨rfl, rfl, rfl, rfl, rfl⟩, rfl⟩
  · show x.T.length = c.T.length
    rw [← h.et, List.length_map]
  · have hb : c.T[i]? = some b := hb
    rw [← h.et, List.getElem?_map, ha] at hb
    injection hb with hb
    rw [← hb]
    exact sameN_refl _
theorem Ctn.whF {x : Cf} {c : Cft} (h : Ctn x c) (hx : ∀ z ∈ x.P, z.2.length = z.1.pn) : whereF x.P x.C x.T = whereF c.P c.C c.T :=
  whF_same h.same hx fun z hz => by
    have hz : z ∈ c.P := hz
    rw [← h.ep] at hz
    obtain ⟨y, _, rfl⟩ := List.mem_map.1 hz
    rfl
namespace Txt
theorem split_ahead (b : UInt8) (s : List UInt8) : splitF b s = match behindT (isB b) s with
    | [] => [aheadT (isB b) s]
    | _ :: r => aheadT (isB b) s :: splitF b r := by
  have e := ahead_behind (isB b) s
  have hw : b ∉ aheadT (isB b) s := fun hm => by
    have := ahead_all (isB b) s _ hm
    unfold isB at this
    simp at this
  have hh := behind_head (isB b) s
  cases hb : behindT (isB b) s with
  | nil =>
    rw [hb, List.append_nil] at e
    dsimp only
    have := split_one hw
    rw [e] at this ⊢
    exact this
  | cons c r =>
    have hc : c = b := by
      have := hh c (by rw [hb]; rfl)
      unfold isB at this
      simpa using this
    rw [hb, hc] at e
    dsimp only
    have := split_at r hw
    rw [e] at this
    exact this
def nextL (s : List UInt8) : List UInt8 := (behindT (isB 10) s).tail
theorem lineD_nil (c : Cft) : lineD c [] = some c := lineD_skip (by rfl)
theorem linesQ_more (i : Nat) (c : Cft) (s : List UInt8) : linesQ i c (splitF 10 s) = match lineD c (aheadT (isB 10) s) with
    | none => .inl (i + 1)
    | some c' => linesQ (i + 1) c' (splitF 10 (nextL s)) := by
  rw [split_ahead 10 s]
  unfold nextL
  cases behindT (isB 10) s with
  | nil =>
    dsimp only
    rw [linesQ_cons]
    cases lineD c (aheadT (isB 10) s) with
    | none => rfl
    | some c' =>
      dsimp only
      show linesQ (i + 1) c' [] = linesQ (i + 1) c' [[]]
      rw [linesQ_cons, lineD_nil]
      rfl
  | cons c2 r =>
    dsimp only
    rw [linesQ_cons]
    rfl
theorem linesQ_nil (i : Nat) (c : Cft) : linesQ i c (splitF 10 []) = .inr c := by
  show linesQ i c [[]] = _
  rw [linesQ_cons, lineD_nil]
  rfl
theorem nextL_lt {s : List UInt8} (h : s ≠ []) : (nextL s).length < s.length := by
  unfold nextL
  have := behind_le (isB 10) s
  rw [List.length_tail]
  have : 0 < s.length := List.length_pos_iff.2 h
  omega
theorem lineD_S {c : Cft} {s : List UInt8} : lineD c s = match lineS c s with
    | none => none
    | some x => if x.2 = [] then some x.1 else none := rfl
end Txt
theorem sz_conf (w : World) : (sizeOf 31).run Tryz.prog w = .ok 3 w := by go_simp
theorem ag_conf (w : World) : (isAgg 31).run Tryz.prog w = .ok true w := by go_simp
theorem results_ctt0 {fn : Func} {p q r : Tmp} {T : TypeId} (h : fn.results = #[.cell p T, .tmp q, .tmp r]) (tmps : Array Value) (P : Program) (w : World) :
    (results fn tmps).run P w = ((asAddr (tmps.getD p undef)).run P w).andThen fun a w₁ => ((loadVar T a).run P w₁).andThen fun v w₂ => .ok (.tuple #[v, tmps.getD q undef, tmps.getD r undef]) w₂ := by
  simp only [results, h]
  simp [Sem.run_bind, Result.andThen]
theorem results_ctt {fn : Func} {p q r : Tmp} {T n : Nat} (h : fn.results = #[.cell p T, .tmp q, .tmp r]) {tmps : Array Value} {w : World} {B g : Nat} {l : List Value} (e : (isAgg T).run Tryz.prog w = .ok true w) (e2 : (sizeOf T).run Tryz.prog w = .ok n w) (hp : tmps.getD p undef = .pointer (some ⟨g, 0, none⟩)) (ho : OwnV T n w B (some ⟨g, 0, none⟩) 1 1 l) : (results fn tmps).run Tryz.prog w = .ok (.tuple #[.agg l.toArray, tmps.getD q undef, tmps.getD r undef]) w := by
  have e3 : (asAddr (.pointer (some ⟨g, 0, none⟩))).run Tryz.prog w = .ok ⟨g, 0, none⟩ w := rfl
  rw [results_ctt0 h, hp, e3, Result.andThen_ok, loadVar_own e e2 ho, Result.andThen_ok]
def ParX (s : List UInt8) (w : World) (e : Ending) (w' : World) : Prop := Below w.heap.size w w' ∧ ∃ x : Cf, e = .returned (.tuple #[cfv x, .int .i64 (parseQ s).1, .int .i64 (parseQ s).2.1]) ∧ CfR w' x ∧ Ctn x (parseQ s).2.2 ∧ OwnV 60 11 w' w.heap.size x.A1 x.n1 x.c1 (x.P.flatMap pcq) ∧ OwnV 34 1 w' w.heap.size x.A3 x.n3 x.c3 (x.T.flatMap tcn)
def cf0 : Cf := ⟨none, none, none, 0, 0, 0, 0, 0, 0, [], [], []⟩
theorem CfR.zero (w : World) : CfR w cf0 := ⟨⟨rfl, RdV.nil⟩, ⟨rfl, RdV.nil⟩, ⟨rfl, RdV.nil⟩, fun y hy => (by cases hy), fun y hy => (by cases hy), Nat.le_refl _, Nat.le_refl _, Nat.le_refl _, Nat.zero_le _, Nat.zero_le _, Nat.zero_le _, ⟨by decide, by decide, by decide, fun y hy => (by cases hy), fun y hy => (by cases hy)⟩⟩
theorem Ctn.zero : Ctn cf0 cft0 := ⟨rfl, rfl, rfl⟩
structure ParS (B ga gc gr : Nat) (st : Option (List UInt8)) (x : Cf) (w0 w : World) : Prop where
  rd : RdrS B ga st w
  cv : CvS B gc x w
  re : OwnV 31 3 w B (some ⟨gr, 0, none⟩) 1 1 [.slice none 0 0, .slice none 0 0, .slice none 0 0]
  nr : gr ≠ gc
  be : Below B w0 w
  sz : B ≤ w.heap.size
section
variable {B ga gc gr g : Nat} {st st' s1 : Option (List UInt8)} {x x' : Cf} {w0 w w' : World}
theorem ParS.step (h : ParS B ga gc gr st x w0 w) (k : Rpo B ga st' w w') : ParS B ga gc gr st' x w0 w' :=
  ⟨k.rd, h.cv.rdr h.rd k.gb, OwnV.gbo h.re k.gb (apart_rd h.re h.rd (by decide)), h.nr, h.be.trans (ogb_below k.gb h.rd.cells.2.2.2.2.1 h.sz), Nat.le_trans h.sz k.gb.size⟩
theorem ParS.on (h : ParS B ga gc gr st x w0 w) (hb : Below w.heap.size w w') : ParS B ga gc gr st x w0 w' :=
  ⟨OwnV.below h.rd rfl hb, h.cv.on hb, OwnV.below h.re rfl hb, h.nr, h.be.trans (hb.mono h.sz), Nat.le_trans h.sz hb.size⟩
theorem KpL.own {E s n c : Nat} {A : Option Addr} {l : List Value} {st2 : Option (List UInt8)} {B1 B2 : Nat} (h : KpL g gc x w w') (hc : CvS B gc x w) (ho : OwnV E s w B1 A n c l) (h1 : obk A ≠ some g) (h2 : obk A ≠ some gc) (e1 : E ≠ 60) (e2 : E ≠ 66) (e3 : E ≠ 34) : OwnV E s w' B1 A n c l :=
  OwnV.keep' ho fun k hk => h.block k (OwnV.older ho hk) (fun e => h1 (by rw [hk, e])) (fun e => h2 (by rw [hk, e])) (fun e => OwnV.apart ho hc.s.pp.own e1 k hk e) (fun e => OwnV.apart ho hc.s.ch.own e2 k hk e) (fun e => OwnV.apart ho hc.s.tb.own e3 k hk e)
theorem ParS.line (h : ParS B ga gc gr st x w0 w) (hr : RdrS B g s1 w) (hg : ga ≠ g) (hk : KpL g gc x w w') : RdrS B ga st w' ∧ OwnV 31 3 w' B (some ⟨gr, 0, none⟩) 1 1 [.slice none 0 0, .slice none 0 0, .slice none 0 0] ∧ Below B w0 w' ∧ B ≤ w'.heap.size := by
  refine ⟨KpL.own (st2 := s1) (B2 := 0) hk h.cv h.rd (by intro e; injection e with e; exact hg e) (apart_cf h.rd h.cv (by decide)) (by decide) (by decide) (by decide), KpL.own (st2 := s1) (B2 := 0) hk h.cv h.re (apart_rd h.re hr (by decide)) (by intro e; injection e with e; exact h.nr e) (by decide) (by decide) (by decide), h.be.trans ⟨hk.os, hk.tape, hk.output, hk.size, fun i hi => ?_⟩, Nat.le_trans h.sz hk.size⟩
  have q1 := (OwnV.obk_ge hr (b := g) rfl).1
  have q2 := (OwnV.obk_ge h.cv.s.cf (b := gc) rfl).1
  exact hk.block i (Nat.lt_of_lt_of_le hi h.sz) (by omega) (by omega) (fun e => by have := (OwnV.obk_ge h.cv.s.pp.own e).1; omega) (fun e => by have := (OwnV.obk_ge h.cv.s.ch.own e).1; omega) (fun e => by have := (OwnV.obk_ge h.cv.s.tb.own e).1; omega)
end
end Go.Proofs.YtfmndmhjjbeokaaGreatDoor
namespace Go.Proofs.YtfmndmhjjbeokaaGreatDoor
set_option maxRecDepth 100000
open Go.RowKit Tab Txt
set_option linter.unusedSimpArgs false
set_option linter.unusedVariables false
theorem CvS.res {B gc gr : Nat} {x : Cf} {w w' : World} {l : List Value} (h : CvS B gc x w) (hre : OwnV 31 3 w B (some ⟨gr, 0, none⟩) 1 1 l) (hne : gr ≠ gc) (hg : w.grownBy w' (some gr)) : CvS B gc x w' :=
  have a : ∀ {E s n c : Nat} {A : Option Addr} {m : List Value}, OwnV E s w B A n c m → E ≠ 31 → OwnV E s w' B A n c m := fun q e => OwnV.gbo q hg fun e2 => OwnV.apart q hre e gr e2 rfl
  ⟨⟨OwnV.gbo h.s.cf hg (by intro e; injection e with e; exact hne e.symm), ⟨h.s.pp.len, a h.s.pp.own (by decide)⟩, ⟨h.s.ch.len, a h.s.ch.own (by decide)⟩, ⟨h.s.tb.len, a h.s.tb.own (by decide)⟩⟩, fun y hy => a (h.pt y hy) (by decide), fun y hy => a (h.tt y hy) (by decide), h.ok⟩
theorem tk_next (sn : List UInt8) : tkS 10 (some (behindT (isB 10) sn)) = some (nextL sn) := by
  unfold tkS nextL
  have hh := behind_head (isB 10) sn
  cases hb : behindT (isB 10) sn with
  | nil => rfl
  | cons c r =>
    have hc : c = 10 := by
      have := hh c (by rw [hb]; rfl)
      unfold isB at this
      simpa using this
    rw [hc, Option.bind_some, takeB_self]
    rfl
theorem built_conf (w : World) : Tryz.prog.built 31 [] = some #[.slice none 0 0, .slice none 0 0, .slice none 0 0] := rfl
theorem built_rdr (sv : ByteArray) : Tryz.prog.built 79 [(0, .string sv)] = some #[.string sv, .bool false] := rfl
set_option maxHeartbeats 16000000 in
theorem tParse_any (s : List UInt8) (w : World) (hs : s.length ≤ 1048576) : Calls Tryz.prog 17 #[.string (bsOf s)] w (ParX s w) := by
  have b0 := bl1 w (.cells #[.slice none 0 0, .slice none 0 0, .slice none 0 0] 31)
  have o0 := ownV_lit w 31 3 w.heap.size #[.slice none 0 0, .slice none 0 0, .slice none 0 0] 1 rfl (Nat.le_refl _) (by unfold maxLen; omega)
  have hz0 : (w.alloc (.cells #[.slice none 0 0, .slice none 0 0, .slice none 0 0] 31)).heap.size = w.heap.size + 1 := by simp
  have hsz : (bsOf s).size = s.length := rfl
  by_cases hlong : 16384 < s.length
  · have HQ : Hid (parseQ s = (3, 0, cft0)) := Lib.hid (by unfold parseQ; rw [if_pos hlong])
    have hli : (16384 : Int) < (s.length : Int) := by omega
    have HO := Lib.hid o0
    have HB := Lib.hid b0
    unfold ParX
    rw [HQ.out]
    obtain ⟨n, hn⟩ : ∃ n, n = s.length := ⟨_, rfl⟩
    rw [← hn] at hli hsz
    generalize bsOf s = sv at hsz ⊢
    clear hs hlong HQ b0 o0 hz0 hn
    have hbd := built_conf w
    go_enter Tryz.func17, Tryz.ntmps17
    go_upto_region 2 with fail
    generalize w.alloc (.cells #[.slice none 0 0, .slice none 0 0, .slice none 0 0] 31) = w1 at HO HB ⊢
    have c0 := row_facts HO.out 0 _ rfl
    have c1 := row_facts HO.out 1 _ rfl
    have c2 := row_facts HO.out 2 _ rfl
    obtain ⟨c0a, c0b⟩ := c0
    obtain ⟨c1a, c1b⟩ := c1
    obtain ⟨c2a, c2b⟩ := c2
    have HO2 : Hid (OwnV 31 3 (((w1.setCell ⟨w.heap.size, 0, none⟩ (.slice none 0 0)).setCell ⟨w.heap.size, 1, none⟩ (.slice none 0 0)).setCell ⟨w.heap.size, 2, none⟩ (.slice none 0 0)) w.heap.size (some ⟨w.heap.size, 0, none⟩) 1 1 [.slice none 0 0, .slice none 0 0, .slice none 0 0]) := Lib.hid (((HO.out.set 0 _ (by show 0 < 3; omega)).set 1 _ (by show 1 < 3; omega)).set 2 _ (by show 2 < 3; omega))
    have HB2 : Hid (Below w.heap.size w (((w1.setCell ⟨w.heap.size, 0, none⟩ (.slice none 0 0)).setCell ⟨w.heap.size, 1, none⟩ (.slice none 0 0)).setCell ⟨w.heap.size, 2, none⟩ (.slice none 0 0))) := Lib.hid (((HB.out.setCell (p := ⟨w.heap.size, 0, none⟩) (Nat.le_refl _) _).setCell (p := ⟨w.heap.size, 1, none⟩) (Nat.le_refl _) _).setCell (p := ⟨w.heap.size, 2, none⟩) (Nat.le_refl _) _)
    go_wp2_with fail
    refine bodyPost_ret (results_ctt rfl (ag_conf _) (sz_conf _) rfl HO2.out) rfl ?_
    exact ⟨HB2.out, cf0, rfl, CfR.zero _, Ctn.zero, OwnV.nil _ _ _ _, OwnV.nil _ _ _ _⟩
  · have HLS : Hid (s.length ≤ 16384) := Lib.hid (by omega)
    have hli : ¬ (16384 : Int) < (s.length : Int) := by omega
    have HQI : Hid (∀ i, linesQ 0 cft0 (splitF 10 s) = .inl i → parseQ s = (12, (i : Int), cft0)) := Lib.hid fun i h => by unfold parseQ; rw [if_neg hlong, h]
    have HQR : Hid (∀ c, linesQ 0 cft0 (splitF 10 s) = .inr c → parseQ s = if (whereF c.P c.C c.T).1 = 0 then (0, 0, c) else ((whereF c.P c.C c.T).1, 0, cft0)) := Lib.hid fun c h => by unfold parseQ; rw [if_neg hlong, h]
    obtain ⟨V, hV⟩ : ∃ V, V = linesQ 0 cft0 (splitF 10 s) := ⟨_, rfl⟩
    rw [← hV] at HQI HQR
    have HV := Lib.hid hV
    unfold ParX
    generalize parseQ s = PQ at HQI HQR ⊢
    obtain ⟨W1, hW1⟩ : ∃ W1, W1 = w.alloc (.cells #[.slice none 0 0, .slice none 0 0, .slice none 0 0] 31) := ⟨_, rfl⟩
    rw [← hW1] at b0 o0 hz0
    have b1 := bl1 W1 (.cells #[.slice none 0 0, .slice none 0 0, .slice none 0 0] 31)
    have o1 := ownV_lit W1 31 3 w.heap.size #[.slice none 0 0, .slice none 0 0, .slice none 0 0] 1 rfl b0.size (by unfold maxLen; omega)
    have hz1 : (W1.alloc (.cells #[.slice none 0 0, .slice none 0 0, .slice none 0 0] 31)).heap.size = w.heap.size + 1 + 1 := by simp [hz0]
    obtain ⟨W2, hW2⟩ : ∃ W2, W2 = W1.alloc (.cells #[.slice none 0 0, .slice none 0 0, .slice none 0 0] 31) := ⟨_, rfl⟩
    rw [← hW2] at b1 o1 hz1
    have b2 := bl1 W2 (.cells #[.string (bsOf s), .bool false] 79)
    have o2 := ownV_lit W2 79 2 w.heap.size #[.string (bsOf s), .bool false] 1 rfl (Nat.le_trans b0.size b1.size) (by unfold maxLen; omega)
    obtain ⟨W3, hW3⟩ : ∃ W3, W3 = W2.alloc (.cells #[.string (bsOf s), .bool false] 79) := ⟨_, rfl⟩
    rw [← hW3] at b2 o2
    rw [hz0] at o1
    rw [hz1] at o2
    have hcv : CvS w.heap.size (w.heap.size + 1) cf0 W3 := ⟨⟨OwnV.below o1 rfl b2, ⟨rfl, OwnV.nil _ _ _ _⟩, ⟨rfl, OwnV.nil _ _ _ _⟩, ⟨rfl, OwnV.nil _ _ _ _⟩⟩, fun y hy => (by cases hy), fun y hy => (by cases hy), CfC.of (CfR.zero w)⟩
    have HPS : Hid (ParS w.heap.size (w.heap.size + 1 + 1) (w.heap.size + 1) w.heap.size (some s) cf0 w W3) := Lib.hid ⟨o2, hcv, OwnV.below (OwnV.below o0 rfl b1) rfl b2, by omega, (b0.trans (b1.mono b0.size)).trans (b2.mono (Nat.le_trans b0.size b1.size)), Nat.le_trans (Nat.le_trans b0.size b1.size) b2.size⟩
    subst hW3; subst hW2; subst hW1
    have hbd := built_rdr (bsOf s)
    obtain ⟨n, hn⟩ : ∃ n, n = s.length := ⟨_, rfl⟩
    rw [← hn] at hli hsz
    clear hs hlong b0 o0 hz0 b1 o1 hz1 b2 o2 hcv hV
    generalize bsOf s = sv at HPS hbd hsz ⊢
    go_enter Tryz.func17, Tryz.ntmps17
    go_wp2_with fail
    generalize ((w.alloc (.cells #[.slice none 0 0, .slice none 0 0, .slice none 0 0] 31)).alloc (.cells #[.slice none 0 0, .slice none 0 0, .slice none 0 0] 31)).alloc (.cells #[.string sv, .bool false] 79) = Wz at HPS ⊢
    go_loopw [7, 8] (fun a _ wr => ∃ (i : Nat) (sn : List UInt8) (c : Cft) (x : Cf), a = .int .i64 ((i + 1 : Nat) : Int) ∧ ParS w.heap.size (w.heap.size + 1 + 1) (w.heap.size + 1) w.heap.size (some sn) x w wr ∧ Ctn x c ∧ V = linesQ i c (splitF 10 sn) ∧ x.n1 + (x.n2 + x.n3) ≤ i ∧ i + sn.length ≤ 16384) (fun _ _ wr => lenS wr (w.heap.size + 1 + 1))
    case atStart => exact ⟨0, s, cft0, cf0, rfl, HPS.out, Ctn.zero, HV.out, Nat.le_refl _, by have := HLS.out; omega⟩
    case round =>
      obtain ⟨i, sn, c, x, rfl, hps, hcn, hv, hcnt, hln⟩ := hrel
      have HP := Lib.hid hps
      have HC := Lib.hid hcn
      have HV2 := Lib.hid hv
      have HCN := Lib.hid hcnt
      have HLN := Lib.hid hln
      have HMS := Lib.hid (lenS_is hps.rd)
      obtain ⟨k, hk⟩ : ∃ k, k = i + 1 := ⟨_, rfl⟩
      rw [← hk]
      have HK := Lib.hid hk
      clear hps hcn hv hcnt hln HPS HV hk
      by_cases hs0 : sn = []
      · have HE := Lib.hid (tend_nil HP.out.rd (by rw [Option.getD_some]; exact hs0))
        have hV : V = .inr c := by rw [HV2.out, hs0]; exact linesQ_nil i c
        have HQ := Lib.hid (HQR.out c hV)
        have hr := HP.out.cv.r
        have HRT := Lib.hid (cfright_any x.A1 x.A2 x.A3 x.n1 x.n2 x.n3 x.c1 x.c2 x.c3 x.P x.C x.T wr hr.pp hr.ch hr.tb (fun y hy => (hr.pt y hy).1) hr.tt hr.k1)
        have hwf := HC.out.whF hr.lens
        rw [hwf] at HRT
        obtain ⟨m0, m0f⟩ := row_facts HP.out.cv.s.cf 0 _ rfl
        obtain ⟨m1, m1f⟩ := row_facts HP.out.cv.s.cf 1 _ rfl
        obtain ⟨m2, m2f⟩ := row_facts HP.out.cv.s.cf 2 _ rfl
        clear hV hr hwf m0f m1f m2f hs0 HV2 HQR HQI
        by_cases hz : (whereF c.P c.C c.T).1 = 0
        · rw [hz] at HRT
          rw [if_pos hz] at HQ
          clear hz
          go_wp2_with fail
          refine HE.out.mono ?_
          rintro e w1 ⟨rfl, rfl⟩
          go_wp2_with fail
          refine HRT.out.mono ?_
          rintro e w2 ⟨rfl, hb⟩
          have HP2 := Lib.hid (HP.out.on hb)
          clear hb HRT m0 m1 m2
          go_upto_region 16 with fail
          refine wp_region_lit (wpList_loadX rfl (.tmp 5) rfl rfl (ag_conf _) (sz_conf _) HP2.out.cv.s.cf (wpList_storeX (l := [.slice x.A1 x.n1 x.c1, .slice x.A2 x.n2 x.c2, .slice x.A3 x.n3 x.c3]) rfl (.tmp 2) (.tmp 41) rfl rfl rfl (sz_conf _) HP2.out.re rfl ?_ fun w5 ho5 hg5 => ?_))
          · intro v hv
            simp only [List.mem_cons, List.not_mem_nil, or_false] at hv
            rcases hv with rfl | rfl | rfl <;> rfl
          have HCV := Lib.hid (HP2.out.cv.res HP2.out.re HP2.out.nr hg5)
          have HO5 := Lib.hid ho5
          have HB5 : Hid (Below w.heap.size w w5) := Lib.hid (HP2.out.be.trans (ogb_below hg5 (Nat.le_refl _) HP2.out.sz))
          clear ho5 hg5 HP2 HP
          go_wp2_with fail
          refine bodyPost_ret (results_ctt rfl (ag_conf _) (sz_conf _) rfl HO5.out) rfl ?_
          rw [HQ.out]
          exact ⟨HB5.out, x, rfl, HCV.out.r, HC.out, HCV.out.s.pp.own, HCV.out.s.tb.own⟩
        · have HQZ := Lib.hid hz
          rw [if_neg hz] at HQ
          generalize (whereF c.P c.C c.T).1 = z at HRT HQ hz
          have i1 : (z != 0) = true := bne_iff_ne.2 hz
          clear hz
          go_wp2_with fail
          refine HE.out.mono ?_
          rintro e w1 ⟨rfl, rfl⟩
          go_wp2_with fail
          refine HRT.out.mono ?_
          rintro e w2 ⟨rfl, hb⟩
          have HP2 := Lib.hid (HP.out.on hb)
          clear hb HRT m0 m1 m2
          go_upto_region 15 with fail
          have hbc := built_conf w2
          obtain ⟨c0a, c0b⟩ := row_facts HP2.out.re 0 _ rfl
          obtain ⟨c1a, c1b⟩ := row_facts HP2.out.re 1 _ rfl
          obtain ⟨c2a, c2b⟩ := row_facts HP2.out.re 2 _ rfl
          have HO2 : Hid (OwnV 31 3 (((w2.setCell ⟨w.heap.size, 0, none⟩ (.slice none 0 0)).setCell ⟨w.heap.size, 1, none⟩ (.slice none 0 0)).setCell ⟨w.heap.size, 2, none⟩ (.slice none 0 0)) w.heap.size (some ⟨w.heap.size, 0, none⟩) 1 1 [.slice none 0 0, .slice none 0 0, .slice none 0 0]) := Lib.hid (((HP2.out.re.set 0 _ (by show 0 < 3; omega)).set 1 _ (by show 1 < 3; omega)).set 2 _ (by show 2 < 3; omega))
          have HB2 : Hid (Below w.heap.size w (((w2.setCell ⟨w.heap.size, 0, none⟩ (.slice none 0 0)).setCell ⟨w.heap.size, 1, none⟩ (.slice none 0 0)).setCell ⟨w.heap.size, 2, none⟩ (.slice none 0 0))) := Lib.hid (((HP2.out.be.setCell (p := ⟨w.heap.size, 0, none⟩) (Nat.le_refl _) _).setCell (p := ⟨w.heap.size, 1, none⟩) (Nat.le_refl _) _).setCell (p := ⟨w.heap.size, 2, none⟩) (Nat.le_refl _) _)
          go_wp2_with fail
          refine bodyPost_ret (results_ctt rfl (ag_conf _) (sz_conf _) rfl HO2.out) rfl ?_
          rw [HQ.out]
          exact ⟨HB2.out, cf0, rfl, CfR.zero _, Ctn.zero, OwnV.nil _ _ _ _, OwnV.nil _ _ _ _⟩
      · have HLT := Lib.hid (nextL_lt hs0)
        have HE := Lib.hid (by obtain ⟨a, b, e⟩ : ∃ a b, sn = a :: b := (match sn, hs0 with | a :: b, _ => ⟨a, b, rfl⟩); exact tend_cons (show RdrS w.heap.size (w.heap.size + 1 + 1) (some (a :: b)) _ from e ▸ HP.out.rd))
        have HU := Lib.hid (tupto_any HP.out.rd (by rw [Option.getD_some]; have := HLN.out; omega) 10 10 rfl)
        rw [Option.getD_some, show (some sn).map (behindT (isB 10)) = some (behindT (isB 10) sn) from rfl] at HU
        have HAL : Hid ((aheadT (isB 10) sn).length ≤ 1048576) := Lib.hid (by have := aheadT_le (isB 10) sn; have := HLN.out; omega)
        have hmore := linesQ_more i c sn
        rw [← HV2.out] at hmore
        have HTK := Lib.hid fun W (hh : RdrS w.heap.size (w.heap.size + 1 + 1) (some (behindT (isB 10) sn)) W) => ttake_any hh 10 10 rfl
        rw [tk_next] at HTK
        have HMR := Lib.hid hmore
        have hbd := built_rdr (bsOf (aheadT (isB 10) sn))
        clear hs0 hmore HV2
        generalize nextL sn = sn2 at HLT HTK HMR
        generalize behindT (isB 10) sn = rs at HU HTK
        generalize aheadT (isB 10) sn = xs at HU HAL HMR hbd
        go_wp2_with fail
        refine HE.out.mono ?_
        rintro e w1 ⟨rfl, rfl⟩
        go_wp2_with fail
        refine HU.out.mono ?_
        rintro e w2 ⟨rfl, h2⟩
        have HP2 := Lib.hid (HP.out.step h2)
        clear h2 HU HE HP
        have hb3 := bl1 w2 (.cells #[.string (bsOf xs), .bool false] 79)
        have HP3 := Lib.hid (HP2.out.on hb3)
        have H1R : Hid (RdrS w.heap.size w2.heap.size (some xs) (w2.alloc (.cells #[.string (bsOf xs), .bool false] 79))) := Lib.hid (ownV_lit w2 79 2 w.heap.size #[.string (bsOf xs), .bool false] 1 rfl HP2.out.sz (by unfold maxLen; omega))
        have HGL : Hid (w.heap.size + 1 + 1 < w2.heap.size) := Lib.hid HP2.out.rd.cells.2.2.2.2.2
        have HT := Lib.hid (HTK.out _ HP3.out.rd)
        generalize ((some rs).bind (takeB 10)).isSome = tb at HT
        clear hb3 HTK
        generalize bsOf xs = xv at HP3 H1R hbd HT ⊢
        go_wp2_with fail
        refine HT.out.mono ?_
        rintro e w3 ⟨rfl, h3⟩
        have HP4 := Lib.hid (HP3.out.step h3)
        have H1R3 : Hid (RdrS w.heap.size w2.heap.size (some xs) w3) := Lib.hid (OwnV.gbo H1R.out h3.gb (by intro e; injection e with e; dsimp only at e; have := HGL.out; omega))
        clear h3 HT HP3 H1R hbd
        have HLI := Lib.hid (tline_any H1R3.out HAL.out HP4.out.cv HP4.out.sz HC.out (by have := HCN.out; have := HLN.out; omega))
        go_wp2_with fail
        refine HLI.out.mono ?_
        rintro e w4 ⟨rfl, st', hst, hrd, hkl, hok⟩
        obtain ⟨p1, p2, p3, p4⟩ := HP4.out.line H1R3.out (by have := HGL.out; omega) hkl
        have HD := Lib.hid (tdone_any hrd)
        have HP1 := Lib.hid p1
        have HPR := Lib.hid p2
        have HPB := Lib.hid p3
        have HPZ := Lib.hid p4
        clear p1 p2 p3 p4 hkl hrd HLI
        by_cases hdn : st' = some []
        · have hls : ∃ c', lineS c xs = some (c', []) := by
            cases hq : lineS c xs with
            | none => rw [hq] at hst; rw [hst] at hdn; cases hdn
            | some y =>
              rw [hq] at hst
              rw [hst] at hdn
              injection hdn with hdn
              exact ⟨y.1, by rw [← hdn]⟩
          obtain ⟨c', hls⟩ := hls
          obtain ⟨x', hcv, hcn, hcnt⟩ := hok c' [] hls
          have hV : V = linesQ (i + 1) c' (splitF 10 sn2) := by rw [HMR.out, lineD_S, hls]; rfl
          have HV3 := Lib.hid hV
          have HPS2 : Hid (ParS w.heap.size (w.heap.size + 1 + 1) (w.heap.size + 1) w.heap.size (some sn2) x' w w4) := Lib.hid ⟨HP1.out, hcv, HPR.out, HP4.out.nr, HPB.out, HPZ.out⟩
          have HC2 := Lib.hid hcn
          have HN2 : Hid (x'.n1 + (x'.n2 + x'.n3) ≤ i + 1) := Lib.hid (by have := HCN.out; omega)
          rw [decide_eq_true hdn] at HD
          have k1 : (k : Int) + 1 = ((k + 1 : Nat) : Int) := by omega
          obtain ⟨kk, hkk⟩ : ∃ kk, kk = k + 1 := ⟨_, rfl⟩
          rw [← hkk] at k1
          have k2 : IntKind.i64.wrap (kk : Int) = (kk : Int) := by rw [IntKind.wrap_i64]; have := HLN.out; have := HK.out; omega
          have HKK : Hid (kk = i + 1 + 1) := Lib.hid (by rw [hkk, HK.out])
          clear hdn hls hok hst hcv hcn hcnt hV HMR hkk
          go_wp2_with fail
          refine HD.out.mono ?_
          rintro e w5 ⟨rfl, rfl⟩
          go_wp2_with fail
          go_roundw
          case rel => exact ⟨i + 1, sn2, c', x', by rw [← HKK.out], HPS2.out, HC2.out, HV3.out, HN2.out, by have := HLT.out; have := HLN.out; omega⟩
          case measure => rw [HMS.out, lenS_is HPS2.out.rd]; exact HLT.out
        · have hV : V = .inl (i + 1) := by
            rw [HMR.out, lineD_S]
            cases hq : lineS c xs with
            | none => rfl
            | some y =>
              rw [hq] at hst
              rw [hst] at hdn
              have : y.2 ≠ [] := fun e => hdn (congrArg some e)
              show (match (if y.2 = [] then some y.1 else none) with | none => _ | some c' => _) = _
              rw [if_neg this]
          have HQ := Lib.hid (HQI.out (i + 1) hV)
          rw [decide_eq_false hdn] at HD
          clear hdn hok hst hV HMR HQI HQR
          go_wp2_with fail
          refine HD.out.mono ?_
          rintro e w5 ⟨rfl, rfl⟩
          have hbc := built_conf w4
          obtain ⟨c0a, c0b⟩ := row_facts HPR.out 0 _ rfl
          obtain ⟨c1a, c1b⟩ := row_facts HPR.out 1 _ rfl
          obtain ⟨c2a, c2b⟩ := row_facts HPR.out 2 _ rfl
          have HO2 : Hid (OwnV 31 3 (((w4.setCell ⟨w.heap.size, 0, none⟩ (.slice none 0 0)).setCell ⟨w.heap.size, 1, none⟩ (.slice none 0 0)).setCell ⟨w.heap.size, 2, none⟩ (.slice none 0 0)) w.heap.size (some ⟨w.heap.size, 0, none⟩) 1 1 [.slice none 0 0, .slice none 0 0, .slice none 0 0]) := Lib.hid (((HPR.out.set 0 _ (by show 0 < 3; omega)).set 1 _ (by show 1 < 3; omega)).set 2 _ (by show 2 < 3; omega))
          have HB2 : Hid (Below w.heap.size w (((w4.setCell ⟨w.heap.size, 0, none⟩ (.slice none 0 0)).setCell ⟨w.heap.size, 1, none⟩ (.slice none 0 0)).setCell ⟨w.heap.size, 2, none⟩ (.slice none 0 0))) := Lib.hid (((HPB.out.setCell (p := ⟨w.heap.size, 0, none⟩) (Nat.le_refl _) _).setCell (p := ⟨w.heap.size, 1, none⟩) (Nat.le_refl _) _).setCell (p := ⟨w.heap.size, 2, none⟩) (Nat.le_refl _) _)
          go_wp2_with fail
          refine bodyPost_ret (results_ctt rfl (ag_conf _) (sz_conf _) rfl HO2.out) rfl ?_
          rw [HQ.out]
          exact ⟨HB2.out, cf0, by rw [← HK.out]; rfl, CfR.zero _, Ctn.zero, OwnV.nil _ _ _ _, OwnV.nil _ _ _ _⟩
end Go.Proofs.YtfmndmhjjbeokaaGreatDoor
namespace Go.Proofs.YtfmndmhjjbeokaaGreatDoor
set_option maxRecDepth 100000
open Go.RowKit Tab Txt
set_option linter.unusedSimpArgs false
set_option linter.unusedVariables false
theorem elStU : Elt 39 9 1 16 (.string ⟨#[]⟩) := ⟨Tryz.underlying39, by kernel_rfl, rfl, by omega⟩
theorem run_makeSt (m : Nat) (hm : m ≤ 1048576) (W : World) : (Instr.makeSlice 39 (.int .i64 (m : Int)) (.int .i64 (m : Int))).run Tryz.prog W = .ok (.slice (some ⟨W.heap.size, 0, none⟩) m m) (W.alloc (.cells (madeCells #[.string ⟨#[]⟩] m) 9)) := by
  obtain ⟨i, hi, hz, hs, hby⟩ := info_parts elStU.hi
  have hr := run_make (P := Tryz.prog) W 39 9 i _ elStU.ht hi hz .i64 .i64 m m (by omega) (by omega) (by rw [hby]; omega) (by omega)
  rw [hs] at hr
  simp only [Int.toNat_natCast, Nat.mul_one] at hr
  exact hr
theorem made_strs (n : Nat) : (madeCells #[Value.string ⟨#[]⟩] n).toList = List.replicate n (.string ⟨#[]⟩) := by
  apply List.ext_getElem?
  intro i
  rw [Array.getElem?_toList]
  rcases Nat.lt_or_ge i n with h | h
  · have h1 := made_get (Value.string ⟨#[]⟩) n i h
    rw [h1, List.getElem?_replicate, if_pos h]
  · rw [Array.getElem?_eq_none (by simp [size_madeCells]; omega), List.getElem?_eq_none (by simp; omega)]
def stRow (L : List (List UInt8)) (n i : Nat) : List Value := (L.take i).flatMap sc ++ List.replicate (n - i) (.string ⟨#[]⟩)
theorem stRow_0 (L : List (List UInt8)) (n : Nat) : stRow L n 0 = List.replicate n (.string ⟨#[]⟩) := by simp [stRow]
theorem stRow_all {L : List (List UInt8)} {n : Nat} (h : L.length = n) : stRow L n n = L.flatMap sc := by
  unfold stRow
  rw [List.take_of_length_le (by omega), Nat.sub_self]
  simp
theorem sc_flen (L : List (List UInt8)) : (L.flatMap sc).length = L.length := by rw [flat_sc, List.length_map]
theorem stRow_set {L : List (List UInt8)} {n i : Nat} {x : List UInt8} (hi : i < n) (hx : L[i]? = some x) : (stRow L n i).set i (.string (bsOf x)) = stRow L n (i + 1) := by
  have hlt := (List.getElem?_eq_some_iff.1 hx).1
  unfold stRow
  have hl : ((L.take i).flatMap sc).length = i := by rw [sc_flen, List.length_take]; omega
  rw [List.set_append_right _ _ (by omega), hl, Nat.sub_self]
  obtain ⟨k, hk⟩ : ∃ k, n - i = k + 1 := ⟨n - i - 1, by omega⟩
  rw [hk, show n - (i + 1) = k by omega, List.replicate_succ, List.set_cons_zero, List.take_add_one, hx]
  simp [sc]
def kidT (nm : Int → List UInt8) : F → List (List UInt8)
  | .nil => []
  | .cons x k r => txN nm x (txX nm k false) :: kidT nm r
theorem kidT_len (nm : Int → List UInt8) : ∀ f : F, (kidT nm f).length = f.cnt
  | .nil => rfl
  | .cons x k r => by simp [kidT, F.cnt, kidT_len nm r]
theorem kidT_join (nm : Int → List UInt8) : ∀ f : F, txX nm f false = joinB 44 (kidT nm f)
  | .nil => rfl
  | .cons x k .nil => by
    show ([] : List UInt8) ++ (txN nm x (txX nm k false) ++ txX nm .nil true) = txN nm x (txX nm k false)
    simp [txX]
  | .cons x k (.cons y k2 r) => by
    have ih := kidT_join nm (.cons y k2 r)
    show ([] : List UInt8) ++ (txN nm x (txX nm k false) ++ txX nm (.cons y k2 r) true) = txN nm x (txX nm k false) ++ 44 :: joinB 44 (kidT nm (.cons y k2 r))
    rw [← ih, txX_comma, List.nil_append]
theorem kidT_dr (nm : Int → List UInt8) : ∀ (f : F) (i : Nat) (y : Nd) (k r : F), F.dr i f = .cons y k r → (kidT nm f)[i]? = some (txN nm y (txX nm k false))
  | .nil, i, y, k, r, h => by cases i <;> simp [F.dr] at h
  | .cons x k' r', 0, y, k, r, h => by
    have h : F.cons x k' r' = .cons y k r := h
    injection h with h1 h2 h3
    rw [h1, h2]
    rfl
  | .cons x k' r', i + 1, y, k, r, h => by
    have := kidT_dr nm r' i y k r h
    show (txN nm x (txX nm k' false) :: kidT nm r')[i + 1]? = _
    rw [List.getElem?_cons_succ]
    exact this
def SplX (t : List UInt8) (q : Nat) (w : World) (e : Ending) (w' : World) : Prop := e = .returned (.tuple #[.string (bsOf t), .int .i64 (q : Int)]) ∧ Below w.heap.size w w'
set_option maxHeartbeats 4000000 in
theorem tspelt_any (A : Option Addr) (n cap : Nat) (l : List Nd) (hc : n ≤ cap) (hn : n ≤ 1048576) (AN : Option Addr) (nn cn : Nat) (L : List (List UInt8)) (hL : ∀ s ∈ L, s.length ≤ 64) (M : Nat) : ∀ (p : Nat) (x : Nd) (k r : F) (t : List Nd) (w : World), k.sz < M → RdN w w.heap.size A n l → (F.cons x k r).ok → l.drop p = (F.cons x k r).flat ++ t →
    RdB sc w w.heap.size AN nn L → (∀ y ∈ l, y.k = 1 → y.p < nn) → TabW w →
    Calls Tryz.prog 64 #[.slice A n cap, .int .i64 p, .slice AN nn cn] w (SplX (txN (nmP L) x (txX (nmP L) k false)) (p + 1 + k.sz) w) := by
  induction M with
  | zero => intro p x k r t w h; omega
  | succ M ih =>
    intro p x k r t w hM h hok hl hN hpp htb
    obtain ⟨hk, hfit, hd, hx⟩ := kids_at hok hl
    have hlen := h.len
    rw [hlen] at hfit
    have hm : k.cnt ≤ n := by have := F.cnt_le_sz k; omega
    have HPD := Lib.hid fun j hj => pos_dr hok.2.2.1 hd (by omega) j hj
    have hkok := Lib.hid hok.2.2.1
    have hkn : k.cnt = kn x := hok.2.1
    have HFX := Lib.hid hok.1
    have HXM := Lib.hid (List.mem_of_getElem? hx)
    have hin64 : ∀ y ∈ k.flat, In64 y.n := fun y hy => (h.bd y (List.mem_of_mem_drop (i := p + 1) (by rw [hd]; exact List.mem_append_left _ hy))).2.2
    have HTL := Lib.hid (tx_len (nmP_len hL) k hin64 false)
    have HKZ := Lib.hid (show k.sz ≤ 1048576 by omega)
    have HFIT := Lib.hid hfit
    obtain ⟨ad, x0, rfl, had, hx0, hxi, k0, k1, k2⟩ := h.at_ (i := p) (by omega)
    obtain rfl : x0 = x := by rw [hx] at hx0; injection hx0 with h; exact h.symm
    have HXI := Lib.hid hxi
    have hpn : p < n := by omega
    have HIH := Lib.hid ih
    have HH := Lib.hid h
    have HNB := Lib.hid hN
    have HPP := Lib.hid hpp
    have HTB := Lib.hid htb
    have HD := Lib.hid hd
    have HMM := Lib.hid hM
    have HKN := Lib.hid hkn
    obtain ⟨xk, xp, xn⟩ := x0
    dsimp only at k0 k1 k2 HXI HFX HXM
    have hbl := bl1 w (.cells #[.int .i64 xk, .int .i64 xp, .int .i64 xn] 54)
    have hf : ∀ o v, (#[Value.int .i64 xk, .int .i64 xp, .int .i64 xn] : Array Value)[o]? = some v → (w.alloc (.cells #[.int .i64 xk, .int .i64 xp, .int .i64 xn] 54)).cell? ⟨w.heap.size, o, none⟩ = some v := fun o v hv => (World.cell?_alloc_mark _ _ _ _ _).trans hv
    have hgw : w.heap.size < (w.alloc (.cells #[.int .i64 xk, .int .i64 xp, .int .i64 xn] 54)).heap.size := by simp
    obtain ⟨TX, hTX⟩ : ∃ T, T = txX (nmP L) k false := ⟨_, rfl⟩
    obtain ⟨RES, hRES⟩ : ∃ T, T = txN (nmP L) ⟨xk, xp, xn⟩ TX := ⟨_, rfl⟩
    rw [← hTX] at HTL ⊢
    rw [← hRES]
    have HTX := Lib.hid hTX
    have HRES := Lib.hid hRES
    obtain ⟨p1, hp1⟩ : ∃ p1, p1 = p + 1 := ⟨_, rfl⟩
    have e1 : (p : Int) + 1 = (p1 : Int) := by omega
    have e2 : IntKind.i64.wrap (p1 : Int) = (p1 : Int) := by rw [IntKind.wrap_i64]; omega
    have HP1 := Lib.hid hp1
    rw [← hp1] at hd HD HPD ⊢
    have hfx := HFX.out
    have h1n := fine_one hfx
    dsimp only at h1n
    obtain ⟨N, hNn⟩ : ∃ N : Nat, xn = (N : Int) := ⟨xn.toNat, by omega⟩
    have hN63 : N ≤ 9223372036854775807 := by have := hxi.2.2.2; dsimp only at this; omega
    have hnl := num_len_le 19 N (by omega)
    clear hk hl hd hx hlen hok ih h hN hpp hin64 hxi hx0 hTX hRES htb hp1 hM hkn
    subst hNn
    have hres := HRES.out
    unfold txN at hres
    dsimp only at hres
    have HRS := Lib.hid hres
    unfold fine at hfx
    simp only [Bool.and_eq_true, decide_eq_true_eq] at hfx
    have hfx2 := hfx.2
    clear hres hfx HRES HFX h1n
    have HB0 := Lib.hid hbl
    have HNMK : Hid (∀ V, Below w.heap.size w V → TabW V) := Lib.hid fun V hv => HTB.out.on hv
    try dsimp only at hfx2
    go_enter Tryz.func64, Tryz.ntmps64
    go_upto_region 3 with fail
    have hHFC : ∀ V, Below (w.alloc (.cells #[.int .i64 xk, .int .i64 xp, .int .i64 (N : Int)] 54)).heap.size (w.alloc (.cells #[.int .i64 xk, .int .i64 xp, .int .i64 (N : Int)] 54)) V → ∀ o v, (#[Value.int .i64 xk, .int .i64 xp, .int .i64 (N : Int)] : Array Value)[o]? = some v → V.cell? ⟨w.heap.size, o, none⟩ = some v := fun V hv o v hq => (hv.cell (p := ⟨w.heap.size, o, none⟩) hgw).trans (hf o v hq)
    have HFC := Lib.hid hHFC
    generalize w.alloc (.cells #[.int .i64 xk, .int .i64 xp, .int .i64 (N : Int)] 54) = w0 at HFC HB0 ⊢
    have f0 := HFC.out w0 (Below.refl _ _) 0 _ rfl
    have f1 := HFC.out w0 (Below.refl _ _) 1 _ rfl
    have f2 := HFC.out w0 (Below.refl _ _) 2 _ rfl
    have hsz : ∀ {f : F}, f.cnt = 0 → f.sz = 0 := fun h => by rw [F.cnt_zero h]; rfl
    clear hHFC hbl hf hgw k0 k1 k2
    have HNQ : Hid (∀ V, Below w0.heap.size w0 V → Calls Tryz.prog 58 #[.int .i64 (N : Int)] V (fun e w' => e = .returned (.string (bsOf (numB N))) ∧ Below w0.heap.size w0 w')) := Lib.hid fun V hv => (tnuml_any N hN63 V (HNMK.out V (HB0.out.trans (hv.mono HB0.out.size)))).mono fun e w' ⟨h1, h2⟩ => ⟨h1, hv.trans (h2.mono hv.size)⟩
    split at hfx2
    · rename_i e1'
      subst e1'
      have hpq := of_decide_eq_true hfx2
      have hpn2 := HPP.out _ HXM.out rfl
      dsimp only at hpn2
      obtain ⟨pn, hpe⟩ : ∃ q : Nat, xp = (q : Int) := ⟨xp.toNat, by omega⟩
      subst hpe
      obtain ⟨adn, nx, rfl, hadn, hnx, c0, ck⟩ := (HNB.out.on HB0.out).at_ sc_len (by omega) (show pn < nn by omega)
      have c0 := c0 _ rfl
      rw [Nat.mul_one] at c0
      have hnm : nmP L (pn : Int) = nx := nmP_get (by omega) hnx
      have hnl2 : nx.length ≤ 64 := hL _ (List.mem_of_getElem? hnx)
      have HR2 : Hid (RES = 119 :: (nx ++ 58 :: numB N)) := Lib.hid (by have h := HRS.out; rw [if_pos rfl, hnm] at h; exact h)
      obtain ⟨u1, hu1⟩ : ∃ t, t = [119] ++ nx := ⟨_, rfl⟩
      have lu1 : u1.length ≤ 104857800 * 2 := by rw [hu1, List.length_append]; have q1 : ([119] : List UInt8).length ≤ 2 := (by decide); have q2 : (nx : List UInt8).length ≤ 64 := hnl2; omega
      have haddu1 : ∀ W, (Op.stringOp .add ⟨#[119]⟩ (bsOf nx)).run Tryz.prog W = .ok (.string (bsOf u1)) W := by
        rw [hu1]
        exact sadd ([119]) (nx) (by rw [← List.length_append, ← hu1]; omega)
      obtain ⟨u2, hu2⟩ : ∃ t, t = u1 ++ [58] := ⟨_, rfl⟩
      have lu2 : u2.length ≤ 104857800 * 3 := by rw [hu2, List.length_append]; have q1 : (u1 : List UInt8).length ≤ 104857800 * 2 := lu1; have q2 : ([58] : List UInt8).length ≤ 2 := (by decide); omega
      have haddu2 : ∀ W, (Op.stringOp .add (bsOf u1) ⟨#[58]⟩).run Tryz.prog W = .ok (.string (bsOf u2)) W := by
        rw [hu2]
        exact sadd (u1) ([58]) (by rw [← List.length_append, ← hu2]; omega)
      obtain ⟨u3, hu3⟩ : ∃ t, t = u2 ++ numB N := ⟨_, rfl⟩
      have lu3 : u3.length ≤ 104857800 * 4 := by rw [hu3, List.length_append]; have q1 : (u2 : List UInt8).length ≤ 104857800 * 3 := lu2; have q2 : (numB N : List UInt8).length ≤ 20 := hnl; omega
      have haddu3 : ∀ W, (Op.stringOp .add (bsOf u2) (bsOf (numB N))).run Tryz.prog W = .ok (.string (bsOf u3)) W := by
        rw [hu3]
        exact sadd (u2) (numB N) (by rw [← List.length_append, ← hu3]; omega)
      have HU1 := Lib.hid hu1
      have HU2 := Lib.hid hu2
      have HU3 := Lib.hid hu3
      have HRU : Hid (RES = u3) := Lib.hid (by rw [HR2.out, HU3.out, HU2.out, HU1.out]; simp)
      clear hu1 lu1 hu2 lu2 hu3 lu3
      have hpi : pn < nn := by omega
      have HK0 : Hid (p1 + k.sz = p1) := Lib.hid (by rw [hsz (show k.cnt = 0 from HKN.out)]; rfl)
      have hadl : (adn.add pn).block < w0.heap.size := by rw [add_block]; exact hadn
      have HNR : Hid (∀ V, Below w0.heap.size w0 V → Calls Tryz.prog 58 #[.int .i64 (N : Int)] V (fun e w' => e = .returned (.string (bsOf (numB N))) ∧ Below w0.heap.size w0 w' ∧ w'.cell? ⟨w.heap.size, 1, none⟩ = some (.int .i64 (pn : Int)) ∧ w'.cell? ⟨w.heap.size, 2, none⟩ = some (.int .i64 (N : Int)) ∧ w'.cell? (adn.add pn) = some (.string (bsOf nx)))) := Lib.hid fun V hv => (HNQ.out V hv).mono fun e w' ⟨h1, h2⟩ => ⟨h1, h2, HFC.out w' h2 1 _ rfl, HFC.out w' h2 2 _ rfl, (h2.cell hadl).trans c0⟩
      clear hfx2 hpq hpn2 hnx ck hnm HRS HNQ hnl2
      go_wp2_with fail
      go_region_with (go_at_call 58; refine (HNR.out _ (by first | exact Below.refl _ _ | exact (Below.refl _ _).drew | exact Below.drewN (Below.refl _ _) _)).mono ?_; rintro e w6 ⟨rfl, hb6, v0, v1, v2⟩)
      all_goals
        have HB6 := Lib.hid hb6
        clear hb6 v0 v1 v2 f0 f1 f2 c0
        go_wp2_with fail
        go_ret2
        rw [HRU.out, HK0.out]
        exact ⟨rfl, HB0.out.trans (HB6.out.mono HB0.out.size)⟩
    · rename_i e1'
      have q1 : (xk == 1) = false := beq_eq_false_iff_ne.2 e1'
      split at hfx2
      · rename_i e2'
        rcases e2' with e2' | e2'
        · subst e2'
          have HR2 : Hid (RES = 105 :: numB N) := Lib.hid (by have h := HRS.out; rw [if_neg (by decide), if_pos rfl] at h; exact h)
          obtain ⟨u1, hu1⟩ : ∃ t, t = [105] ++ numB N := ⟨_, rfl⟩
          have lu1 : u1.length ≤ 104857800 * 2 := by rw [hu1, List.length_append]; have q1 : ([105] : List UInt8).length ≤ 2 := (by decide); have q2 : (numB N : List UInt8).length ≤ 20 := hnl; omega
          have haddu1 : ∀ W, (Op.stringOp .add ⟨#[105]⟩ (bsOf (numB N))).run Tryz.prog W = .ok (.string (bsOf u1)) W := by
            rw [hu1]
            exact sadd ([105]) (numB N) (by rw [← List.length_append, ← hu1]; omega)
          have HU1 := Lib.hid hu1
          have HRU : Hid (RES = u1) := Lib.hid (by rw [HR2.out, HU1.out]; simp)
          clear hu1 lu1
          have HK0 : Hid (p1 + k.sz = p1) := Lib.hid (by rw [hsz (show k.cnt = 0 from HKN.out)]; rfl)
          clear hfx2 HRS e1' q1
          go_wp2_with fail
          refine (HNQ.out _ (Below.refl _ _)).mono ?_
          rintro e w7 ⟨rfl, hb7⟩
          go_wp2_with fail
          go_ret2
          rw [HRU.out, HK0.out]
          exact ⟨rfl, HB0.out.trans (hb7.mono HB0.out.size)⟩
        · subst e2'
          have HR2 : Hid (RES = 114 :: (numB N ++ 40 :: (TX ++ [41]))) := Lib.hid (by have h := HRS.out; rw [if_neg (by decide), if_neg (by decide), if_neg (by decide)] at h; exact h)
          have hk1 : k.cnt = 1 := HKN.out
          obtain ⟨y, ky, r', ed⟩ : ∃ y ky r', k = .cons y ky r' := by
            cases k with
            | nil => cases hk1
            | cons y ky r' => exact ⟨y, ky, r', rfl⟩
          have hr0 : r' = .nil := F.cnt_zero (by rw [ed] at hk1; simp only [F.cnt] at hk1; omega)
          rw [hr0] at ed
          have htl : TX.length ≤ 104857600 := by have := HTL.out; have := HKZ.out; omega
          have hTC : TX = txN (nmP L) y (txX (nmP L) ky false) := by rw [HTX.out, ed]; simp [txX]
          have hky : ky.sz < M := by have := HMM.out; rw [ed] at this; simp only [F.sz] at this; omega
          have hkq : p1 + 1 + ky.sz = p1 + k.sz := by rw [ed]; simp only [F.sz]; omega
          have HIC := Lib.hid (HIH.out p1 y ky .nil _ w0 hky (HH.out.on HB0.out) (by rw [← ed]; exact hkok.out) (by rw [HD.out, ed]) (HNB.out.on HB0.out) HPP.out (HNMK.out _ HB0.out))
          rw [← hTC, hkq] at HIC
          clear hTC hky hkq ed hr0 hk1
          obtain ⟨u1, hu1⟩ : ∃ t, t = [114] ++ numB N := ⟨_, rfl⟩
          have lu1 : u1.length ≤ 104857800 * 2 := by rw [hu1, List.length_append]; have q1 : ([114] : List UInt8).length ≤ 2 := (by decide); have q2 : (numB N : List UInt8).length ≤ 20 := hnl; omega
          have haddu1 : ∀ W, (Op.stringOp .add ⟨#[114]⟩ (bsOf (numB N))).run Tryz.prog W = .ok (.string (bsOf u1)) W := by
            rw [hu1]
            exact sadd ([114]) (numB N) (by rw [← List.length_append, ← hu1]; omega)
          obtain ⟨u2, hu2⟩ : ∃ t, t = u1 ++ [40] := ⟨_, rfl⟩
          have lu2 : u2.length ≤ 104857800 * 3 := by rw [hu2, List.length_append]; have q1 : (u1 : List UInt8).length ≤ 104857800 * 2 := lu1; have q2 : ([40] : List UInt8).length ≤ 2 := (by decide); omega
          have haddu2 : ∀ W, (Op.stringOp .add (bsOf u1) ⟨#[40]⟩).run Tryz.prog W = .ok (.string (bsOf u2)) W := by
            rw [hu2]
            exact sadd (u1) ([40]) (by rw [← List.length_append, ← hu2]; omega)
          obtain ⟨u3, hu3⟩ : ∃ t, t = u2 ++ TX := ⟨_, rfl⟩
          have lu3 : u3.length ≤ 104857800 * 4 := by rw [hu3, List.length_append]; have q1 : (u2 : List UInt8).length ≤ 104857800 * 3 := lu2; have q2 : (TX : List UInt8).length ≤ 104857600 := htl; omega
          have haddu3 : ∀ W, (Op.stringOp .add (bsOf u2) (bsOf TX)).run Tryz.prog W = .ok (.string (bsOf u3)) W := by
            rw [hu3]
            exact sadd (u2) (TX) (by rw [← List.length_append, ← hu3]; omega)
          obtain ⟨u4, hu4⟩ : ∃ t, t = u3 ++ [41] := ⟨_, rfl⟩
          have lu4 : u4.length ≤ 104857800 * 5 := by rw [hu4, List.length_append]; have q1 : (u3 : List UInt8).length ≤ 104857800 * 4 := lu3; have q2 : ([41] : List UInt8).length ≤ 2 := (by decide); omega
          have haddu4 : ∀ W, (Op.stringOp .add (bsOf u3) ⟨#[41]⟩).run Tryz.prog W = .ok (.string (bsOf u4)) W := by
            rw [hu4]
            exact sadd (u3) ([41]) (by rw [← List.length_append, ← hu4]; omega)
          have HU1 := Lib.hid hu1
          have HU2 := Lib.hid hu2
          have HU3 := Lib.hid hu3
          have HU4 := Lib.hid hu4
          have HRU : Hid (RES = u4) := Lib.hid (by rw [HR2.out, HU4.out, HU3.out, HU2.out, HU1.out]; simp)
          clear hu1 lu1 hu2 lu2 hu3 lu3 hu4 lu4
          clear hfx2 HRS e1' q1 htl
          go_wp2_with fail
          refine HIC.out.mono ?_
          rintro e w7 ⟨rfl, hb7⟩
          have g2 := HFC.out w7 hb7 2 _ rfl
          have HB7 := Lib.hid hb7
          clear hb7 f0 f1 f2
          go_wp2_with fail
          refine (HNQ.out _ HB7.out).mono ?_
          rintro e w8 ⟨rfl, hb8⟩
          go_wp2_with fail
          go_ret2
          rw [HRU.out]
          exact ⟨rfl, HB0.out.trans (hb8.mono HB0.out.size)⟩
      · rename_i e2'
        have q2 : (xk == 2) = false := beq_eq_false_iff_ne.2 fun e => e2' (.inl e)
        have q4 : (xk == 4) = false := beq_eq_false_iff_ne.2 fun e => e2' (.inr e)
        split at hfx2
        · rename_i e3'
          subst e3'
          have hN := (of_decide_eq_true hfx2).2
          have hkc : k.cnt = N := by rw [HKN.out]; show (if (3 : Int) = 3 then ((N : Int)).toNat else _) = N; rw [if_pos rfl]; omega
          have HR2 : Hid (RES = 115 :: 40 :: (TX ++ [41])) := Lib.hid (by have h := HRS.out; rw [if_neg (by decide), if_neg (by decide), if_pos rfl] at h; exact h)
          have htl : TX.length ≤ 104857600 := by have := HTL.out; have := HKZ.out; omega
          have HHTL := Lib.hid htl
          have hmk := run_makeSt N (by omega) w0
          have hbm := bl1 w0 (.cells (madeCells #[.string ⟨#[]⟩] N) 9)
          have hom := ownV_lit w0 9 1 w0.heap.size (madeCells #[.string ⟨#[]⟩] N) N (by simp [size_madeCells]) (Nat.le_refl _) (by unfold maxLen; omega)
          rw [made_strs] at hom
          have HBM := Lib.hid hbm
          have HOM := Lib.hid hom
          have HKC := Lib.hid hkc
          have HKT := Lib.hid (kidT_join (nmP L) k)
          have HKL : Hid ((kidT (nmP L) k).length = N) := Lib.hid (by rw [kidT_len]; exact hkc)
          have HDR := Lib.hid (kidT_dr (nmP L) k)
          have hN128 : N ≤ 128 := by omega
          rw [← HTX.out] at HKT
          clear hfx2 HRS hbm hom hN hkc
          go_wp2_with fail
          generalize hwm : w0.alloc (.cells (madeCells #[.string ⟨#[]⟩] N) 9) = wm at HBM HOM ⊢
          go_loopw [1, 12, 65] (fun a _ s wr => ∃ i : Nat, i ≤ N ∧ a = .int .i64 (pos l p1 i : Nat) ∧ s = .int .i64 i ∧ OwnV 9 1 wr w0.heap.size (some ⟨w0.heap.size, 0, none⟩) N N (stRow (kidT (nmP L) k) N i) ∧ Below w0.heap.size w0 wr) (fun _ _ s _ => N - (intOf s).toNat)
          case atStart => exact ⟨0, by omega, rfl, rfl, by rw [stRow_0]; exact HOM.out, HBM.out⟩
          case round =>
            obtain ⟨i, hi, rfl, rfl, ho, hb⟩ := hrel
            have HO := Lib.hid ho
            have HB := Lib.hid hb
            clear ho hb HOM HBM hwm
            by_cases hlt : i < N
            · have hlti : (i : Int) < (N : Int) := by omega
              obtain ⟨hd, hsz1, hq1, hq2⟩ := HPD.out i (by have := HKC.out; omega)
              obtain ⟨hd3, hsz3, hq3, hq4⟩ := HPD.out (i + 1) (by have := HKC.out; omega)
              obtain ⟨y, ky, r', ed⟩ := dr_cons (f := k) (j := i) (by have := HKC.out; omega)
              have hok' := dr_ok hkok.out i
              have ed2 := dr_succ ed
              have hkt := HDR.out i y ky r' ed
              rw [ed] at hd hsz1 hok'
              rw [ed2] at hsz3
              simp only [F.sz] at hsz1
              have hky : ky.sz < M := by have := HMM.out; omega
              have hnx : pos l p1 i + 1 + ky.sz = pos l p1 (i + 1) := by omega
              have k1 := HB0.out.trans (HB.out.mono HB0.out.size)
              have HIC := Lib.hid (HIH.out (pos l p1 i) y ky r' _ wr hky (HH.out.on k1) hok' hd (HNB.out.on k1) HPP.out (HNMK.out _ k1))
              rw [hnx] at HIC
              have HKTI := Lib.hid hkt
              generalize txN (nmP L) y (txX (nmP L) ky false) = CT at HIC HKTI
              have hps : pos l p1 (i + 1) ≤ 1048576 := by have := HH.out.len; omega
              generalize pos l p1 i = P at HIC hd hsz1 hq1 hq2 ⊢
              have HPS := Lib.hid hps
              clear hd hsz1 hq1 hq2 hd3 hsz3 hq3 hq4 ed ed2 hok' hky hnx k1 hkt hps
              go_wp2_with fail
              refine HIC.out.mono ?_
              rintro e w4 ⟨rfl, hb4⟩
              have ho4 := OwnV.below HO.out rfl hb4
              have hb5 := HB.out.trans (hb4.mono HB.out.size)
              obtain ⟨z0, c1⟩ : ∃ v, w4.cell? ⟨w0.heap.size, i, none⟩ = some v := ⟨_, (World.ownsRow.cellAt ho4 i (by omega)).trans (List.getElem?_eq_getElem (by rw [ho4.1]; omega))⟩
              have c2 := World.ownsRow.frozenAt ho4 i
              have HO5 : Hid (OwnV 9 1 (w4.setCell ⟨w0.heap.size, i, none⟩ (.string (bsOf CT))) w0.heap.size (some ⟨w0.heap.size, 0, none⟩) N N (stRow (kidT (nmP L) k) N (i + 1))) := Lib.hid (by rw [← stRow_set hlt HKTI.out]; exact OwnV.set ho4 i _ (by rw [ho4.1]; omega))
              have HB5 : Hid (Below w0.heap.size w0 (w4.setCell ⟨w0.heap.size, i, none⟩ (.string (bsOf CT)))) := Lib.hid (hb5.setCell (p := ⟨w0.heap.size, i, none⟩) (Nat.le_refl _) _)
              clear ho4 hb5 hb4 HIC
              go_wp2_with fail
              go_roundw
              case rel => exact ⟨i + 1, by omega, rfl, by go_num, HO5.out, HB5.out⟩
              case measure => simp [intOf]; omega
            · have hlti : ¬ (i : Int) < (N : Int) := by omega
              obtain rfl : i = N := by omega
              have hall := stRow_all HKL.out
              have ho := HO.out
              rw [hall] at ho
              obtain ⟨hd, hsz1, hq1, hq2⟩ := HPD.out i (by have := HKC.out; omega)
              have e5 : F.dr i k = .nil := by rw [show i = k.cnt from HKC.out.symm]; exact dr_all k
              rw [e5] at hsz1
              have HQ : Hid (pos l p1 i = p1 + k.sz) := Lib.hid (by simpa [F.sz] using hsz1)
              have HJ := Lib.hid (tjoin_any 44 ho HKL.out (by omega) (by rw [← HKT.out]; have := HHTL.out; omega))
              rw [← HKT.out] at HJ
              have htl := HHTL.out
              clear hall ho hd hsz1 hq1 hq2 e5 HO
              obtain ⟨u1, hu1⟩ : ∃ t, t = [115, 40] ++ TX := ⟨_, rfl⟩
              have lu1 : u1.length ≤ 104857800 * 2 := by rw [hu1, List.length_append]; have q1 : ([115, 40] : List UInt8).length ≤ 2 := (by decide); have q2 : (TX : List UInt8).length ≤ 104857600 := htl; omega
              have haddu1 : ∀ W, (Op.stringOp .add ⟨#[115, 40]⟩ (bsOf TX)).run Tryz.prog W = .ok (.string (bsOf u1)) W := by
                rw [hu1]
                exact sadd ([115, 40]) (TX) (by rw [← List.length_append, ← hu1]; omega)
              obtain ⟨u2, hu2⟩ : ∃ t, t = u1 ++ [41] := ⟨_, rfl⟩
              have lu2 : u2.length ≤ 104857800 * 3 := by rw [hu2, List.length_append]; have q1 : (u1 : List UInt8).length ≤ 104857800 * 2 := lu1; have q2 : ([41] : List UInt8).length ≤ 2 := (by decide); omega
              have haddu2 : ∀ W, (Op.stringOp .add (bsOf u1) ⟨#[41]⟩).run Tryz.prog W = .ok (.string (bsOf u2)) W := by
                rw [hu2]
                exact sadd (u1) ([41]) (by rw [← List.length_append, ← hu2]; omega)
              have HU1 := Lib.hid hu1
              have HU2 := Lib.hid hu2
              have HRU : Hid (RES = u2) := Lib.hid (by rw [HR2.out, HU2.out, HU1.out]; simp)
              clear hu1 lu1 hu2 lu2
              go_wp2_with fail
              refine HJ.out.mono ?_
              rintro e w7 ⟨rfl, hb7⟩
              go_wp2_with fail
              go_ret2
              rw [HRU.out, ← HQ.out]
              exact ⟨rfl, HB0.out.trans ((HB.out.trans (hb7.mono HB.out.size)).mono HB0.out.size)⟩
        · cases hfx2
end Go.Proofs.YtfmndmhjjbeokaaGreatDoor
