/- The document's Bytes of a configuration that is right: the walk. -/
import Derived.Test.YtebcfiifaclniaaGreatByb
import Derived.Test.YtebcfiifaclniaaGreatYl
import Derived.Lib.SlBytesConst
namespace Go.Proofs.YtebcfiifaclniaaGreat
set_option maxRecDepth 100000
open Go.RowKit Tab
set_option linter.unusedSimpArgs false
set_option linter.unusedVariables false

/-- A fold, step by step; how long its rows are. -/
theorem fold_fn {α : Type} (f : List UInt8 → α → List UInt8) (k : Nat) (L : List α) (h : ∀ x ∈ L, ∀ l, (f l x).length ≤ l.length + k) (l0 : List UInt8) :
    ∃ F : Nat → List UInt8, F 0 = l0 ∧ (∀ i x, L[i]? = some x → F (i + 1) = f (F i) x) ∧ F L.length = L.foldl f l0 ∧ ∀ i, i ≤ L.length → (F i).length ≤ l0.length + i * k := by
  refine ⟨fun i => (L.take i).foldl f l0, rfl, fun i x hx => ?_, by simp, fun i hi => ?_⟩
  · show (L.take (i + 1)).foldl f l0 = _
    rw [List.take_add_one, hx, Option.toList_some, List.foldl_append]
    rfl
  · have := foldl_few f k (L.take i) (fun x hx => h x (List.mem_of_mem_take hx)) l0
    rw [List.length_take, Nat.min_eq_left hi] at this
    exact this
theorem tabB_few {t : NdT} (hn : In64 (t.n : Int)) (h : ∀ z ∈ t.l, NdIn z) (l : List UInt8) : (tabB l t).length ≤ l.length + (9 + t.l.length * 27) := by
  have h1 := foldl_few nodeB 27 t.l (fun z hz l => nodeB_few (h z hz) l) (l ++ Num.enc t.n)
  have h2 := enc_few _ hn
  rw [List.length_append] at h1
  unfold tabB
  omega
/-- A row of bytes of the call's own. -/
def MdA (l : List UInt8) (w : World) (e : Ending) (w' : World) : Prop := ∃ A n c, e = .returned (.slice A n c) ∧ Own w' w.heap.size A n c l ∧ Below w.heap.size w w'
theorem seal_md (l : List UInt8) (v : Value) (w : World) (h : BtS l v w) (hn : l.length ≤ 140737488355000) : Calls Tryz.prog 26 #[v] w (MdA (Crc.seal4 l) w) := by
  obtain ⟨A, c, rfl, hr⟩ := h
  exact (rseal_any A l.length c l w hr hn).mono fun e w' ⟨A', c', he, ho, hb⟩ => ⟨A', _, c', he, ho, hb⟩
theorem healB_succ (l : List UInt8) (y : PtV) (k : Nat) : healB l y (k + 1) = healB l y k ++ Num.enc (hv5 y k) := by
  unfold healB
  rw [List.range_succ, List.foldl_append]
  rfl
set_option maxHeartbeats 4000000 in
theorem rbytes_any (x : Cf) (w : World) (hx : CfR w x) (hr : RiX x) (hs : SmX 16 x) : Calls Tryz.prog 7 #[cfv x] w (MdA (bytesB x) w) := by
  have HPP := Lib.hid hx.pp
  have HCC := Lib.hid hx.ch
  have HTB := Lib.hid hx.tb
  have hpi : ∀ (k : Nat) (y : Pq), x.P[k]? = some y → PartIn y ∧ RdB prc w w.heap.size y.1.pa y.1.pn y.2 := fun k y hy => by
    have hm := List.mem_of_getElem? hy
    exact ⟨PartIn.of hy (hr.pt k (List.getElem?_eq_some_iff.1 hy).1) (hx.pt y hm).1.procs.len, (hx.pt y hm).1.procs⟩
  have hci : ∀ (k : Nat) (y : ChV), x.C[k]? = some y → ChanIn y := fun k y hy => ChanIn.of hy (hr.ch k (List.getElem?_eq_some_iff.1 hy).1) hr.sz.2.1
  have hti : ∀ y ∈ x.T, RdN w w.heap.size y.A y.n y.l ∧ y.n ≤ 1040 := fun y hy => ⟨(hx.tt y hy).rd, by have := hs.nd y hy; omega⟩
  have l1 := hx.pp.len
  have l2 := hx.ch.len
  have l3 := hx.tb.len
  have z1 : x.n1 ≤ 6 := by rw [← l1]; exact hr.sz.2.1
  have z2 : x.n2 ≤ 8 := by rw [← l2]; exact hr.sz.2.2.1
  have z3 : x.n3 ≤ 3 := by rw [← l3]; exact hr.sz.2.2.2.2
  have en1 : (Num.enc (x.n1 : Int)).length ≤ 9 := enc_few _ (by unfold In64; omega)
  have en2 : (Num.enc (x.n2 : Int)).length ≤ 9 := enc_few _ (by unfold In64; omega)
  have en3 : (Num.enc (x.n3 : Int)).length ≤ 9 := enc_few _ (by unfold In64; omega)
  obtain ⟨PF, p0, ps, pe, pb⟩ := fold_fn partB 165 x.P (fun y hy l => by obtain ⟨k, hk⟩ := List.getElem?_of_mem hy; exact partB_few (hpi k y hk).1 l) (horaB ++ Num.enc (x.n1 : Int))
  rw [l1] at pe pb
  replace pb : ∀ i, i ≤ x.n1 → (PF i).length ≤ 1100 := fun i hi => by
    have := pb i hi
    rw [List.length_append, show horaB.length = 4 from rfl] at this
    omega
  obtain ⟨CF, c0, cs, ce, cb⟩ := fold_fn chanB 54 x.C (fun y hy l => by obtain ⟨k, hk⟩ := List.getElem?_of_mem hy; exact chanB_few (hci k y hk) l) (PF x.n1 ++ Num.enc (x.n2 : Int))
  rw [l2] at ce cb
  replace cb : ∀ i, i ≤ x.n2 → (CF i).length ≤ 2000 := fun i hi => by
    have h1 := cb i hi
    have h2 := pb x.n1 (Nat.le_refl _)
    rw [List.length_append] at h1
    omega
  obtain ⟨TF, t0, ts, te, tb⟩ := fold_fn tabB 28089 x.T (fun y hy l => by
    have h1 := hti y hy
    have h2 := tabB_few (t := y) (by unfold In64; omega) h1.1.bd l
    have h3 := h1.1.len
    have h4 := h1.2
    omega) (CF x.n2 ++ Num.enc (x.n3 : Int))
  rw [l3] at te tb
  replace tb : ∀ i, i ≤ x.n3 → (TF i).length ≤ 100000 := fun i hi => by
    have h1 := tb i hi
    have h2 := cb x.n2 (Nat.le_refl _)
    rw [List.length_append] at h1
    omega
  have hend : Crc.seal4 (TF x.n3) = bytesB x := by rw [te, ce, pe]; rfl
  have HPI := Lib.hid hpi
  have HCI := Lib.hid hci
  have HTI := Lib.hid hti
  have HP0 := Lib.hid p0
  have HPS := Lib.hid ps
  have HPB := Lib.hid pb
  have HC0 := Lib.hid c0
  have HCS := Lib.hid cs
  have HCB := Lib.hid cb
  have HT0 := Lib.hid t0
  have HTS := Lib.hid ts
  have HTLB := Lib.hid tb
  have HEN := Lib.hid (And.intro en1 (And.intro en2 en3))
  have HEND := Lib.hid hend
  generalize bytesB x = BB at HEND ⊢
  clear hpi hci hti p0 ps pe pb c0 cs ce cb t0 ts te tb hend en1 en2 en3 l1 l2 l3 hx hr hs
  obtain ⟨A1, A2, A3, n1, n2, n3, c1, c2, c3, P, C, T⟩ := x
  dsimp only [cfv] at HPP HCC HTB HPI HCI HTI HP0 HPS HPB HC0 HCS HCB HT0 HTS HTLB HEN HEND z1 z2 z3 ⊢
  have hb0 := bl1 w (.cells #[.slice A1 n1 c1, .slice A2 n2 c2, .slice A3 n3 c3] 27)
  have hbox := box_vec w (.slice A1 n1 c1) (.slice A2 n2 c2) (.slice A3 n3 c3) 27
  go_enter Tryz.func7, Tryz.ntmps7
  go_upto_region 1 with fail
  generalize w.alloc (.cells #[.slice A1 n1 c1, .slice A2 n2 c2, .slice A3 n3 c3] 27) = W0 at hb0 hbox ⊢
  have HBX := Lib.hid fun V (hv : Below W0.heap.size W0 V) => (hbox.on hv).three
  have HB0 := Lib.hid hb0
  have HW := Lib.hid fun V (hv : Below W0.heap.size W0 V) => hb0.trans (hv.mono hb0.size)
  obtain ⟨g0, hg0⟩ : ∃ g, g = w.heap.size := ⟨_, rfl⟩
  rw [← hg0] at HBX ⊢
  clear hg0 hbox hb0
  have hb1 := bl1 W0 (.cells #[.int .u8 72, .int .u8 79, .int .u8 82, .int .u8 65] 5 (4, 5))
  obtain ⟨m0, m1, m2⟩ := HBX.out _ hb1
  have HO1 := Lib.hid ((rd_mark W0 #[.int .u8 72, .int .u8 79, .int .u8 82, .int .u8 65] (4, 5) horaB 4 _ rfl rfl rfl).more (B' := (W0.alloc (.cells #[.int .u8 72, .int .u8 79, .int .u8 82, .int .u8 65] 5 (4, 5))).heap.size) (by simp))
  have HB1 := Lib.hid hb1
  have p1 : (convert 34 34 (.slice (some ⟨W0.heap.size, 0, none⟩) 4 4)).run Tryz.prog (W0.alloc (.cells #[.int .u8 72, .int .u8 79, .int .u8 82, .int .u8 65] 5)) = .ok (.slice (some ⟨W0.heap.size, 0, none⟩) 4 4) (W0.alloc (.cells #[.int .u8 72, .int .u8 79, .int .u8 82, .int .u8 65] 5 (4, 5))) := Lib.run_convert_bytes_const (P := Tryz.prog) W0 34 5 #[.int .u8 72, .int .u8 79, .int .u8 82, .int .u8 65] 4 4 Tryz.underlying34 Tryz.underlying5
  clear hb1
  go_wp2_with fail
  clear m0 m1 m2 p1
  generalize W0.alloc (.cells #[.int .u8 72, .int .u8 79, .int .u8 82, .int .u8 65] 5 (4, 5)) = W1 at HO1 HB1 ⊢
  refine (put_bt horaB _ (n1 : Int) W1 ⟨_, _, rfl, HO1.out⟩ (by decide) (by unfold In64; omega)).mono ?_
  rintro e w2 ⟨v2, rfl, hv2, hb2⟩
  rw [← HP0.out] at hv2
  have HV2 := Lib.hid hv2
  have HB2 := Lib.hid (HB1.out.trans (hb2.mono HB1.out.size))
  clear hv2 hb2 HO1 HB1 HP0
  obtain ⟨m0, m1, m2⟩ := HBX.out _ HB2.out
  go_wp2_with fail
  clear m0 m1 m2
  go_loopw [3, 5, 7, 9, 25] (fun q _ _ _ s wr => ∃ (i : Nat) (A : Option Addr) (n c : Nat), i ≤ n1 ∧ s = .int .i64 i ∧ q = .slice A n c ∧ BtS (PF i) (.slice A n c) wr ∧ Below W0.heap.size W0 wr) (fun _ _ _ _ s _ => n1 - (intOf s).toNat)
  case atStart =>
    obtain ⟨A, c, rfl, hr⟩ := HV2.out
    exact ⟨0, A, _, c, by omega, rfl, rfl, ⟨A, c, rfl, hr⟩, HB2.out⟩
  case round =>
    obtain ⟨i, A, na, ca, hi, rfl, rfl, hv, hb⟩ := hrel
    have HV := Lib.hid hv
    clear hv HV2 HB2
    by_cases hlt : i < n1
    · obtain ⟨ad, x, rfl, had, hx, d0, ck⟩ := (HPP.out.on (HW.out _ hb)).at_ pcq_len (by omega) hlt
      have hpi := HPI.out i x hx
      have hps := HPS.out i x hx
      have hpl := HPB.out i hi
      have d0 := d0 _ rfl
      have d1 := ck 1 _ (by omega) rfl
      have d2 := ck 2 _ (by omega) rfl
      have d3 := ck 3 _ (by omega) rfl
      have d4 := ck 4 _ (by omega) rfl
      have d5 := ck 5 _ (by omega) rfl
      have d6 := ck 6 _ (by omega) rfl
      have d7 := ck 7 _ (by omega) rfl
      have d8 := ck 8 _ (by omega) rfl
      have d9 := ck 9 _ (by omega) rfl
      have d10 := ck 10 _ (by omega) rfl
      have PI := Lib.hid hpi.1
      have PR := Lib.hid (hpi.2.on (HW.out _ hb))
      obtain ⟨LH, hLH⟩ : ∃ l, l = headB (PF i) x.1 := ⟨_, rfl⟩
      obtain ⟨LF, hLF⟩ : ∃ l, l = flagB LH x.1 := ⟨_, rfl⟩
      have nLH : LH.length ≤ 1139 := by have := headB_few hpi.1 (PF i); rw [hLH]; omega
      have nLF : LF.length ≤ 1166 := by have := flagB_few hpi.1 LH; rw [hLF]; omega
      obtain ⟨LQ, hLQ⟩ : ∃ l, l = x.2.foldl procB LF := ⟨_, rfl⟩
      have nLQ : LQ.length ≤ 1300 := by
        have h1 := foldl_few procB 18 x.2 (fun q hq l => procB_few (hpi.1.pr q hq) l) LF
        have h2 := hpi.1.len
        have h3 := hpi.1.few
        rw [hLQ]
        omega
      have PX : Hid (PF (i + 1) = healB LQ x.1 5) := Lib.hid (by rw [hps, hLQ, hLF, hLH]; rfl)
      have EH := Lib.hid hLH
      have EF := Lib.hid hLF
      have EQ := Lib.hid hLQ
      have BND := Lib.hid (And.intro hpl (And.intro nLH (And.intro nLF nLQ)))
      clear hpi hps hpl hLH hLF nLH nLF hLQ nLQ
      obtain ⟨⟨nm, bu, pe, sc, st, pa, pn, pc, h0, h1, h2, h3, h4⟩, L⟩ := x
      dsimp only at d0 d1 d2 d3 d4 d5 d6 d7 d8 d9 d10 PI PR EH EF EQ PX
      have NB : Hid (nm.data.toList.length ≤ 12 ∧ nm.size ≤ 12 ∧ (Num.enc (nm.size : Int)).length ≤ 9 ∧ (Num.enc bu).length ≤ 9 ∧ (Num.enc pe).length ≤ 9 ∧ pn ≤ 3) := Lib.hid (by
        have h2 : nm.size ≤ 12 := PI.out.name
        have h3 : nm.data.toList.length = nm.size := by rw [Array.length_toList]; rfl
        exact ⟨by omega, h2, enc_few _ (by unfold In64; omega), enc_few _ PI.out.bud, enc_few _ PI.out.per, PI.out.few⟩)
      have hbx := bl1 wr (.cells #[.string nm, .int .i64 bu, .int .i64 pe, .bool sc, .bool st, .slice pa pn pc, .int .i64 h0, .int .i64 h1, .int .i64 h2, .int .i64 h3, .int .i64 h4] 39)
      have hb5 := hb.trans (hbx.mono hb.size)
      have hv5 := HV.out.on hbx
      have f : ∀ o v, (#[Value.string nm, .int .i64 bu, .int .i64 pe, .bool sc, .bool st, .slice pa pn pc, .int .i64 h0, .int .i64 h1, .int .i64 h2, .int .i64 h3, .int .i64 h4] : Array Value)[o]? = some v → (wr.alloc (.cells #[.string nm, .int .i64 bu, .int .i64 pe, .bool sc, .bool st, .slice pa pn pc, .int .i64 h0, .int .i64 h1, .int .i64 h2, .int .i64 h3, .int .i64 h4] 39)).cell? ⟨wr.heap.size, o, none⟩ = some v := fun o v hv => (World.cell?_alloc_mark _ _ _ _ _).trans hv
      have hgx : wr.heap.size < (wr.alloc (.cells #[.string nm, .int .i64 bu, .int .i64 pe, .bool sc, .bool st, .slice pa pn pc, .int .i64 h0, .int .i64 h1, .int .i64 h2, .int .i64 h3, .int .i64 h4] 39)).heap.size := by simp
      have PR5 := Lib.hid (PR.out.on hbx)
      clear ck had hx hbx HV PR
      go_upto_region 5 with fail
      generalize wr.alloc (.cells #[.string nm, .int .i64 bu, .int .i64 pe, .bool sc, .bool st, .slice pa pn pc, .int .i64 h0, .int .i64 h1, .int .i64 h2, .int .i64 h3, .int .i64 h4] 39) = w5 at hb5 hv5 f hgx PR5 ⊢
      generalize wr.heap.size = gx at f hgx ⊢
      have HB5 := Lib.hid hb5
      have HV5 := Lib.hid hv5
      have GX := Lib.hid hgx
      have HF := Lib.hid fun V (hv : Below w5.heap.size w5 V) o v hq => (hv.cell (p := ⟨gx, o, none⟩) hgx).trans (f o v hq)
      clear hb5 hv5 hgx f d0 d1 d2 d3 d4 d5 d6 d7 d8 d9 d10 hb
      obtain ⟨W5, hW5⟩ : ∃ W, W = w5 := ⟨_, rfl⟩
      rw [← hW5] at HV5
      have HB5s := Lib.hid (hW5 ▸ Below.refl _ _ : Below w5.heap.size w5 W5)
      rw [← hW5]
      clear hW5
      refine Rgs.region (by kernel_rfl) (by kernel_rfl) (fun (opn : Nat) (vl : Value) (wv : World) => match opn with
          | 0 => BtS (PF i) vl wv
          | 1 => vl = .pointer (some ⟨gx, 0, none⟩)
          | 2 => vl = .string nm
          | 3 => BtS (PF i ++ Num.enc (nm.size : Int) ++ nm.data.toList) vl wv
          | 4 => vl = .pointer (some ⟨gx, 1, none⟩)
          | 5 => vl = .int .i64 bu
          | 6 => BtS (PF i ++ Num.enc (nm.size : Int) ++ nm.data.toList ++ Num.enc bu) vl wv
          | 7 => vl = .pointer (some ⟨gx, 2, none⟩)
          | 8 => vl = .int .i64 pe
          | 9 => BtS (PF i ++ Num.enc (nm.size : Int) ++ nm.data.toList ++ Num.enc bu ++ Num.enc pe) vl wv
          | 10 => BtS (PF i ++ Num.enc (nm.size : Int) ++ nm.data.toList ++ Num.enc bu ++ Num.enc pe) vl wv
          | _ => True) (ByW 10 W5 (.slice A na ca)) ⟨(Below.refl _ _).drew, fun _ => rfl⟩ (Rgs.steps_of ?_) ?_
      · refine ⟨?_, ?_, ?_, ?_, ?_, ?_, ?_, ?_, ?_, ?_, ?_, trivial⟩
        · intro a w1 live S E D C' h0 hk hW
          have l3 := Reg.not_live C' h0 (j := 3) rfl rfl
          have l6 := Reg.not_live C' l3 (j := 6) rfl rfl
          have l9 := Reg.not_live C' l6 (j := 9) rfl rfl
          have l10 := Reg.not_live C' l9 (j := 10) rfl rfl
          have e3 : a.eval (.tmp 3) = .slice A na ca := hW.t3 l10
          exact Rgs.val rfl (Reg.wanted_free rfl) (.slice A na ca) (by have c := Reg.consts a; generalize a.eval = ρ at *; simp [execOp, go_sem, c.1, c.2, e3]) (HV5.out.on hW.on) (hW.upd (Below.refl _ _) 0 29 _ (by decide) (by decide))
        · intro a w1 live S E D C' h0 hk hW
          have eb : a.eval (.tmp 5) = .pointer (some ⟨gx, 0, none⟩) := E 5 rfl
          exact Rgs.val rfl (Reg.wanted_free rfl) (.pointer (some ⟨gx, 0, none⟩)) (by have c := Reg.consts a; generalize a.eval = ρ at *; simp [execOp, go_sem, c.1, c.2, eb]) rfl (hW.upd (Below.refl _ _) 1 30 _ (by decide) (by decide))
        · intro a w1 live S E D C' h0 hk hW
          have d0 : a.eval (.tmp 30) = .pointer (some ⟨gx, 0, none⟩) := D 1 rfl _ _ rfl rfl
          have hc := (hW.on.cell (p := ⟨gx, 0, none⟩) (Nat.lt_of_lt_of_le GX.out HB5s.out.size)).trans ((HF.out W5 HB5s.out 0 _ rfl))
          exact Rgs.val rfl (Reg.wanted_free rfl) (.string nm) (by have c := Reg.consts a; generalize a.eval = ρ at *; simp [execOp, go_sem, c.1, c.2, d0, hc]) rfl (hW.upd (Below.refl _ _) 2 31 _ (by decide) (by decide))
        · intro a w1 live S E D C' h0 hk hW
          have hA : BtS (PF i) (a.eval (.tmp 29)) w1 := D 0 rfl _ _ rfl rfl
          have dB : a.eval (.tmp 31) = .string nm := D 2 rfl _ _ rfl rfl
          generalize hv : a.eval (.tmp 29) = vA at hA
          refine Rgs.call rfl (Reg.wanted_free rfl) 24 #[vA, .string nm] (by have c := Reg.consts a; generalize a.eval = ρ at *; simp [execOp, go_sem, c.1, c.2, hv, dB]) ?_
          refine (text_bt (PF i) vA nm w1 hA (by have h1 := BND.out; have h2 := NB.out; (try simp only [List.length_append]); omega)).mono ?_
          rintro e w5 ⟨v5, rfl, hB, hb5⟩
          exact ⟨_, rfl, hB, (hW.upd hb5 3 32 _ (by decide) (by decide)), fun jq vq _ hq => by
            revert hq
            match jq with
            | 0 => exact fun hq => hq.on hb5
            | 3 => exact fun hq => hq.on hb5
            | 6 => exact fun hq => hq.on hb5
            | 9 => exact fun hq => hq.on hb5
            | 10 => exact fun hq => hq.on hb5
            | 1 | 2 | 4 | 5 | 7 | 8 | _ + 11 => exact fun hq => hq⟩
        · intro a w1 live S E D C' h0 hk hW
          have eb : a.eval (.tmp 5) = .pointer (some ⟨gx, 0, none⟩) := E 5 rfl
          exact Rgs.val rfl (Reg.wanted_free rfl) (.pointer (some ⟨gx, 1, none⟩)) (by have c := Reg.consts a; generalize a.eval = ρ at *; simp [execOp, go_sem, c.1, c.2, eb]) rfl (hW.upd (Below.refl _ _) 4 33 _ (by decide) (by decide))
        · intro a w1 live S E D C' h0 hk hW
          have d0 : a.eval (.tmp 33) = .pointer (some ⟨gx, 1, none⟩) := D 4 rfl _ _ rfl rfl
          have hc := (hW.on.cell (p := ⟨gx, 1, none⟩) (Nat.lt_of_lt_of_le GX.out HB5s.out.size)).trans ((HF.out W5 HB5s.out 1 _ rfl))
          exact Rgs.val rfl (Reg.wanted_free rfl) (.int .i64 bu) (by have c := Reg.consts a; generalize a.eval = ρ at *; simp [execOp, go_sem, c.1, c.2, d0, hc]) rfl (hW.upd (Below.refl _ _) 5 34 _ (by decide) (by decide))
        · intro a w1 live S E D C' h0 hk hW
          have hA : BtS (PF i ++ Num.enc (nm.size : Int) ++ nm.data.toList) (a.eval (.tmp 32)) w1 := D 3 rfl _ _ rfl rfl
          have dB : a.eval (.tmp 34) = .int .i64 bu := D 5 rfl _ _ rfl rfl
          generalize hv : a.eval (.tmp 32) = vA at hA
          refine Rgs.call rfl (Reg.wanted_free rfl) 23 #[vA, .int .i64 bu] (by have c := Reg.consts a; generalize a.eval = ρ at *; simp [execOp, go_sem, c.1, c.2, hv, dB]) ?_
          refine (put_bt (PF i ++ Num.enc (nm.size : Int) ++ nm.data.toList) vA bu w1 hA (by have h1 := BND.out; have h2 := NB.out; (try simp only [List.length_append]); omega) (PI.out.bud)).mono ?_
          rintro e w5 ⟨v5, rfl, hB, hb5⟩
          exact ⟨_, rfl, hB, (hW.upd hb5 6 35 _ (by decide) (by decide)), fun jq vq _ hq => by
            revert hq
            match jq with
            | 0 => exact fun hq => hq.on hb5
            | 3 => exact fun hq => hq.on hb5
            | 6 => exact fun hq => hq.on hb5
            | 9 => exact fun hq => hq.on hb5
            | 10 => exact fun hq => hq.on hb5
            | 1 | 2 | 4 | 5 | 7 | 8 | _ + 11 => exact fun hq => hq⟩
        · intro a w1 live S E D C' h0 hk hW
          have eb : a.eval (.tmp 5) = .pointer (some ⟨gx, 0, none⟩) := E 5 rfl
          exact Rgs.val rfl (Reg.wanted_free rfl) (.pointer (some ⟨gx, 2, none⟩)) (by have c := Reg.consts a; generalize a.eval = ρ at *; simp [execOp, go_sem, c.1, c.2, eb]) rfl (hW.upd (Below.refl _ _) 7 36 _ (by decide) (by decide))
        · intro a w1 live S E D C' h0 hk hW
          have d0 : a.eval (.tmp 36) = .pointer (some ⟨gx, 2, none⟩) := D 7 rfl _ _ rfl rfl
          have hc := (hW.on.cell (p := ⟨gx, 2, none⟩) (Nat.lt_of_lt_of_le GX.out HB5s.out.size)).trans ((HF.out W5 HB5s.out 2 _ rfl))
          exact Rgs.val rfl (Reg.wanted_free rfl) (.int .i64 pe) (by have c := Reg.consts a; generalize a.eval = ρ at *; simp [execOp, go_sem, c.1, c.2, d0, hc]) rfl (hW.upd (Below.refl _ _) 8 37 _ (by decide) (by decide))
        · intro a w1 live S E D C' h0 hk hW
          have hA : BtS (PF i ++ Num.enc (nm.size : Int) ++ nm.data.toList ++ Num.enc bu) (a.eval (.tmp 35)) w1 := D 6 rfl _ _ rfl rfl
          have dB : a.eval (.tmp 37) = .int .i64 pe := D 8 rfl _ _ rfl rfl
          generalize hv : a.eval (.tmp 35) = vA at hA
          refine Rgs.call rfl (Reg.wanted_free rfl) 23 #[vA, .int .i64 pe] (by have c := Reg.consts a; generalize a.eval = ρ at *; simp [execOp, go_sem, c.1, c.2, hv, dB]) ?_
          refine (put_bt (PF i ++ Num.enc (nm.size : Int) ++ nm.data.toList ++ Num.enc bu) vA pe w1 hA (by have h1 := BND.out; have h2 := NB.out; (try simp only [List.length_append]); omega) (PI.out.per)).mono ?_
          rintro e w5 ⟨v5, rfl, hB, hb5⟩
          exact ⟨_, rfl, hB, (hW.upd hb5 9 38 _ (by decide) (by decide)), fun jq vq _ hq => by
            revert hq
            match jq with
            | 0 => exact fun hq => hq.on hb5
            | 3 => exact fun hq => hq.on hb5
            | 6 => exact fun hq => hq.on hb5
            | 9 => exact fun hq => hq.on hb5
            | 10 => exact fun hq => hq.on hb5
            | 1 | 2 | 4 | 5 | 7 | 8 | _ + 11 => exact fun hq => hq⟩
        · intro a w1 live S E D C' h0 hk hW
          have hA : BtS (PF i ++ Num.enc (nm.size : Int) ++ nm.data.toList ++ Num.enc bu ++ Num.enc pe) (a.eval (.tmp 38)) w1 := D 9 rfl _ _ rfl rfl
          generalize hv : a.eval (.tmp 38) = vA at hA
          exact Rgs.val rfl (Reg.wanted_free rfl) vA (by have c := Reg.consts a; generalize a.eval = ρ at *; simp [execOp, go_sem, c.1, c.2, hv]) hA ⟨hW.on, fun e => absurd e (by rw [Rgs.upd_self]; decide)⟩
      intro a w6 live hs hd E Dv Hl hW
      obtain ⟨v6, hv9, he9⟩ := Dv 10 _ rfl
      have e3 : a.eval (.tmp 3) = v6 := he9 3 rfl
      rw [Rgs.act_ws a _ _ hs hd E [29, 30, 31, 32, 33, 34, 35, 36, 37, 38, 3] (by kernel_rfl)]
      simp only [List.foldl, List.setIfInBounds_toArray, List.set_cons_succ, List.set_cons_zero, e3]
      have HV6 : Hid (BtS (LH) v6 w6) := Lib.hid (by rw [EH.out]; exact hv9)
      have HX6 := Lib.hid hW.on
      clear E Dv Hl hW e3 he9 hv9
      generalize a.eval = ρ6
      clear a hs hd
      have HB6 := Lib.hid (HB5s.out.trans (HX6.out.mono HB5s.out.size))
      clear HB5s HX6 HV5 EH
      go_upto_region 6 with fail
      refine Rgs.region (by kernel_rfl) (by kernel_rfl) (fun (opn : Nat) (vl : Value) (wv : World) => match opn with
          | 0 => BtS (LH) vl wv
          | 1 => vl = .pointer (some ⟨gx, 3, none⟩)
          | 2 => vl = .bool sc
          | 3 => BtS (LH ++ Num.enc (fl sc)) vl wv
          | 4 => vl = .pointer (some ⟨gx, 4, none⟩)
          | 5 => vl = .bool st
          | 6 => BtS (LH ++ Num.enc (fl sc) ++ Num.enc (fl st)) vl wv
          | 7 => vl = .pointer (some ⟨gx, 5, none⟩)
          | 8 => vl = .slice pa pn pc
          | 9 => vl = .int .i64 (pn : Int)
          | 10 => BtS (LH ++ Num.enc (fl sc) ++ Num.enc (fl st) ++ Num.enc (pn : Int)) vl wv
          | 11 => BtS (LH ++ Num.enc (fl sc) ++ Num.enc (fl st) ++ Num.enc (pn : Int)) vl wv
          | _ => True) (ByW 11 w6 (v6)) ⟨(Below.refl _ _).drew, fun _ => rfl⟩ (Rgs.steps_of ?_) ?_
      · refine ⟨?_, ?_, ?_, ?_, ?_, ?_, ?_, ?_, ?_, ?_, ?_, ?_, trivial⟩
        · intro a w1 live S E D C' h0 hk hW
          have l3 := Reg.not_live C' h0 (j := 3) rfl rfl
          have l6 := Reg.not_live C' l3 (j := 6) rfl rfl
          have l10 := Reg.not_live C' l6 (j := 10) rfl rfl
          have l11 := Reg.not_live C' l10 (j := 11) rfl rfl
          have e3 : a.eval (.tmp 3) = v6 := hW.t3 l11
          exact Rgs.val rfl (Reg.wanted_free rfl) (v6) (by have c := Reg.consts a; generalize a.eval = ρ at *; simp [execOp, go_sem, c.1, c.2, e3]) (HV6.out.on hW.on) (hW.upd (Below.refl _ _) 0 39 _ (by decide) (by decide))
        · intro a w1 live S E D C' h0 hk hW
          have eb : a.eval (.tmp 5) = .pointer (some ⟨gx, 0, none⟩) := E 5 rfl
          exact Rgs.val rfl (Reg.wanted_free rfl) (.pointer (some ⟨gx, 3, none⟩)) (by have c := Reg.consts a; generalize a.eval = ρ at *; simp [execOp, go_sem, c.1, c.2, eb]) rfl (hW.upd (Below.refl _ _) 1 40 _ (by decide) (by decide))
        · intro a w1 live S E D C' h0 hk hW
          have d0 : a.eval (.tmp 40) = .pointer (some ⟨gx, 3, none⟩) := D 1 rfl _ _ rfl rfl
          have hc := (hW.on.cell (p := ⟨gx, 3, none⟩) (Nat.lt_of_lt_of_le GX.out HB6.out.size)).trans ((HF.out w6 HB6.out 3 _ rfl))
          exact Rgs.val rfl (Reg.wanted_free rfl) (.bool sc) (by have c := Reg.consts a; generalize a.eval = ρ at *; simp [execOp, go_sem, c.1, c.2, d0, hc]) rfl (hW.upd (Below.refl _ _) 2 41 _ (by decide) (by decide))
        · intro a w1 live S E D C' h0 hk hW
          have hA : BtS (LH) (a.eval (.tmp 39)) w1 := D 0 rfl _ _ rfl rfl
          have dB : a.eval (.tmp 41) = .bool sc := D 2 rfl _ _ rfl rfl
          generalize hv : a.eval (.tmp 39) = vA at hA
          refine Rgs.call rfl (Reg.wanted_free rfl) 25 #[vA, .bool sc] (by have c := Reg.consts a; generalize a.eval = ρ at *; simp [execOp, go_sem, c.1, c.2, hv, dB]) ?_
          refine (flag_bt (LH) vA sc w1 hA (by have h1 := BND.out; have h4 := enc_few _ (fl_in sc); have h5 := enc_few _ (fl_in st); (try simp only [List.length_append]); omega)).mono ?_
          rintro e w5 ⟨v5, rfl, hB, hb5⟩
          exact ⟨_, rfl, hB, (hW.upd hb5 3 42 _ (by decide) (by decide)), fun jq vq _ hq => by
            revert hq
            match jq with
            | 0 => exact fun hq => hq.on hb5
            | 3 => exact fun hq => hq.on hb5
            | 6 => exact fun hq => hq.on hb5
            | 10 => exact fun hq => hq.on hb5
            | 11 => exact fun hq => hq.on hb5
            | 1 | 2 | 4 | 5 | 7 | 8 | 9 | _ + 12 => exact fun hq => hq⟩
        · intro a w1 live S E D C' h0 hk hW
          have eb : a.eval (.tmp 5) = .pointer (some ⟨gx, 0, none⟩) := E 5 rfl
          exact Rgs.val rfl (Reg.wanted_free rfl) (.pointer (some ⟨gx, 4, none⟩)) (by have c := Reg.consts a; generalize a.eval = ρ at *; simp [execOp, go_sem, c.1, c.2, eb]) rfl (hW.upd (Below.refl _ _) 4 43 _ (by decide) (by decide))
        · intro a w1 live S E D C' h0 hk hW
          have d0 : a.eval (.tmp 43) = .pointer (some ⟨gx, 4, none⟩) := D 4 rfl _ _ rfl rfl
          have hc := (hW.on.cell (p := ⟨gx, 4, none⟩) (Nat.lt_of_lt_of_le GX.out HB6.out.size)).trans ((HF.out w6 HB6.out 4 _ rfl))
          exact Rgs.val rfl (Reg.wanted_free rfl) (.bool st) (by have c := Reg.consts a; generalize a.eval = ρ at *; simp [execOp, go_sem, c.1, c.2, d0, hc]) rfl (hW.upd (Below.refl _ _) 5 44 _ (by decide) (by decide))
        · intro a w1 live S E D C' h0 hk hW
          have hA : BtS (LH ++ Num.enc (fl sc)) (a.eval (.tmp 42)) w1 := D 3 rfl _ _ rfl rfl
          have dB : a.eval (.tmp 44) = .bool st := D 5 rfl _ _ rfl rfl
          generalize hv : a.eval (.tmp 42) = vA at hA
          refine Rgs.call rfl (Reg.wanted_free rfl) 25 #[vA, .bool st] (by have c := Reg.consts a; generalize a.eval = ρ at *; simp [execOp, go_sem, c.1, c.2, hv, dB]) ?_
          refine (flag_bt (LH ++ Num.enc (fl sc)) vA st w1 hA (by have h1 := BND.out; have h4 := enc_few _ (fl_in sc); have h5 := enc_few _ (fl_in st); (try simp only [List.length_append]); omega)).mono ?_
          rintro e w5 ⟨v5, rfl, hB, hb5⟩
          exact ⟨_, rfl, hB, (hW.upd hb5 6 45 _ (by decide) (by decide)), fun jq vq _ hq => by
            revert hq
            match jq with
            | 0 => exact fun hq => hq.on hb5
            | 3 => exact fun hq => hq.on hb5
            | 6 => exact fun hq => hq.on hb5
            | 10 => exact fun hq => hq.on hb5
            | 11 => exact fun hq => hq.on hb5
            | 1 | 2 | 4 | 5 | 7 | 8 | 9 | _ + 12 => exact fun hq => hq⟩
        · intro a w1 live S E D C' h0 hk hW
          have eb : a.eval (.tmp 5) = .pointer (some ⟨gx, 0, none⟩) := E 5 rfl
          exact Rgs.val rfl (Reg.wanted_free rfl) (.pointer (some ⟨gx, 5, none⟩)) (by have c := Reg.consts a; generalize a.eval = ρ at *; simp [execOp, go_sem, c.1, c.2, eb]) rfl (hW.upd (Below.refl _ _) 7 46 _ (by decide) (by decide))
        · intro a w1 live S E D C' h0 hk hW
          have d0 : a.eval (.tmp 46) = .pointer (some ⟨gx, 5, none⟩) := D 7 rfl _ _ rfl rfl
          have hc := (hW.on.cell (p := ⟨gx, 5, none⟩) (Nat.lt_of_lt_of_le GX.out HB6.out.size)).trans ((HF.out w6 HB6.out 5 _ rfl))
          exact Rgs.val rfl (Reg.wanted_free rfl) (.slice pa pn pc) (by have c := Reg.consts a; generalize a.eval = ρ at *; simp [execOp, go_sem, c.1, c.2, d0, hc]) rfl (hW.upd (Below.refl _ _) 8 47 _ (by decide) (by decide))
        · intro a w1 live S E D C' h0 hk hW
          have d0 : a.eval (.tmp 47) = .slice pa pn pc := D 8 rfl _ _ rfl rfl
          exact Rgs.val rfl (Reg.wanted_free rfl) (.int .i64 (pn : Int)) (by have c := Reg.consts a; generalize a.eval = ρ at *; simp [execOp, go_sem, c.1, c.2, d0]) rfl (hW.upd (Below.refl _ _) 9 48 _ (by decide) (by decide))
        · intro a w1 live S E D C' h0 hk hW
          have hA : BtS (LH ++ Num.enc (fl sc) ++ Num.enc (fl st)) (a.eval (.tmp 45)) w1 := D 6 rfl _ _ rfl rfl
          have dB : a.eval (.tmp 48) = .int .i64 (pn : Int) := D 9 rfl _ _ rfl rfl
          generalize hv : a.eval (.tmp 45) = vA at hA
          refine Rgs.call rfl (Reg.wanted_free rfl) 23 #[vA, .int .i64 (pn : Int)] (by have c := Reg.consts a; generalize a.eval = ρ at *; simp [execOp, go_sem, c.1, c.2, hv, dB]) ?_
          refine (put_bt (LH ++ Num.enc (fl sc) ++ Num.enc (fl st)) vA (pn : Int) w1 hA (by have h1 := BND.out; have h4 := enc_few _ (fl_in sc); have h5 := enc_few _ (fl_in st); (try simp only [List.length_append]); omega) (by have := NB.out; unfold In64; omega)).mono ?_
          rintro e w5 ⟨v5, rfl, hB, hb5⟩
          exact ⟨_, rfl, hB, (hW.upd hb5 10 49 _ (by decide) (by decide)), fun jq vq _ hq => by
            revert hq
            match jq with
            | 0 => exact fun hq => hq.on hb5
            | 3 => exact fun hq => hq.on hb5
            | 6 => exact fun hq => hq.on hb5
            | 10 => exact fun hq => hq.on hb5
            | 11 => exact fun hq => hq.on hb5
            | 1 | 2 | 4 | 5 | 7 | 8 | 9 | _ + 12 => exact fun hq => hq⟩
        · intro a w1 live S E D C' h0 hk hW
          have hA : BtS (LH ++ Num.enc (fl sc) ++ Num.enc (fl st) ++ Num.enc (pn : Int)) (a.eval (.tmp 49)) w1 := D 10 rfl _ _ rfl rfl
          generalize hv : a.eval (.tmp 49) = vA at hA
          exact Rgs.val rfl (Reg.wanted_free rfl) vA (by have c := Reg.consts a; generalize a.eval = ρ at *; simp [execOp, go_sem, c.1, c.2, hv]) hA ⟨hW.on, fun e => absurd e (by rw [Rgs.upd_self]; decide)⟩
      intro a w7 live hs hd E Dv Hl hW
      obtain ⟨v7, hv9, he9⟩ := Dv 11 _ rfl
      have e3 : a.eval (.tmp 3) = v7 := he9 3 rfl
      rw [Rgs.act_ws a _ _ hs hd E [39, 40, 41, 42, 43, 44, 45, 46, 47, 48, 49, 3] (by kernel_rfl)]
      simp only [List.foldl, List.setIfInBounds_toArray, List.set_cons_succ, List.set_cons_zero, e3]
      have HV7 : Hid (BtS (LF) v7 w7) := Lib.hid (by rw [EF.out]; exact hv9)
      have HX7 := Lib.hid hW.on
      clear E Dv Hl hW e3 he9 hv9
      generalize a.eval = ρ7
      clear a hs hd
      have HB7 := Lib.hid (HB6.out.trans (HX7.out.mono HB6.out.size))
      clear HB6 HX7 HV6 EF
      -- processes
      obtain ⟨QF, q0, qs, qe, qb⟩ := fold_fn procB 18 L (fun q hq l => procB_few (PI.out.pr q hq) l) LF
      have hll : L.length = pn := PI.out.len
      have hpn : pn ≤ 3 := PI.out.few
      rw [hll] at qe qb
      have HQ0 := Lib.hid q0
      have HQS := Lib.hid qs
      have HQE := Lib.hid (qe.trans EQ.out.symm)
      have HQB : Hid (∀ j, j ≤ pn → (QF j).length ≤ 1300) := Lib.hid fun j hj => by have h1 := qb j hj; have h2 := BND.out.2.2.1; omega
      clear q0 qs qe qb hll EQ
      have f5 := HF.out w7 HB7.out 5 _ rfl
      go_wp2_with fail
      clear f5
      go_loopw [3, 7, 53] (fun q _ s wx => ∃ (j : Nat) (A : Option Addr) (n c : Nat), j ≤ pn ∧ s = .int .i64 j ∧ q = .slice A n c ∧ BtS (QF j) (.slice A n c) wx ∧ Below w5.heap.size w5 wx) (fun _ _ s _ => pn - (intOf s).toNat)
      case atStart =>
        obtain ⟨A, c, rfl, hr⟩ := HV7.out
        exact ⟨0, A, _, c, by omega, rfl, rfl, by rw [HQ0.out]; exact ⟨A, c, rfl, hr⟩, HB7.out⟩
      case round =>
        obtain ⟨j, A, na, ca, hj, rfl, rfl, hv, hb⟩ := hrel
        have HV := Lib.hid hv
        clear hv HV7
        by_cases hlj : j < pn
        · obtain ⟨ap, q, rfl, hap, hq, e0, ek⟩ := (PR5.out.on hb).at_ prc_len (by omega) hlj
          have e0 := e0 _ rfl
          have e1 := ek 1 _ (by omega) rfl
          have QI := Lib.hid (PI.out.pr q (List.mem_of_getElem? hq))
          have EQ := Lib.hid (HQS.out j q hq)
          have QB := Lib.hid (HQB.out j hj)
          obtain ⟨qe, qp⟩ := q
          dsimp only at e0 e1 QI EQ
          have hbx := bl1 wr (.cells #[.int .i64 qe, .int .i64 qp] 41)
          have hby := hb.trans (hbx.mono hb.size)
          have hvy := HV.out.on hbx
          have f : ∀ o v, (#[Value.int .i64 qe, .int .i64 qp] : Array Value)[o]? = some v → (wr.alloc (.cells #[.int .i64 qe, .int .i64 qp] 41)).cell? ⟨wr.heap.size, o, none⟩ = some v := fun o v hv => (World.cell?_alloc_mark _ _ _ _ _).trans hv
          have hgy : wr.heap.size < (wr.alloc (.cells #[.int .i64 qe, .int .i64 qp] 41)).heap.size := by simp
          clear ek hap hq hbx HV
          go_upto_region 10 with fail
          generalize wr.alloc (.cells #[.int .i64 qe, .int .i64 qp] 41) = w8 at hby hvy f hgy ⊢
          generalize wr.heap.size = gy at f hgy ⊢
          have HV8 := Lib.hid hvy
          have HB8 := Lib.hid hby
          have GY := Lib.hid hgy
          have HFY := Lib.hid f
          clear hby hvy hgy f e0 e1 hb
          refine Rgs.region (by kernel_rfl) (by kernel_rfl) (fun (opn : Nat) (vl : Value) (wv : World) => match opn with
              | 0 => BtS (QF j) vl wv
              | 1 => vl = .pointer (some ⟨gy, 0, none⟩)
              | 2 => vl = .int .i64 qe
              | 3 => BtS (QF j ++ Num.enc qe) vl wv
              | 4 => vl = .pointer (some ⟨gy, 1, none⟩)
              | 5 => vl = .int .i64 qp
              | 6 => BtS (QF j ++ Num.enc qe ++ Num.enc qp) vl wv
              | 7 => BtS (QF j ++ Num.enc qe ++ Num.enc qp) vl wv
              | _ => True) (ByW 7 w8 (.slice A na ca)) ⟨(Below.refl _ _).drew, fun _ => rfl⟩ (Rgs.steps_of ?_) ?_
          · refine ⟨?_, ?_, ?_, ?_, ?_, ?_, ?_, ?_, trivial⟩
            · intro a w1 live S E D C' h0 hk hW
              have l3 := Reg.not_live C' h0 (j := 3) rfl rfl
              have l6 := Reg.not_live C' l3 (j := 6) rfl rfl
              have l7 := Reg.not_live C' l6 (j := 7) rfl rfl
              have e3 : a.eval (.tmp 3) = .slice A na ca := hW.t3 l7
              exact Rgs.val rfl (Reg.wanted_free rfl) (.slice A na ca) (by have c := Reg.consts a; generalize a.eval = ρ at *; simp [execOp, go_sem, c.1, c.2, e3]) (HV8.out.on hW.on) (hW.upd (Below.refl _ _) 0 57 _ (by decide) (by decide))
            · intro a w1 live S E D C' h0 hk hW
              have eb : a.eval (.tmp 7) = .pointer (some ⟨gy, 0, none⟩) := E 7 rfl
              exact Rgs.val rfl (Reg.wanted_free rfl) (.pointer (some ⟨gy, 0, none⟩)) (by have c := Reg.consts a; generalize a.eval = ρ at *; simp [execOp, go_sem, c.1, c.2, eb]) rfl (hW.upd (Below.refl _ _) 1 58 _ (by decide) (by decide))
            · intro a w1 live S E D C' h0 hk hW
              have d0 : a.eval (.tmp 58) = .pointer (some ⟨gy, 0, none⟩) := D 1 rfl _ _ rfl rfl
              have hc := (hW.on.cell (p := ⟨gy, 0, none⟩) (GY.out)).trans ((HFY.out 0 _ rfl))
              exact Rgs.val rfl (Reg.wanted_free rfl) (.int .i64 qe) (by have c := Reg.consts a; generalize a.eval = ρ at *; simp [execOp, go_sem, c.1, c.2, d0, hc]) rfl (hW.upd (Below.refl _ _) 2 59 _ (by decide) (by decide))
            · intro a w1 live S E D C' h0 hk hW
              have hA : BtS (QF j) (a.eval (.tmp 57)) w1 := D 0 rfl _ _ rfl rfl
              have dB : a.eval (.tmp 59) = .int .i64 qe := D 2 rfl _ _ rfl rfl
              generalize hv : a.eval (.tmp 57) = vA at hA
              refine Rgs.call rfl (Reg.wanted_free rfl) 23 #[vA, .int .i64 qe] (by have c := Reg.consts a; generalize a.eval = ρ at *; simp [execOp, go_sem, c.1, c.2, hv, dB]) ?_
              refine (put_bt (QF j) vA qe w1 hA (by have h1 := QB.out; have h2 := enc_few _ QI.out.1; (try simp only [List.length_append]); omega) (QI.out.1)).mono ?_
              rintro e w5 ⟨v5, rfl, hB, hb5⟩
              exact ⟨_, rfl, hB, (hW.upd hb5 3 60 _ (by decide) (by decide)), fun jq vq _ hq => by
                revert hq
                match jq with
                | 0 => exact fun hq => hq.on hb5
                | 3 => exact fun hq => hq.on hb5
                | 6 => exact fun hq => hq.on hb5
                | 7 => exact fun hq => hq.on hb5
                | 1 | 2 | 4 | 5 | _ + 8 => exact fun hq => hq⟩
            · intro a w1 live S E D C' h0 hk hW
              have eb : a.eval (.tmp 7) = .pointer (some ⟨gy, 0, none⟩) := E 7 rfl
              exact Rgs.val rfl (Reg.wanted_free rfl) (.pointer (some ⟨gy, 1, none⟩)) (by have c := Reg.consts a; generalize a.eval = ρ at *; simp [execOp, go_sem, c.1, c.2, eb]) rfl (hW.upd (Below.refl _ _) 4 61 _ (by decide) (by decide))
            · intro a w1 live S E D C' h0 hk hW
              have d0 : a.eval (.tmp 61) = .pointer (some ⟨gy, 1, none⟩) := D 4 rfl _ _ rfl rfl
              have hc := (hW.on.cell (p := ⟨gy, 1, none⟩) (GY.out)).trans ((HFY.out 1 _ rfl))
              exact Rgs.val rfl (Reg.wanted_free rfl) (.int .i64 qp) (by have c := Reg.consts a; generalize a.eval = ρ at *; simp [execOp, go_sem, c.1, c.2, d0, hc]) rfl (hW.upd (Below.refl _ _) 5 62 _ (by decide) (by decide))
            · intro a w1 live S E D C' h0 hk hW
              have hA : BtS (QF j ++ Num.enc qe) (a.eval (.tmp 60)) w1 := D 3 rfl _ _ rfl rfl
              have dB : a.eval (.tmp 62) = .int .i64 qp := D 5 rfl _ _ rfl rfl
              generalize hv : a.eval (.tmp 60) = vA at hA
              refine Rgs.call rfl (Reg.wanted_free rfl) 23 #[vA, .int .i64 qp] (by have c := Reg.consts a; generalize a.eval = ρ at *; simp [execOp, go_sem, c.1, c.2, hv, dB]) ?_
              refine (put_bt (QF j ++ Num.enc qe) vA qp w1 hA (by have h1 := QB.out; have h2 := enc_few _ QI.out.1; (try simp only [List.length_append]); omega) (QI.out.2)).mono ?_
              rintro e w5 ⟨v5, rfl, hB, hb5⟩
              exact ⟨_, rfl, hB, (hW.upd hb5 6 63 _ (by decide) (by decide)), fun jq vq _ hq => by
                revert hq
                match jq with
                | 0 => exact fun hq => hq.on hb5
                | 3 => exact fun hq => hq.on hb5
                | 6 => exact fun hq => hq.on hb5
                | 7 => exact fun hq => hq.on hb5
                | 1 | 2 | 4 | 5 | _ + 8 => exact fun hq => hq⟩
            · intro a w1 live S E D C' h0 hk hW
              have hA : BtS (QF j ++ Num.enc qe ++ Num.enc qp) (a.eval (.tmp 63)) w1 := D 6 rfl _ _ rfl rfl
              generalize hv : a.eval (.tmp 63) = vA at hA
              exact Rgs.val rfl (Reg.wanted_free rfl) vA (by have c := Reg.consts a; generalize a.eval = ρ at *; simp [execOp, go_sem, c.1, c.2, hv]) hA ⟨hW.on, fun e => absurd e (by rw [Rgs.upd_self]; decide)⟩
          intro a w9 live hs hd E Dv Hl hW
          obtain ⟨v9, hv9, he9⟩ := Dv 7 _ rfl
          have e3 : a.eval (.tmp 3) = v9 := he9 3 rfl
          rw [Rgs.act_ws a _ _ hs hd E [57, 58, 59, 60, 61, 62, 63, 3] (by kernel_rfl)]
          simp only [List.foldl, List.setIfInBounds_toArray, List.set_cons_succ, List.set_cons_zero, e3]
          have HV9 : Hid (BtS (QF (j + 1)) v9 w9) := Lib.hid (by rw [EQ.out]; exact hv9)
          have HX9 := Lib.hid hW.on
          clear E Dv Hl hW e3 he9 hv9
          generalize a.eval = ρ9
          clear a hs hd
          have HB9 := Lib.hid (HB8.out.trans (HX9.out.mono HB8.out.size))
          obtain ⟨A9, c9, rfl, hr9⟩ := HV9.out
          have HR9 := Lib.hid hr9
          clear HX9 HV8 HV9 hr9 HB8 EQ QI QB HFY GY
          go_wp2_with fail
          go_roundw
          case rel => exact ⟨j + 1, A9, _, c9, by omega, by go_num, rfl, ⟨A9, c9, rfl, HR9.out⟩, HB9.out⟩
          case measure => simp [intOf]; omega
        · have hlj' : ¬ (j : Int) < (pn : Int) := by omega
          have HV8 : Hid (BtS LQ (.slice A na ca) wr) := Lib.hid (by
            have h := HV.out
            rw [show j = pn by omega, HQE.out] at h
            exact h)
          have f6 := HF.out wr hb 6 _ rfl
          have f7 := HF.out wr hb 7 _ rfl
          have f8 := HF.out wr hb 8 _ rfl
          have f9 := HF.out wr hb 9 _ rfl
          have f10 := HF.out wr hb 10 _ rfl
          have HB8 := Lib.hid hb
          clear HV HQ0 HQS HQE HQB
          go_wp2_with fail
          clear f6 f7 f8 f9 f10 hb
          have hz : ∀ k : Nat, k < 5 → ∀ W, (Instr.index 37 (.agg #[Value.int .i64 h0, .int .i64 h1, .int .i64 h2, .int .i64 h3, .int .i64 h4]) (.int .i64 (k : Int))).run Tryz.prog W = .ok (.int .i64 (hv5 ⟨nm, bu, pe, sc, st, pa, pn, pc, h0, h1, h2, h3, h4⟩ k)) W := fun k hk => by
            rcases (by omega : k = 0 ∨ k = 1 ∨ k = 2 ∨ k = 3 ∨ k = 4) with rfl | rfl | rfl | rfl | rfl <;> exact fun W => by simp [Instr.index, go_sem, hv5]
          have HZ := Lib.hid hz
          have HGI : Hid (∀ k, In64 (hv5 ⟨nm, bu, pe, sc, st, pa, pn, pc, h0, h1, h2, h3, h4⟩ k)) := Lib.hid PI.out.hl
          have HGS := Lib.hid fun k => healB_succ LQ ⟨nm, bu, pe, sc, st, pa, pn, pc, h0, h1, h2, h3, h4⟩ k
          have HGB : Hid (∀ k, k ≤ 5 → (healB LQ ⟨nm, bu, pe, sc, st, pa, pn, pc, h0, h1, h2, h3, h4⟩ k).length ≤ 1400) := Lib.hid fun k hk => by
            have h1 := healB_few PI.out k LQ
            have h2 := BND.out.2.2.2
            dsimp only at h1
            omega
          have HG0 : Hid (healB LQ ⟨nm, bu, pe, sc, st, pa, pn, pc, h0, h1, h2, h3, h4⟩ 0 = LQ) := Lib.hid rfl
          generalize healB LQ ⟨nm, bu, pe, sc, st, pa, pn, pc, h0, h1, h2, h3, h4⟩ = GF at HGS HGB HG0 PX
          generalize hv5 ⟨nm, bu, pe, sc, st, pa, pn, pc, h0, h1, h2, h3, h4⟩ = hf at HZ HGI HGS
          clear hz
          go_loopw [3, 9, 67] (fun q _ s wx => ∃ (j : Nat) (A : Option Addr) (n c : Nat), j ≤ 5 ∧ s = .int .i64 j ∧ q = .slice A n c ∧ BtS (GF j) (.slice A n c) wx ∧ Below w5.heap.size w5 wx) (fun _ _ s _ => 5 - (intOf s).toNat)
          case atStart => exact ⟨0, A, na, ca, by omega, rfl, rfl, by rw [HG0.out]; exact HV8.out, HB8.out⟩
          case round =>
            obtain ⟨k, A, na, ca, hk, rfl, rfl, hv, hb⟩ := hrel
            have HV := Lib.hid hv
            clear hv HV8 HB8
            by_cases hk5 : k < 5
            · have hz := HZ.out k hk5
              have hgs := HGS.out k
              have hgi := HGI.out k
              have GB := Lib.hid (HGB.out k hk)
              clear HZ HGS HGI HGB HG0
              generalize hf k = z at hz hgs hgi
              have GS := Lib.hid hgs
              have GI := Lib.hid hgi
              have hk5' : (k : Int) < 5 := by omega
              clear hgs hgi
              go_wp2_with fail
              refine (put_bt (GF k) _ z wr HV.out (by have := GB.out; omega) GI.out).mono ?_
              rintro e w9 ⟨v9, rfl, hv9, hb9⟩
              rw [← GS.out] at hv9
              obtain ⟨A9, c9, rfl, hr9⟩ := hv9
              have HR9 := Lib.hid hr9
              have HB9 := Lib.hid (hb.trans (hb9.mono hb.size))
              clear hr9 hb9 hz GS GI GB HV hb
              go_wp2_with fail
              go_roundw
              case rel => exact ⟨k + 1, A9, _, c9, by omega, by go_num, rfl, ⟨A9, c9, rfl, HR9.out⟩, HB9.out⟩
              case measure => simp [intOf]; omega
            · have hk5' : ¬ (k : Int) < 5 := by omega
              have HV9 : Hid (BtS (PF (i + 1)) (.slice A na ca) wr) := Lib.hid (by
                have h := HV.out
                rw [show k = 5 by omega, ← PX.out] at h
                exact h)
              have HB9 := Lib.hid (HB5.out.trans (hb.mono HB5.out.size))
              clear HZ HGS HGI HGB HG0 HV hb
              go_wp2_with fail
              go_roundw
              case rel => exact ⟨i + 1, A, na, ca, by omega, by go_num, rfl, HV9.out, HB9.out⟩
              case measure => simp [intOf]; omega
    · have hlt' : ¬ (i : Int) < (n1 : Int) := by omega
      have hie : i = n1 := by omega
      have HV3 : Hid (BtS (PF n1) (.slice A na ca) wr) := Lib.hid (by
        have h := HV.out
        rw [hie] at h
        exact h)
      have PB := Lib.hid (HPB.out n1 (Nat.le_refl _))
      have HB3 := Lib.hid hb
      obtain ⟨m0, m1, m2⟩ := HBX.out _ hb
      clear HV hie HPS HPB HPI HPP hb
      go_wp2_with fail
      clear m0 m1 m2
      refine (put_bt (PF n1) _ (n2 : Int) wr HV3.out (by have := PB.out; omega) (by unfold In64; omega)).mono ?_
      rintro e w4 ⟨v4, rfl, hv4, hb4⟩
      rw [← HC0.out] at hv4
      have HV4 := Lib.hid hv4
      have HB4 := Lib.hid (HB3.out.trans (hb4.mono HB3.out.size))
      clear hv4 hb4 HV3 HB3 HC0
      obtain ⟨m0, m1, m2⟩ := HBX.out _ HB4.out
      go_wp2_with fail
      clear m0 m1 m2
      go_loopw [3, 11, 83] (fun q _ s wx => ∃ (i : Nat) (A : Option Addr) (n c : Nat), i ≤ n2 ∧ s = .int .i64 i ∧ q = .slice A n c ∧ BtS (CF i) (.slice A n c) wx ∧ Below W0.heap.size W0 wx) (fun _ _ s _ => n2 - (intOf s).toNat)
      case atStart =>
        obtain ⟨A, c, rfl, hr⟩ := HV4.out
        exact ⟨0, A, _, c, by omega, rfl, rfl, ⟨A, c, rfl, hr⟩, HB4.out⟩
      case round =>
        obtain ⟨j, A, na, ca, hj, rfl, rfl, hv, hb⟩ := hrel
        have HV := Lib.hid hv
        clear hv HV4 HB4
        by_cases hlj : j < n2
        · obtain ⟨ac, x, rfl, hac, hx, d0, ck⟩ := (HCC.out.on (HW.out _ hb)).at_ cc_len (by omega) hlj
          have d0 := d0 _ rfl
          have d1 := ck 1 _ (by omega) rfl
          have d2 := ck 2 _ (by omega) rfl
          have d3 := ck 3 _ (by omega) rfl
          have d4 := ck 4 _ (by omega) rfl
          have d5 := ck 5 _ (by omega) rfl
          have CI := Lib.hid (HCI.out j x hx)
          obtain ⟨LA, hLA⟩ : ∃ l, l = chanA (CF j) x := ⟨_, rfl⟩
          have EC : Hid (CF (j + 1) = LA ++ Num.enc x.cap ++ Num.enc (IntKind.i64.wrap x.max) ++ Num.enc x.late) := Lib.hid (by rw [HCS.out j x hx, hLA]; rfl)
          have EA := Lib.hid hLA
          have CB : Hid ((CF j).length ≤ 2000 ∧ LA.length ≤ 2027) := Lib.hid (by have h1 := HCB.out j hj; have h2 := chanA_few CI.out (CF j); rw [hLA]; omega)
          obtain ⟨xf, xt, xq, xc, xm, xl⟩ := x
          dsimp only at d0 d1 d2 d3 d4 d5 CI EC EA
          have CE : Hid ((Num.enc xf).length ≤ 9 ∧ (Num.enc xt).length ≤ 9 ∧ (Num.enc xc).length ≤ 9 ∧ (Num.enc (IntKind.i64.wrap xm)).length ≤ 9) := Lib.hid ⟨enc_few _ CI.out.fr, enc_few _ CI.out.tt, enc_few _ CI.out.cap, enc_few _ (wrap_in _)⟩
          have hbx := bl1 wr (.cells #[.int .i64 xf, .int .i64 xt, .bool xq, .int .i64 xc, .int .u32 xm, .int .i64 xl] 47)
          have hby := hb.trans (hbx.mono hb.size)
          have hvy := HV.out.on hbx
          have f : ∀ o v, (#[Value.int .i64 xf, .int .i64 xt, .bool xq, .int .i64 xc, .int .u32 xm, .int .i64 xl] : Array Value)[o]? = some v → (wr.alloc (.cells #[.int .i64 xf, .int .i64 xt, .bool xq, .int .i64 xc, .int .u32 xm, .int .i64 xl] 47)).cell? ⟨wr.heap.size, o, none⟩ = some v := fun o v hv => (World.cell?_alloc_mark _ _ _ _ _).trans hv
          have hgy : wr.heap.size < (wr.alloc (.cells #[.int .i64 xf, .int .i64 xt, .bool xq, .int .i64 xc, .int .u32 xm, .int .i64 xl] 47)).heap.size := by simp
          clear ck hac hx hbx HV hLA
          go_upto_region 22 with fail
          generalize wr.alloc (.cells #[.int .i64 xf, .int .i64 xt, .bool xq, .int .i64 xc, .int .u32 xm, .int .i64 xl] 47) = w8 at hby hvy f hgy ⊢
          generalize wr.heap.size = gy at f hgy ⊢
          have HV8 := Lib.hid hvy
          have HB8 := Lib.hid hby
          have GY := Lib.hid hgy
          have HFY := Lib.hid fun V (hv : Below w8.heap.size w8 V) o v hq => (hv.cell (p := ⟨gy, o, none⟩) hgy).trans (f o v hq)
          clear hby hvy hgy f d0 d1 d2 d3 d4 d5 hb
          refine Rgs.region (by kernel_rfl) (by kernel_rfl) (fun (opn : Nat) (vl : Value) (wv : World) => match opn with
              | 0 => BtS (CF j) vl wv
              | 1 => vl = .pointer (some ⟨gy, 0, none⟩)
              | 2 => vl = .int .i64 xf
              | 3 => BtS (CF j ++ Num.enc xf) vl wv
              | 4 => vl = .pointer (some ⟨gy, 1, none⟩)
              | 5 => vl = .int .i64 xt
              | 6 => BtS (CF j ++ Num.enc xf ++ Num.enc xt) vl wv
              | 7 => vl = .pointer (some ⟨gy, 2, none⟩)
              | 8 => vl = .bool xq
              | 9 => BtS (CF j ++ Num.enc xf ++ Num.enc xt ++ Num.enc (fl xq)) vl wv
              | 10 => BtS (CF j ++ Num.enc xf ++ Num.enc xt ++ Num.enc (fl xq)) vl wv
              | _ => True) (ByW 10 w8 (.slice A na ca)) ⟨(Below.refl _ _).drew, fun _ => rfl⟩ (Rgs.steps_of ?_) ?_
          · refine ⟨?_, ?_, ?_, ?_, ?_, ?_, ?_, ?_, ?_, ?_, ?_, trivial⟩
            · intro a w1 live S E D C' h0 hk hW
              have l3 := Reg.not_live C' h0 (j := 3) rfl rfl
              have l6 := Reg.not_live C' l3 (j := 6) rfl rfl
              have l9 := Reg.not_live C' l6 (j := 9) rfl rfl
              have l10 := Reg.not_live C' l9 (j := 10) rfl rfl
              have e3 : a.eval (.tmp 3) = .slice A na ca := hW.t3 l10
              exact Rgs.val rfl (Reg.wanted_free rfl) (.slice A na ca) (by have c := Reg.consts a; generalize a.eval = ρ at *; simp [execOp, go_sem, c.1, c.2, e3]) (HV8.out.on hW.on) (hW.upd (Below.refl _ _) 0 87 _ (by decide) (by decide))
            · intro a w1 live S E D C' h0 hk hW
              have eb : a.eval (.tmp 11) = .pointer (some ⟨gy, 0, none⟩) := E 11 rfl
              exact Rgs.val rfl (Reg.wanted_free rfl) (.pointer (some ⟨gy, 0, none⟩)) (by have c := Reg.consts a; generalize a.eval = ρ at *; simp [execOp, go_sem, c.1, c.2, eb]) rfl (hW.upd (Below.refl _ _) 1 88 _ (by decide) (by decide))
            · intro a w1 live S E D C' h0 hk hW
              have d0 : a.eval (.tmp 88) = .pointer (some ⟨gy, 0, none⟩) := D 1 rfl _ _ rfl rfl
              have hc := (hW.on.cell (p := ⟨gy, 0, none⟩) (GY.out)).trans ((HFY.out w8 (Below.refl _ _) 0 _ rfl))
              exact Rgs.val rfl (Reg.wanted_free rfl) (.int .i64 xf) (by have c := Reg.consts a; generalize a.eval = ρ at *; simp [execOp, go_sem, c.1, c.2, d0, hc]) rfl (hW.upd (Below.refl _ _) 2 89 _ (by decide) (by decide))
            · intro a w1 live S E D C' h0 hk hW
              have hA : BtS (CF j) (a.eval (.tmp 87)) w1 := D 0 rfl _ _ rfl rfl
              have dB : a.eval (.tmp 89) = .int .i64 xf := D 2 rfl _ _ rfl rfl
              generalize hv : a.eval (.tmp 87) = vA at hA
              refine Rgs.call rfl (Reg.wanted_free rfl) 23 #[vA, .int .i64 xf] (by have c := Reg.consts a; generalize a.eval = ρ at *; simp [execOp, go_sem, c.1, c.2, hv, dB]) ?_
              refine (put_bt (CF j) vA xf w1 hA (by have h1 := CB.out; have h2 := CE.out; (try simp only [List.length_append]); omega) (CI.out.fr)).mono ?_
              rintro e w5 ⟨v5, rfl, hB, hb5⟩
              exact ⟨_, rfl, hB, (hW.upd hb5 3 90 _ (by decide) (by decide)), fun jq vq _ hq => by
                revert hq
                match jq with
                | 0 => exact fun hq => hq.on hb5
                | 3 => exact fun hq => hq.on hb5
                | 6 => exact fun hq => hq.on hb5
                | 9 => exact fun hq => hq.on hb5
                | 10 => exact fun hq => hq.on hb5
                | 1 | 2 | 4 | 5 | 7 | 8 | _ + 11 => exact fun hq => hq⟩
            · intro a w1 live S E D C' h0 hk hW
              have eb : a.eval (.tmp 11) = .pointer (some ⟨gy, 0, none⟩) := E 11 rfl
              exact Rgs.val rfl (Reg.wanted_free rfl) (.pointer (some ⟨gy, 1, none⟩)) (by have c := Reg.consts a; generalize a.eval = ρ at *; simp [execOp, go_sem, c.1, c.2, eb]) rfl (hW.upd (Below.refl _ _) 4 91 _ (by decide) (by decide))
            · intro a w1 live S E D C' h0 hk hW
              have d0 : a.eval (.tmp 91) = .pointer (some ⟨gy, 1, none⟩) := D 4 rfl _ _ rfl rfl
              have hc := (hW.on.cell (p := ⟨gy, 1, none⟩) (GY.out)).trans ((HFY.out w8 (Below.refl _ _) 1 _ rfl))
              exact Rgs.val rfl (Reg.wanted_free rfl) (.int .i64 xt) (by have c := Reg.consts a; generalize a.eval = ρ at *; simp [execOp, go_sem, c.1, c.2, d0, hc]) rfl (hW.upd (Below.refl _ _) 5 92 _ (by decide) (by decide))
            · intro a w1 live S E D C' h0 hk hW
              have hA : BtS (CF j ++ Num.enc xf) (a.eval (.tmp 90)) w1 := D 3 rfl _ _ rfl rfl
              have dB : a.eval (.tmp 92) = .int .i64 xt := D 5 rfl _ _ rfl rfl
              generalize hv : a.eval (.tmp 90) = vA at hA
              refine Rgs.call rfl (Reg.wanted_free rfl) 23 #[vA, .int .i64 xt] (by have c := Reg.consts a; generalize a.eval = ρ at *; simp [execOp, go_sem, c.1, c.2, hv, dB]) ?_
              refine (put_bt (CF j ++ Num.enc xf) vA xt w1 hA (by have h1 := CB.out; have h2 := CE.out; (try simp only [List.length_append]); omega) (CI.out.tt)).mono ?_
              rintro e w5 ⟨v5, rfl, hB, hb5⟩
              exact ⟨_, rfl, hB, (hW.upd hb5 6 93 _ (by decide) (by decide)), fun jq vq _ hq => by
                revert hq
                match jq with
                | 0 => exact fun hq => hq.on hb5
                | 3 => exact fun hq => hq.on hb5
                | 6 => exact fun hq => hq.on hb5
                | 9 => exact fun hq => hq.on hb5
                | 10 => exact fun hq => hq.on hb5
                | 1 | 2 | 4 | 5 | 7 | 8 | _ + 11 => exact fun hq => hq⟩
            · intro a w1 live S E D C' h0 hk hW
              have eb : a.eval (.tmp 11) = .pointer (some ⟨gy, 0, none⟩) := E 11 rfl
              exact Rgs.val rfl (Reg.wanted_free rfl) (.pointer (some ⟨gy, 2, none⟩)) (by have c := Reg.consts a; generalize a.eval = ρ at *; simp [execOp, go_sem, c.1, c.2, eb]) rfl (hW.upd (Below.refl _ _) 7 94 _ (by decide) (by decide))
            · intro a w1 live S E D C' h0 hk hW
              have d0 : a.eval (.tmp 94) = .pointer (some ⟨gy, 2, none⟩) := D 7 rfl _ _ rfl rfl
              have hc := (hW.on.cell (p := ⟨gy, 2, none⟩) (GY.out)).trans ((HFY.out w8 (Below.refl _ _) 2 _ rfl))
              exact Rgs.val rfl (Reg.wanted_free rfl) (.bool xq) (by have c := Reg.consts a; generalize a.eval = ρ at *; simp [execOp, go_sem, c.1, c.2, d0, hc]) rfl (hW.upd (Below.refl _ _) 8 95 _ (by decide) (by decide))
            · intro a w1 live S E D C' h0 hk hW
              have hA : BtS (CF j ++ Num.enc xf ++ Num.enc xt) (a.eval (.tmp 93)) w1 := D 6 rfl _ _ rfl rfl
              have dB : a.eval (.tmp 95) = .bool xq := D 8 rfl _ _ rfl rfl
              generalize hv : a.eval (.tmp 93) = vA at hA
              refine Rgs.call rfl (Reg.wanted_free rfl) 25 #[vA, .bool xq] (by have c := Reg.consts a; generalize a.eval = ρ at *; simp [execOp, go_sem, c.1, c.2, hv, dB]) ?_
              refine (flag_bt (CF j ++ Num.enc xf ++ Num.enc xt) vA xq w1 hA (by have h1 := CB.out; have h2 := CE.out; (try simp only [List.length_append]); omega)).mono ?_
              rintro e w5 ⟨v5, rfl, hB, hb5⟩
              exact ⟨_, rfl, hB, (hW.upd hb5 9 96 _ (by decide) (by decide)), fun jq vq _ hq => by
                revert hq
                match jq with
                | 0 => exact fun hq => hq.on hb5
                | 3 => exact fun hq => hq.on hb5
                | 6 => exact fun hq => hq.on hb5
                | 9 => exact fun hq => hq.on hb5
                | 10 => exact fun hq => hq.on hb5
                | 1 | 2 | 4 | 5 | 7 | 8 | _ + 11 => exact fun hq => hq⟩
            · intro a w1 live S E D C' h0 hk hW
              have hA : BtS (CF j ++ Num.enc xf ++ Num.enc xt ++ Num.enc (fl xq)) (a.eval (.tmp 96)) w1 := D 9 rfl _ _ rfl rfl
              generalize hv : a.eval (.tmp 96) = vA at hA
              exact Rgs.val rfl (Reg.wanted_free rfl) vA (by have c := Reg.consts a; generalize a.eval = ρ at *; simp [execOp, go_sem, c.1, c.2, hv]) hA ⟨hW.on, fun e => absurd e (by rw [Rgs.upd_self]; decide)⟩
          intro a w9 live hs hd E Dv Hl hW
          obtain ⟨v9, hv9, he9⟩ := Dv 10 _ rfl
          have e3 : a.eval (.tmp 3) = v9 := he9 3 rfl
          rw [Rgs.act_ws a _ _ hs hd E [87, 88, 89, 90, 91, 92, 93, 94, 95, 96, 3] (by kernel_rfl)]
          simp only [List.foldl, List.setIfInBounds_toArray, List.set_cons_succ, List.set_cons_zero, e3]
          have HV9 : Hid (BtS (LA) v9 w9) := Lib.hid (by rw [EA.out]; exact hv9)
          have HX9 := Lib.hid hW.on
          clear E Dv Hl hW e3 he9 hv9
          generalize a.eval = ρ9
          clear a hs hd
          have HB9 := Lib.hid (HB8.out.trans (HX9.out.mono HB8.out.size))
          clear HV8
          go_upto_region 23 with fail
          refine Rgs.region (by kernel_rfl) (by kernel_rfl) (fun (opn : Nat) (vl : Value) (wv : World) => match opn with
              | 0 => BtS (LA) vl wv
              | 1 => vl = .pointer (some ⟨gy, 3, none⟩)
              | 2 => vl = .int .i64 xc
              | 3 => BtS (LA ++ Num.enc xc) vl wv
              | 4 => vl = .pointer (some ⟨gy, 4, none⟩)
              | 5 => vl = .int .u32 xm
              | 6 => vl = .int .i64 (IntKind.i64.wrap xm)
              | 7 => BtS (LA ++ Num.enc xc ++ Num.enc (IntKind.i64.wrap xm)) vl wv
              | 8 => vl = .pointer (some ⟨gy, 5, none⟩)
              | 9 => vl = .int .i64 xl
              | 10 => BtS (LA ++ Num.enc xc ++ Num.enc (IntKind.i64.wrap xm) ++ Num.enc xl) vl wv
              | 11 => BtS (LA ++ Num.enc xc ++ Num.enc (IntKind.i64.wrap xm) ++ Num.enc xl) vl wv
              | _ => True) (ByW 11 w9 (v9)) ⟨(Below.refl _ _).drew, fun _ => rfl⟩ (Rgs.steps_of ?_) ?_
          · refine ⟨?_, ?_, ?_, ?_, ?_, ?_, ?_, ?_, ?_, ?_, ?_, ?_, trivial⟩
            · intro a w1 live S E D C' h0 hk hW
              have l3 := Reg.not_live C' h0 (j := 3) rfl rfl
              have l7 := Reg.not_live C' l3 (j := 7) rfl rfl
              have l10 := Reg.not_live C' l7 (j := 10) rfl rfl
              have l11 := Reg.not_live C' l10 (j := 11) rfl rfl
              have e3 : a.eval (.tmp 3) = v9 := hW.t3 l11
              exact Rgs.val rfl (Reg.wanted_free rfl) (v9) (by have c := Reg.consts a; generalize a.eval = ρ at *; simp [execOp, go_sem, c.1, c.2, e3]) (HV9.out.on hW.on) (hW.upd (Below.refl _ _) 0 97 _ (by decide) (by decide))
            · intro a w1 live S E D C' h0 hk hW
              have eb : a.eval (.tmp 11) = .pointer (some ⟨gy, 0, none⟩) := E 11 rfl
              exact Rgs.val rfl (Reg.wanted_free rfl) (.pointer (some ⟨gy, 3, none⟩)) (by have c := Reg.consts a; generalize a.eval = ρ at *; simp [execOp, go_sem, c.1, c.2, eb]) rfl (hW.upd (Below.refl _ _) 1 98 _ (by decide) (by decide))
            · intro a w1 live S E D C' h0 hk hW
              have d0 : a.eval (.tmp 98) = .pointer (some ⟨gy, 3, none⟩) := D 1 rfl _ _ rfl rfl
              have hc := (hW.on.cell (p := ⟨gy, 3, none⟩) (Nat.lt_of_lt_of_le GY.out HX9.out.size)).trans ((HFY.out w9 (HX9.out) 3 _ rfl))
              exact Rgs.val rfl (Reg.wanted_free rfl) (.int .i64 xc) (by have c := Reg.consts a; generalize a.eval = ρ at *; simp [execOp, go_sem, c.1, c.2, d0, hc]) rfl (hW.upd (Below.refl _ _) 2 99 _ (by decide) (by decide))
            · intro a w1 live S E D C' h0 hk hW
              have hA : BtS (LA) (a.eval (.tmp 97)) w1 := D 0 rfl _ _ rfl rfl
              have dB : a.eval (.tmp 99) = .int .i64 xc := D 2 rfl _ _ rfl rfl
              generalize hv : a.eval (.tmp 97) = vA at hA
              refine Rgs.call rfl (Reg.wanted_free rfl) 23 #[vA, .int .i64 xc] (by have c := Reg.consts a; generalize a.eval = ρ at *; simp [execOp, go_sem, c.1, c.2, hv, dB]) ?_
              refine (put_bt (LA) vA xc w1 hA (by have h1 := CB.out; have h2 := CE.out; (try simp only [List.length_append]); omega) (CI.out.cap)).mono ?_
              rintro e w5 ⟨v5, rfl, hB, hb5⟩
              exact ⟨_, rfl, hB, (hW.upd hb5 3 100 _ (by decide) (by decide)), fun jq vq _ hq => by
                revert hq
                match jq with
                | 0 => exact fun hq => hq.on hb5
                | 3 => exact fun hq => hq.on hb5
                | 7 => exact fun hq => hq.on hb5
                | 10 => exact fun hq => hq.on hb5
                | 11 => exact fun hq => hq.on hb5
                | 1 | 2 | 4 | 5 | 6 | 8 | 9 | _ + 12 => exact fun hq => hq⟩
            · intro a w1 live S E D C' h0 hk hW
              have eb : a.eval (.tmp 11) = .pointer (some ⟨gy, 0, none⟩) := E 11 rfl
              exact Rgs.val rfl (Reg.wanted_free rfl) (.pointer (some ⟨gy, 4, none⟩)) (by have c := Reg.consts a; generalize a.eval = ρ at *; simp [execOp, go_sem, c.1, c.2, eb]) rfl (hW.upd (Below.refl _ _) 4 101 _ (by decide) (by decide))
            · intro a w1 live S E D C' h0 hk hW
              have d0 : a.eval (.tmp 101) = .pointer (some ⟨gy, 4, none⟩) := D 4 rfl _ _ rfl rfl
              have hc := (hW.on.cell (p := ⟨gy, 4, none⟩) (Nat.lt_of_lt_of_le GY.out HX9.out.size)).trans ((HFY.out w9 (HX9.out) 4 _ rfl))
              exact Rgs.val rfl (Reg.wanted_free rfl) (.int .u32 xm) (by have c := Reg.consts a; generalize a.eval = ρ at *; simp [execOp, go_sem, c.1, c.2, d0, hc]) rfl (hW.upd (Below.refl _ _) 5 102 _ (by decide) (by decide))
            · intro a w1 live S E D C' h0 hk hW
              have d0 : a.eval (.tmp 102) = .int .u32 xm := D 5 rfl _ _ rfl rfl
              exact Rgs.val rfl (Reg.wanted_free rfl) (.int .i64 (IntKind.i64.wrap xm)) (by have c := Reg.consts a; generalize a.eval = ρ at *; simp [execOp, go_sem, c.1, c.2, d0]) rfl (hW.upd (Below.refl _ _) 6 103 _ (by decide) (by decide))
            · intro a w1 live S E D C' h0 hk hW
              have hA : BtS (LA ++ Num.enc xc) (a.eval (.tmp 100)) w1 := D 3 rfl _ _ rfl rfl
              have dB : a.eval (.tmp 103) = .int .i64 (IntKind.i64.wrap xm) := D 6 rfl _ _ rfl rfl
              generalize hv : a.eval (.tmp 100) = vA at hA
              refine Rgs.call rfl (Reg.wanted_free rfl) 23 #[vA, .int .i64 (IntKind.i64.wrap xm)] (by have c := Reg.consts a; generalize a.eval = ρ at *; simp [execOp, go_sem, c.1, c.2, hv, dB]) ?_
              refine (put_bt (LA ++ Num.enc xc) vA (IntKind.i64.wrap xm) w1 hA (by have h1 := CB.out; have h2 := CE.out; (try simp only [List.length_append]); omega) (wrap_in _)).mono ?_
              rintro e w5 ⟨v5, rfl, hB, hb5⟩
              exact ⟨_, rfl, hB, (hW.upd hb5 7 104 _ (by decide) (by decide)), fun jq vq _ hq => by
                revert hq
                match jq with
                | 0 => exact fun hq => hq.on hb5
                | 3 => exact fun hq => hq.on hb5
                | 7 => exact fun hq => hq.on hb5
                | 10 => exact fun hq => hq.on hb5
                | 11 => exact fun hq => hq.on hb5
                | 1 | 2 | 4 | 5 | 6 | 8 | 9 | _ + 12 => exact fun hq => hq⟩
            · intro a w1 live S E D C' h0 hk hW
              have eb : a.eval (.tmp 11) = .pointer (some ⟨gy, 0, none⟩) := E 11 rfl
              exact Rgs.val rfl (Reg.wanted_free rfl) (.pointer (some ⟨gy, 5, none⟩)) (by have c := Reg.consts a; generalize a.eval = ρ at *; simp [execOp, go_sem, c.1, c.2, eb]) rfl (hW.upd (Below.refl _ _) 8 105 _ (by decide) (by decide))
            · intro a w1 live S E D C' h0 hk hW
              have d0 : a.eval (.tmp 105) = .pointer (some ⟨gy, 5, none⟩) := D 8 rfl _ _ rfl rfl
              have hc := (hW.on.cell (p := ⟨gy, 5, none⟩) (Nat.lt_of_lt_of_le GY.out HX9.out.size)).trans ((HFY.out w9 (HX9.out) 5 _ rfl))
              exact Rgs.val rfl (Reg.wanted_free rfl) (.int .i64 xl) (by have c := Reg.consts a; generalize a.eval = ρ at *; simp [execOp, go_sem, c.1, c.2, d0, hc]) rfl (hW.upd (Below.refl _ _) 9 106 _ (by decide) (by decide))
            · intro a w1 live S E D C' h0 hk hW
              have hA : BtS (LA ++ Num.enc xc ++ Num.enc (IntKind.i64.wrap xm)) (a.eval (.tmp 104)) w1 := D 7 rfl _ _ rfl rfl
              have dB : a.eval (.tmp 106) = .int .i64 xl := D 9 rfl _ _ rfl rfl
              generalize hv : a.eval (.tmp 104) = vA at hA
              refine Rgs.call rfl (Reg.wanted_free rfl) 23 #[vA, .int .i64 xl] (by have c := Reg.consts a; generalize a.eval = ρ at *; simp [execOp, go_sem, c.1, c.2, hv, dB]) ?_
              refine (put_bt (LA ++ Num.enc xc ++ Num.enc (IntKind.i64.wrap xm)) vA xl w1 hA (by have h1 := CB.out; have h2 := CE.out; (try simp only [List.length_append]); omega) (CI.out.late)).mono ?_
              rintro e w5 ⟨v5, rfl, hB, hb5⟩
              exact ⟨_, rfl, hB, (hW.upd hb5 10 107 _ (by decide) (by decide)), fun jq vq _ hq => by
                revert hq
                match jq with
                | 0 => exact fun hq => hq.on hb5
                | 3 => exact fun hq => hq.on hb5
                | 7 => exact fun hq => hq.on hb5
                | 10 => exact fun hq => hq.on hb5
                | 11 => exact fun hq => hq.on hb5
                | 1 | 2 | 4 | 5 | 6 | 8 | 9 | _ + 12 => exact fun hq => hq⟩
            · intro a w1 live S E D C' h0 hk hW
              have hA : BtS (LA ++ Num.enc xc ++ Num.enc (IntKind.i64.wrap xm) ++ Num.enc xl) (a.eval (.tmp 107)) w1 := D 10 rfl _ _ rfl rfl
              generalize hv : a.eval (.tmp 107) = vA at hA
              exact Rgs.val rfl (Reg.wanted_free rfl) vA (by have c := Reg.consts a; generalize a.eval = ρ at *; simp [execOp, go_sem, c.1, c.2, hv]) hA ⟨hW.on, fun e => absurd e (by rw [Rgs.upd_self]; decide)⟩
          intro a w10 live hs hd E Dv Hl hW
          obtain ⟨v10, hv9, he9⟩ := Dv 11 _ rfl
          have e3 : a.eval (.tmp 3) = v10 := he9 3 rfl
          rw [Rgs.act_ws a _ _ hs hd E [97, 98, 99, 100, 101, 102, 103, 104, 105, 106, 107, 3] (by kernel_rfl)]
          simp only [List.foldl, List.setIfInBounds_toArray, List.set_cons_succ, List.set_cons_zero, e3]
          have HV10 : Hid (BtS (CF (j + 1)) v10 w10) := Lib.hid (by rw [EC.out]; exact hv9)
          have HX10 := Lib.hid hW.on
          clear E Dv Hl hW e3 he9 hv9
          generalize a.eval = ρ10
          clear a hs hd
          have HB10 := Lib.hid (HB9.out.trans (HX10.out.mono HB9.out.size))
          obtain ⟨A9, c9, rfl, hr9⟩ := HV10.out
          have HR9 := Lib.hid hr9
          clear HX9 HX10 HV9 HV10 hr9 HB8 HB9 EC EA CB CI CE HFY GY
          go_wp2_with fail
          go_roundw
          case rel => exact ⟨j + 1, A9, _, c9, by omega, by go_num, rfl, ⟨A9, c9, rfl, HR9.out⟩, HB10.out⟩
          case measure => simp [intOf]; omega
        · have hlj' : ¬ (j : Int) < (n2 : Int) := by omega
          have hje : j = n2 := by omega
          have HV3 : Hid (BtS (CF n2) (.slice A na ca) wr) := Lib.hid (by
            have h := HV.out
            rw [hje] at h
            exact h)
          have CB := Lib.hid (HCB.out n2 (Nat.le_refl _))
          have HB3 := Lib.hid hb
          obtain ⟨m0, m1, m2⟩ := HBX.out _ hb
          clear HV hje HCS HCB HCI HCC hb
          go_wp2_with fail
          clear m0 m1 m2
          refine (put_bt (CF n2) _ (n3 : Int) wr HV3.out (by have := CB.out; omega) (by unfold In64; omega)).mono ?_
          rintro e w4 ⟨v4, rfl, hv4, hb4⟩
          rw [← HT0.out] at hv4
          have HV4 := Lib.hid hv4
          have HB4 := Lib.hid (HB3.out.trans (hb4.mono HB3.out.size))
          clear hv4 hb4 HV3 HB3 HT0
          obtain ⟨m0, m1, m2⟩ := HBX.out _ HB4.out
          go_wp2_with fail
          clear m0 m1 m2
          go_loopw [3, 13, 15, 117] (fun q _ _ s wx => ∃ (i : Nat) (A : Option Addr) (n c : Nat), i ≤ n3 ∧ s = .int .i64 i ∧ q = .slice A n c ∧ BtS (TF i) (.slice A n c) wx ∧ Below W0.heap.size W0 wx) (fun _ _ _ s _ => n3 - (intOf s).toNat)
          case atStart =>
            obtain ⟨A, c, rfl, hr⟩ := HV4.out
            exact ⟨0, A, _, c, by omega, rfl, rfl, ⟨A, c, rfl, hr⟩, HB4.out⟩
          case round =>
            obtain ⟨t, A, na, ca, ht, rfl, rfl, hv, hb⟩ := hrel
            have HV := Lib.hid hv
            clear hv HV4 HB4
            by_cases hlt3 : t < n3
            · obtain ⟨at3, y, rfl, had, hy, c0, ck⟩ := (HTB.out.on (HW.out _ hb)).at_ tcn_len (by omega) hlt3
              have c0 := c0 _ rfl
              rw [Nat.mul_one] at c0
              have hym := HTI.out y (List.mem_of_getElem? hy)
              have RN := Lib.hid hym.1
              have hyl := hym.1.len
              have hyn := hym.2
              have TS := Lib.hid (HTS.out t y hy)
              have TB := Lib.hid (HTLB.out t ht)
              obtain ⟨NF, q0, qs, qe, qb⟩ := fold_fn nodeB 27 y.l (fun z hz l => nodeB_few (hym.1.bd z hz) l) (TF t ++ Num.enc (y.n : Int))
              rw [hyl] at qe qb
              have HN0 := Lib.hid q0
              have HNS := Lib.hid qs
              have HNE : Hid (TF (t + 1) = NF y.n) := Lib.hid (by rw [TS.out, qe]; rfl)
              have HNB : Hid (∀ j, j ≤ y.n → (NF j).length ≤ 200000) := Lib.hid fun j hj => by
                have h1 := qb j hj
                have h2 := TB.out
                have h3 := enc_few (y.n : Int) (by unfold In64; omega)
                rw [List.length_append] at h1
                omega
              obtain ⟨tA, tn, tc, tl⟩ := y
              dsimp only at c0 RN hyn HN0 HNS HNE HNB
              clear q0 qs qe qb hyl hym TS had hy ck
              go_wp2_with fail
              refine (put_bt (TF t) _ (tn : Int) wr HV.out (by have := TB.out; omega) (by unfold In64; omega)).mono ?_
              rintro e w6 ⟨v6, rfl, hv6, hb6⟩
              rw [← HN0.out] at hv6
              have HV6 := Lib.hid hv6
              have HB6 := Lib.hid (hb.trans (hb6.mono hb.size))
              have RN6 := Lib.hid ((RN.out.on (HW.out _ hb)).on hb6)
              clear hv6 hb6 HN0 HV c0 RN hb TB
              go_wp2_with fail
              go_loopw [3, 15, 127] (fun q _ s wx => ∃ (i : Nat) (A : Option Addr) (n c : Nat), i ≤ tn ∧ s = .int .i64 i ∧ q = .slice A n c ∧ BtS (NF i) (.slice A n c) wx ∧ Below w6.heap.size w6 wx) (fun _ _ s _ => tn - (intOf s).toNat)
              case atStart =>
                obtain ⟨A, c, rfl, hr⟩ := HV6.out
                exact ⟨0, A, _, c, by omega, rfl, rfl, ⟨A, c, rfl, hr⟩, Below.refl _ _⟩
              case round =>
                obtain ⟨k, A, na, ca, hk, rfl, rfl, hv, hb⟩ := hrel
                have HV := Lib.hid hv
                clear hv HV6
                by_cases hlk : k < tn
                · obtain ⟨an, z, rfl, han, hz, hzi, k0, k1, k2⟩ := (RN6.out.on hb).at_ hlk
                  have ZI := Lib.hid hzi
                  have EN := Lib.hid (HNS.out k z hz)
                  have NB := Lib.hid (HNB.out k hk)
                  obtain ⟨zk, zp, zn⟩ := z
                  dsimp only at k0 k1 k2 ZI EN
                  have NE : Hid ((Num.enc zk).length ≤ 9 ∧ (Num.enc zp).length ≤ 9) := Lib.hid ⟨enc_few _ ZI.out.1, enc_few _ ZI.out.2.1⟩
                  have hbx := bl1 wr (.cells #[.int .i64 zk, .int .i64 zp, .int .i64 zn] 43)
                  have hby := hb.trans (hbx.mono hb.size)
                  have hvy := HV.out.on hbx
                  have f : ∀ o v, (#[Value.int .i64 zk, .int .i64 zp, .int .i64 zn] : Array Value)[o]? = some v → (wr.alloc (.cells #[.int .i64 zk, .int .i64 zp, .int .i64 zn] 43)).cell? ⟨wr.heap.size, o, none⟩ = some v := fun o v hv => (World.cell?_alloc_mark _ _ _ _ _).trans hv
                  have hgy : wr.heap.size < (wr.alloc (.cells #[.int .i64 zk, .int .i64 zp, .int .i64 zn] 43)).heap.size := by simp
                  clear han hz hzi hbx HV
                  go_upto_region 33 with fail
                  generalize wr.alloc (.cells #[.int .i64 zk, .int .i64 zp, .int .i64 zn] 43) = w8 at hby hvy f hgy ⊢
                  generalize wr.heap.size = gy at f hgy ⊢
                  have HV8 := Lib.hid hvy
                  have HB8 := Lib.hid hby
                  have GY := Lib.hid hgy
                  have HFY := Lib.hid f
                  clear hby hvy hgy f k0 k1 k2 hb
                  refine Rgs.region (by kernel_rfl) (by kernel_rfl) (fun (opn : Nat) (vl : Value) (wv : World) => match opn with
                      | 0 => BtS (NF k) vl wv
                      | 1 => vl = .pointer (some ⟨gy, 0, none⟩)
                      | 2 => vl = .int .i64 zk
                      | 3 => BtS (NF k ++ Num.enc zk) vl wv
                      | 4 => vl = .pointer (some ⟨gy, 1, none⟩)
                      | 5 => vl = .int .i64 zp
                      | 6 => BtS (NF k ++ Num.enc zk ++ Num.enc zp) vl wv
                      | 7 => vl = .pointer (some ⟨gy, 2, none⟩)
                      | 8 => vl = .int .i64 zn
                      | 9 => BtS (NF k ++ Num.enc zk ++ Num.enc zp ++ Num.enc zn) vl wv
                      | 10 => BtS (NF k ++ Num.enc zk ++ Num.enc zp ++ Num.enc zn) vl wv
                      | _ => True) (ByW 10 w8 (.slice A na ca)) ⟨(Below.refl _ _).drew, fun _ => rfl⟩ (Rgs.steps_of ?_) ?_
                  · refine ⟨?_, ?_, ?_, ?_, ?_, ?_, ?_, ?_, ?_, ?_, ?_, trivial⟩
                    · intro a w1 live S E D C' h0 hk hW
                      have l3 := Reg.not_live C' h0 (j := 3) rfl rfl
                      have l6 := Reg.not_live C' l3 (j := 6) rfl rfl
                      have l9 := Reg.not_live C' l6 (j := 9) rfl rfl
                      have l10 := Reg.not_live C' l9 (j := 10) rfl rfl
                      have e3 : a.eval (.tmp 3) = .slice A na ca := hW.t3 l10
                      exact Rgs.val rfl (Reg.wanted_free rfl) (.slice A na ca) (by have c := Reg.consts a; generalize a.eval = ρ at *; simp [execOp, go_sem, c.1, c.2, e3]) (HV8.out.on hW.on) (hW.upd (Below.refl _ _) 0 131 _ (by decide) (by decide))
                    · intro a w1 live S E D C' h0 hk hW
                      have eb : a.eval (.tmp 15) = .pointer (some ⟨gy, 0, none⟩) := E 15 rfl
                      exact Rgs.val rfl (Reg.wanted_free rfl) (.pointer (some ⟨gy, 0, none⟩)) (by have c := Reg.consts a; generalize a.eval = ρ at *; simp [execOp, go_sem, c.1, c.2, eb]) rfl (hW.upd (Below.refl _ _) 1 132 _ (by decide) (by decide))
                    · intro a w1 live S E D C' h0 hk hW
                      have d0 : a.eval (.tmp 132) = .pointer (some ⟨gy, 0, none⟩) := D 1 rfl _ _ rfl rfl
                      have hc := (hW.on.cell (p := ⟨gy, 0, none⟩) (GY.out)).trans ((HFY.out 0 _ rfl))
                      exact Rgs.val rfl (Reg.wanted_free rfl) (.int .i64 zk) (by have c := Reg.consts a; generalize a.eval = ρ at *; simp [execOp, go_sem, c.1, c.2, d0, hc]) rfl (hW.upd (Below.refl _ _) 2 133 _ (by decide) (by decide))
                    · intro a w1 live S E D C' h0 hk hW
                      have hA : BtS (NF k) (a.eval (.tmp 131)) w1 := D 0 rfl _ _ rfl rfl
                      have dB : a.eval (.tmp 133) = .int .i64 zk := D 2 rfl _ _ rfl rfl
                      generalize hv : a.eval (.tmp 131) = vA at hA
                      refine Rgs.call rfl (Reg.wanted_free rfl) 23 #[vA, .int .i64 zk] (by have c := Reg.consts a; generalize a.eval = ρ at *; simp [execOp, go_sem, c.1, c.2, hv, dB]) ?_
                      refine (put_bt (NF k) vA zk w1 hA (by have h1 := NB.out; have h2 := NE.out; (try simp only [List.length_append]); omega) (ZI.out.1)).mono ?_
                      rintro e w5 ⟨v5, rfl, hB, hb5⟩
                      exact ⟨_, rfl, hB, (hW.upd hb5 3 134 _ (by decide) (by decide)), fun jq vq _ hq => by
                        revert hq
                        match jq with
                        | 0 => exact fun hq => hq.on hb5
                        | 3 => exact fun hq => hq.on hb5
                        | 6 => exact fun hq => hq.on hb5
                        | 9 => exact fun hq => hq.on hb5
                        | 10 => exact fun hq => hq.on hb5
                        | 1 | 2 | 4 | 5 | 7 | 8 | _ + 11 => exact fun hq => hq⟩
                    · intro a w1 live S E D C' h0 hk hW
                      have eb : a.eval (.tmp 15) = .pointer (some ⟨gy, 0, none⟩) := E 15 rfl
                      exact Rgs.val rfl (Reg.wanted_free rfl) (.pointer (some ⟨gy, 1, none⟩)) (by have c := Reg.consts a; generalize a.eval = ρ at *; simp [execOp, go_sem, c.1, c.2, eb]) rfl (hW.upd (Below.refl _ _) 4 135 _ (by decide) (by decide))
                    · intro a w1 live S E D C' h0 hk hW
                      have d0 : a.eval (.tmp 135) = .pointer (some ⟨gy, 1, none⟩) := D 4 rfl _ _ rfl rfl
                      have hc := (hW.on.cell (p := ⟨gy, 1, none⟩) (GY.out)).trans ((HFY.out 1 _ rfl))
                      exact Rgs.val rfl (Reg.wanted_free rfl) (.int .i64 zp) (by have c := Reg.consts a; generalize a.eval = ρ at *; simp [execOp, go_sem, c.1, c.2, d0, hc]) rfl (hW.upd (Below.refl _ _) 5 136 _ (by decide) (by decide))
                    · intro a w1 live S E D C' h0 hk hW
                      have hA : BtS (NF k ++ Num.enc zk) (a.eval (.tmp 134)) w1 := D 3 rfl _ _ rfl rfl
                      have dB : a.eval (.tmp 136) = .int .i64 zp := D 5 rfl _ _ rfl rfl
                      generalize hv : a.eval (.tmp 134) = vA at hA
                      refine Rgs.call rfl (Reg.wanted_free rfl) 23 #[vA, .int .i64 zp] (by have c := Reg.consts a; generalize a.eval = ρ at *; simp [execOp, go_sem, c.1, c.2, hv, dB]) ?_
                      refine (put_bt (NF k ++ Num.enc zk) vA zp w1 hA (by have h1 := NB.out; have h2 := NE.out; (try simp only [List.length_append]); omega) (ZI.out.2.1)).mono ?_
                      rintro e w5 ⟨v5, rfl, hB, hb5⟩
                      exact ⟨_, rfl, hB, (hW.upd hb5 6 137 _ (by decide) (by decide)), fun jq vq _ hq => by
                        revert hq
                        match jq with
                        | 0 => exact fun hq => hq.on hb5
                        | 3 => exact fun hq => hq.on hb5
                        | 6 => exact fun hq => hq.on hb5
                        | 9 => exact fun hq => hq.on hb5
                        | 10 => exact fun hq => hq.on hb5
                        | 1 | 2 | 4 | 5 | 7 | 8 | _ + 11 => exact fun hq => hq⟩
                    · intro a w1 live S E D C' h0 hk hW
                      have eb : a.eval (.tmp 15) = .pointer (some ⟨gy, 0, none⟩) := E 15 rfl
                      exact Rgs.val rfl (Reg.wanted_free rfl) (.pointer (some ⟨gy, 2, none⟩)) (by have c := Reg.consts a; generalize a.eval = ρ at *; simp [execOp, go_sem, c.1, c.2, eb]) rfl (hW.upd (Below.refl _ _) 7 138 _ (by decide) (by decide))
                    · intro a w1 live S E D C' h0 hk hW
                      have d0 : a.eval (.tmp 138) = .pointer (some ⟨gy, 2, none⟩) := D 7 rfl _ _ rfl rfl
                      have hc := (hW.on.cell (p := ⟨gy, 2, none⟩) (GY.out)).trans ((HFY.out 2 _ rfl))
                      exact Rgs.val rfl (Reg.wanted_free rfl) (.int .i64 zn) (by have c := Reg.consts a; generalize a.eval = ρ at *; simp [execOp, go_sem, c.1, c.2, d0, hc]) rfl (hW.upd (Below.refl _ _) 8 139 _ (by decide) (by decide))
                    · intro a w1 live S E D C' h0 hk hW
                      have hA : BtS (NF k ++ Num.enc zk ++ Num.enc zp) (a.eval (.tmp 137)) w1 := D 6 rfl _ _ rfl rfl
                      have dB : a.eval (.tmp 139) = .int .i64 zn := D 8 rfl _ _ rfl rfl
                      generalize hv : a.eval (.tmp 137) = vA at hA
                      refine Rgs.call rfl (Reg.wanted_free rfl) 23 #[vA, .int .i64 zn] (by have c := Reg.consts a; generalize a.eval = ρ at *; simp [execOp, go_sem, c.1, c.2, hv, dB]) ?_
                      refine (put_bt (NF k ++ Num.enc zk ++ Num.enc zp) vA zn w1 hA (by have h1 := NB.out; have h2 := NE.out; (try simp only [List.length_append]); omega) (ZI.out.2.2)).mono ?_
                      rintro e w5 ⟨v5, rfl, hB, hb5⟩
                      exact ⟨_, rfl, hB, (hW.upd hb5 9 140 _ (by decide) (by decide)), fun jq vq _ hq => by
                        revert hq
                        match jq with
                        | 0 => exact fun hq => hq.on hb5
                        | 3 => exact fun hq => hq.on hb5
                        | 6 => exact fun hq => hq.on hb5
                        | 9 => exact fun hq => hq.on hb5
                        | 10 => exact fun hq => hq.on hb5
                        | 1 | 2 | 4 | 5 | 7 | 8 | _ + 11 => exact fun hq => hq⟩
                    · intro a w1 live S E D C' h0 hk hW
                      have hA : BtS (NF k ++ Num.enc zk ++ Num.enc zp ++ Num.enc zn) (a.eval (.tmp 140)) w1 := D 9 rfl _ _ rfl rfl
                      generalize hv : a.eval (.tmp 140) = vA at hA
                      exact Rgs.val rfl (Reg.wanted_free rfl) vA (by have c := Reg.consts a; generalize a.eval = ρ at *; simp [execOp, go_sem, c.1, c.2, hv]) hA ⟨hW.on, fun e => absurd e (by rw [Rgs.upd_self]; decide)⟩
                  intro a w9 live hs hd E Dv Hl hW
                  obtain ⟨v9, hv9, he9⟩ := Dv 10 _ rfl
                  have e3 : a.eval (.tmp 3) = v9 := he9 3 rfl
                  rw [Rgs.act_ws a _ _ hs hd E [131, 132, 133, 134, 135, 136, 137, 138, 139, 140, 3] (by kernel_rfl)]
                  simp only [List.foldl, List.setIfInBounds_toArray, List.set_cons_succ, List.set_cons_zero, e3]
                  have HV9 : Hid (BtS (NF (k + 1)) v9 w9) := Lib.hid (by rw [EN.out]; exact hv9)
                  have HX9 := Lib.hid hW.on
                  clear E Dv Hl hW e3 he9 hv9
                  generalize a.eval = ρ9
                  clear a hs hd
                  have HB9 := Lib.hid (HB8.out.trans (HX9.out.mono HB8.out.size))
                  obtain ⟨A9, c9, rfl, hr9⟩ := HV9.out
                  have HR9 := Lib.hid hr9
                  clear HX9 HV8 HV9 hr9 HB8 EN ZI NB NE HFY GY
                  go_wp2_with fail
                  go_roundw
                  case rel => exact ⟨k + 1, A9, _, c9, by omega, by go_num, rfl, ⟨A9, c9, rfl, HR9.out⟩, HB9.out⟩
                  case measure => simp [intOf]; omega
                · have hlk' : ¬ (k : Int) < (tn : Int) := by omega
                  have HV9 : Hid (BtS (TF (t + 1)) (.slice A na ca) wr) := Lib.hid (by
                    have h := HV.out
                    rw [show k = tn by omega, ← HNE.out] at h
                    exact h)
                  have HB9 := Lib.hid (HB6.out.trans (hb.mono HB6.out.size))
                  clear HV HNS HNE HNB hb
                  go_wp2_with fail
                  go_roundw
                  case rel => exact ⟨t + 1, A, na, ca, by omega, by go_num, rfl, HV9.out, HB9.out⟩
                  case measure => simp [intOf]; omega
            · have hlt3' : ¬ (t : Int) < (n3 : Int) := by omega
              have hte : t = n3 := by omega
              have HV3 : Hid (BtS (TF n3) (.slice A na ca) wr) := Lib.hid (by
                have h := HV.out
                rw [hte] at h
                exact h)
              have TB := Lib.hid (HTLB.out n3 (Nat.le_refl _))
              have HB3 := Lib.hid (HW.out _ hb)
              clear HV hte HTS HTLB HTI HTB hb
              go_wp2_with fail
              refine (seal_md (TF n3) _ wr HV3.out (by have := TB.out; omega)).mono ?_
              rintro e w4 ⟨A4, n4, c4, rfl, hv4, hb4⟩
              rw [HEND.out] at hv4
              have HV4 := Lib.hid (hv4.weak HB3.out.size)
              have HB4 := Lib.hid (HB3.out.trans (hb4.mono HB3.out.size))
              clear hv4 hb4 HV3 HB3
              go_wp2_with fail
              go_ret
              exact ⟨A4, n4, c4, rfl, HV4.out, HB4.out⟩
end Go.Proofs.YtebcfiifaclniaaGreat
