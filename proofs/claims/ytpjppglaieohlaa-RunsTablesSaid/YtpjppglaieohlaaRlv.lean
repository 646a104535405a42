/- The leaves of a table that is right, by the document's own answer. -/
import Derived.Test.YtpjppglaieohlaaRleaves
import Derived.Test.YtpjppglaieohlaaRight
import Derived.Test.YtpjppglaieohlaaCur
namespace Go.Proofs.Ytpjppglaieohlaa
open Go.RowKit Tab
set_option linter.unusedSimpArgs false
set_option linter.unusedVariables false

/-- It answers a row of runs, new. -/
def MadeR (L : List Rn) (w : World) (e : Ending) (w' : World) : Prop := ∃ A c, e = .returned (.slice A L.length c) ∧ RdR w' w'.heap.size A L.length L ∧ L.length ≤ c ∧ Below w.heap.size w w' ∧ ∀ ad, A = some ad → w.heap.size ≤ ad.block
theorem OwnV.rdr {w : World} {B n c : Nat} {A : Option Addr} {L : List Rn} (h : OwnV 30 2 w B A n c (rs L)) : RdR w w.heap.size A n L := ⟨by have := h.len; rw [rs_length] at this; omega, h.rd⟩
set_option maxHeartbeats 400000 in
theorem rLeaves_right (A : Option Addr) (n cap : Nat) (x : Nd) (k : F) (w : World) (h : RdN w w.heap.size A n (x :: k.flat)) (hc : n ≤ cap) (hok : (F.cons x k .nil).ok) (hn : n ≤ 128) (hl : F.tick x k.len ≤ 4096) :
    Calls Try.prog 24 #[.slice A n cap] w (MadeR (one x k.lvs) w) := by
  have hpos : ∀ r ∈ one x k.lvs, 1 ≤ r.n := fun r hr => lvs_pos hok r (by simpa [F.lvs] using hr)
  have hlen := length_le_ticks hpos
  rw [one_ticks, lvs_ticks] at hlen
  have hdr : (x :: k.flat).drop 0 = (F.cons x k .nil).flat ++ [] := by simp [F.flat]
  have hL : Calls Try.prog 35 #[.slice A n cap, .int .i64 0, .slice none 0 0] w (MoreR w.heap.size none (one x k.lvs) w) := by
    have := rleaves_any w.heap.size A n cap _ hc (by omega) (k.sz + 1) 0 x k .nil [] w none 0 0 [] (by omega) h hok hdr (Nat.le_refl _) rfl (OwnV.nil _ _ _ _) (by omega)
    simpa using this
  have HL := Lib.hid hL
  clear hL hpos hlen hdr hok
  generalize one x k.lvs = L at HL ⊢
  go_enter Try.func24, Try.ntmps24
  go_wp2_with fail
  refine HL.out.mono ?_
  rintro e w1 ⟨A1, c1, rfl, ho, hb, _⟩
  have HO := Lib.hid ho
  clear ho
  generalize hq : L.length = q
  have HQ := Lib.hid hq
  clear hq
  go_wp2_with fail
  go_ret
  refine ⟨A1, c1, by rw [HQ.out]; rfl, HO.out.rdr, HO.out.cap, hb, HO.out.newer⟩
end Go.Proofs.Ytpjppglaieohlaa
