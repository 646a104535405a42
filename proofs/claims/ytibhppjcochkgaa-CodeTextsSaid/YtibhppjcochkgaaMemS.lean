/- Rows of texts of the call's own: what append of one makes of them. -/
import Derived.Test.YtibhppjcochkgaaMem
namespace Go.Proofs.Ytibhppjcochkgaa
open Go.RowKit

theorem str_info : (Try.prog.info? 9).map (fun i => (i.zero, i.size, i.bytes)) = some (some (.string ⟨#[]⟩), 1, 16) := by kernel_rfl
def ss (l : List ByteArray) : List Value := l.map Value.string
/-- The slice is a row of texts of the call's own, block B or behind it; it holds l. -/
def OwnS (w : World) (B : Nat) (A : Option Addr) (n c : Nat) (l : List ByteArray) : Prop :=
  w.ownsRow B 9 1 (.slice A n c) n (ss l)
section
variable {w w' : World} {B B' n c : Nat} {A : Option Addr} {l : List ByteArray}
theorem OwnS.len (h : OwnS w B A n c l) : l.length = n := by
  have := h.1
  simp [ss] at this; exact this
theorem OwnS.block (h : OwnS w B A n c l) (hn : 0 < n) : ∃ g, A = some ⟨g, 0, none⟩ ∧ B ≤ g ∧ g < w.heap.size := by
  rcases h.2 with ⟨_, h0⟩ | ⟨g, cap, cur, hv, hb, hg, _⟩
  · omega
  · injection hv with h1
    exact ⟨g, h1, hb, (Array.getElem?_eq_some_iff.1 hg).1⟩
/-- It reads as what it holds, wherever the cells are as they were below a block behind it. -/
theorem OwnS.rdc (h : OwnS w B A n c l) (f : Nat → ByteArray) (hf : ∀ j, j < n → l[j]? = some (f j)) : RdC w w.heap.size A n (fun j => .string (f j)) := fun hn => by
  obtain ⟨g, rfl, _, hlt⟩ := h.block hn
  exact ⟨_, rfl, hlt, fun j hj => World.ownsRow.cells h (g := g) rfl j _ (by simp [ss, hf j hj])⟩
theorem OwnS.keep (h : OwnS w B A n c l) (hk : ∀ b, B ≤ b → b < w.heap.size → w'.heap[b]? = w.heap[b]?) : OwnS w' B A n c l := by
  refine ⟨h.1, ?_⟩
  rcases h.2 with hv | ⟨g, cap, cur, hv, hbg, hg, r⟩
  · exact .inl hv
  · exact .inr ⟨g, cap, cur, hv, hbg, by rw [hk g hbg (Array.getElem?_eq_some_iff.1 hg).1]; exact hg, r⟩
theorem OwnS.below (h : OwnS w B A n c l) (hs : B' = w.heap.size) (hb : Below B' w w') : OwnS w' B A n c l := by
  subst hs
  exact h.keep fun b _ hlt => hb.block b hlt
end
theorem ownS_nil (w : World) (B : Nat) : OwnS w B none 0 0 [] := World.ownsRow_nil _ _ _ _
/-- append of one text that lies at ad: no block turns but the row's own. -/
theorem run_appS (w : World) (B : Nat) (A : Option Addr) (n c : Nat) (l : List ByteArray) (h : OwnS w B A n c l) (ad : Addr) (d : Nat) (s : ByteArray) (hc : w.cell? ad = some (.string s))
    (hb : (n + 1) * 16 ≤ 140737488355328) (hB : B ≤ w.heap.size) :
    ∃ A' c' w', (Builtin.append_ #[36, 36] 36 #[.slice A n c, .slice (some ad) 1 d]).run Try.prog w = .ok (.slice A' (n + 1) c') w' ∧ OwnS w' B A' (n + 1) c' (l ++ [s]) ∧ Below B w w' ∧
      ∀ Bb, (∀ g, A = some ⟨g, 0, none⟩ → g < Bb) → ∀ b, Bb ≤ b → b < w.heap.size → w'.heap[b]? = w.heap[b]? := by
  obtain ⟨i, hi, hz, hs, hby⟩ := info_parts str_info
  obtain ⟨v', w', hrun, hown, hgr, hnil, hat⟩ := run_append_own_at (P := Try.prog) w B 36 36 9 i _ 1 16 Try.underlying36 hi hz hs hby rfl (by omega) (.slice A n c) n (ss l) h ad 1 d [.string s] rfl
    (fun j u hu => by
      obtain ⟨hj, rfl⟩ := List.getElem?_eq_some_iff.1 hu
      have : j = 0 := by simpa using hj
      subst this
      have e : ad.add 0 = ad := by simp [Addr.add]
      rw [e]; exact hc) (by intro u hu; simp at hu; subst hu; rfl) (by unfold maxLen; omega) (by omega) hB
  have hbel : Below B w w' := (Below.refl _ _).grown hgr hB (fun k hk => by
    rcases h.2 with ⟨hv, _⟩ | ⟨g, cap, cur, hv, hbg, _⟩
    · rw [hv] at hk; simp [Value.ownBlock] at hk
    · rw [hv] at hk; simp [Value.ownBlock] at hk; omega)
  have e : ss l ++ [.string s] = ss (l ++ [s]) := by simp [ss]
  rw [e] at hown
  have hoth : ∀ Bb, (∀ g, A = some ⟨g, 0, none⟩ → g < Bb) → ∀ b, Bb ≤ b → b < w.heap.size → w'.heap[b]? = w.heap[b]? := fun Bb hg b hb hlt => by
    refine hgr.block b hlt fun hk => ?_
    rcases h.2 with ⟨hv, _⟩ | ⟨g, cap, cur, hv, hbg, _⟩
    · rw [hv] at hk; simp [Value.ownBlock] at hk
    · have h1 : A = some ⟨g, 0, none⟩ := by injection hv
      have := hg g h1
      rw [hv] at hk
      simp [Value.ownBlock] at hk
      omega
  rcases hown.2 with ⟨hv, h0⟩ | ⟨g, cap, cur, hv, _⟩
  · omega
  · subst hv
    exact ⟨_, _, w', hrun, hown, hbel, hoth⟩
theorem wpList_appS {ops : Array Oper} {rest : List Oper} {o : Oper} {a : Act} {Q : Exit → Act → World → Prop} {w : World} (hgd : o.guard = none) (s x : Operand)
    (ho : o.op = .call { callee := .builtin .append, args := #[s, x], argTypes := #[36, 36] }) (hty : o.type = 36)
    (B : Nat) (A : Option Addr) (n c : Nat) (l : List ByteArray) (hs : a.eval s = .slice A n c) (h : OwnS w B A n c l) (ad : Addr) (d : Nat) (t : ByteArray) (hx : a.eval x = .slice (some ad) 1 d) (hc : w.cell? ad = some (.string t))
    (hb : (n + 1) * 16 ≤ 140737488355328) (hB : B ≤ w.heap.size)
    (hK : ∀ A' c' w', OwnS w' B A' (n + 1) c' (l ++ [t]) → Below B w w' → (∀ Bb, (∀ g, A = some ⟨g, 0, none⟩ → g < Bb) → ∀ b, Bb ≤ b → b < w.heap.size → w'.heap[b]? = w.heap[b]?) → wpList Try.prog ops Q rest (a.put o.dst (.slice A' (n + 1) c')) w') : wpList Try.prog ops Q (o :: rest) a w := by
  refine wpList_plain hgd fun K hk => ?_
  obtain ⟨A', c', w', hrun, h1, h2, h3⟩ := run_appS w B A n c l h ad d t hc hb hB
  unfold Oper.wp execOp
  simp only [ho, hty, resolve, invoke, builtin, Sem.run_bind, Sem.run_pure, Result.andThen_ok, List.map_toArray, List.map_cons, List.map_nil, hs, hx, hrun]
  exact hk _ _ (hK A' c' w' h1 h2 h3)
end Go.Proofs.Ytibhppjcochkgaa
