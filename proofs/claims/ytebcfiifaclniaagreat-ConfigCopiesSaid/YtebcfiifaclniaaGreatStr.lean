/- append of a text's bytes onto a row of the call's own. -/
import Derived.Test.YtebcfiifaclniaaGreatMem
import Derived.Lib.AppendStr
namespace Go.Proofs.YtebcfiifaclniaaGreat
set_option maxRecDepth 100000
open Go.RowKit

theorem run_apps (w : World) (B : Nat) (A : Option Addr) (n c : Nat) (l0 : List UInt8) (h : Own w B A n c l0) (s : ByteArray)
    (hb : n + s.size ≤ 140737488355328) (hB : B ≤ w.heap.size) :
    ∃ A' c' w', (Builtin.append_ #[34, 9] 34 #[.slice A n c, .string s]).run Tryz.prog w = .ok (.slice A' (n + s.size) c') w' ∧ Own w' B A' (n + s.size) c' (l0 ++ s.data.toList) ∧ Below B w w' := by
  obtain ⟨i, hi, hz, hs, hby⟩ := info_parts u8_info
  obtain ⟨v', w', hrun, hown, hgr, hnil⟩ := Lib.run_append_own_string (P := Tryz.prog) w B 34 9 34 5 i Tryz.underlying34 Tryz.underlying9 hi hz hs hby (.slice A n c) n (bs l0) h s
    (by unfold maxLen; omega) (by omega) hB
  have hbel : Below B w w' := (Below.refl _ _).grown hgr hB (fun k hk => by
    rcases h.2 with ⟨hv, _⟩ | ⟨g, cap, cur, hv, hbg, _⟩
    · rw [hv] at hk; simp [Value.ownBlock] at hk
    · rw [hv] at hk; simp [Value.ownBlock] at hk; omega)
  have e : Lib.strCells s = bs s.data.toList := rfl
  rw [e, ← bs_append] at hown
  rcases hown.2 with ⟨hv, h0⟩ | ⟨g, cap, cur, hv, _⟩
  · subst hv
    have e : n + s.size = 0 := h0
    refine ⟨none, 0, w', by rw [hrun, e], ?_, hbel⟩
    unfold Own; rw [e] at hown ⊢; exact hown
  · subst hv
    exact ⟨_, _, w', hrun, hown, hbel⟩
theorem wpList_apps {ops : Array Oper} {rest : List Oper} {o : Oper} {a : Act} {Q : Exit → Act → World → Prop} {w : World} (hgd : o.guard = none) (s x : Operand)
    (ho : o.op = .call { callee := .builtin .append, args := #[s, x], argTypes := #[34, 9] }) (hty : o.type = 34)
    (B : Nat) (A : Option Addr) (n c : Nat) (l0 : List UInt8) (hs : a.eval s = .slice A n c) (h : Own w B A n c l0) (t : ByteArray) (hx : a.eval x = .string t)
    (N : Nat) (hN : n + t.size = N) (L : List UInt8) (hL : l0 ++ t.data.toList = L) (hb : N ≤ 140737488355328) (hB : B ≤ w.heap.size)
    (hK : ∀ A' c' w', Own w' B A' N c' L → Below B w w' → wpList Tryz.prog ops Q rest (a.put o.dst (.slice A' N c')) w') : wpList Tryz.prog ops Q (o :: rest) a w := by
  subst hN; subst hL
  refine wpList_plain hgd fun K hk => ?_
  obtain ⟨A', c', w', hrun, h1, h2⟩ := run_apps w B A n c l0 h t hb hB
  unfold Oper.wp execOp
  simp only [ho, hty, resolve, invoke, builtin, Sem.run_bind, Sem.run_pure, Result.andThen_ok, List.map_toArray, List.map_cons, List.map_nil, hs, hx, hrun]
  exact hk _ _ (hK A' c' w' h1 h2)
end Go.Proofs.YtebcfiifaclniaaGreat
