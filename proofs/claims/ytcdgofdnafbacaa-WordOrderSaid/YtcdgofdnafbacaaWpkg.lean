/- What package word answers. -/
import Derived.Test.YtcdgofdnafbacaaWprg
import Derived.Test.YtcdgofdnafbacaaWswp
import Derived.OpenShut
namespace Go.Proofs.Ytcdgofdnafbacaa
open Go.RowKit Tab

theorem wordW : WordW := ⟨wdiffer_any, wsame_any, fun A n c L a b w h hc hn ht => (wproj_any A n c L a b w h hc hn ht).mono fun _ _ k => k.w, wswap_any⟩
theorem i64_in {a : Int} (h : (Lit.int .i64 a).wf = true) : -9223372036854775808 ≤ a ∧ a ≤ 9223372036854775807 := by simpa using Go.bounds_i64 h
end Go.Proofs.Ytcdgofdnafbacaa
