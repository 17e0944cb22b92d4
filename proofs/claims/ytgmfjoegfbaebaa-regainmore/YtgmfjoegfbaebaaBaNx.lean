/-
  The walks of Next, the program's and the document's: the next ballot of any, for any replica. No conditions.
-/
import Derived.Test.YtgmfjoegfbaebaaBaSmall
namespace Go.Proofs.Ytgmfjoegfbaebaa.Ba
open Go.RowKit
attribute [local go_sem ↓ high] eq23 guard23 neq23 guard23n

theorem w2_box (w : World) (x y u v : Int) : Bx ((w.alloc (.cells #[.int .i64 x, .int .i64 y] 40)).alloc (.cells #[.int .i64 u, .int .i64 v] 40)) (w.heap.size + 1) u v := by
  have := bx_new (w.alloc (.cells #[.int .i64 x, .int .i64 y] 40)) u v
  rw [show (w.alloc (.cells #[.int .i64 x, .int .i64 y] 40)).heap.size = w.heap.size + 1 by simp] at this
  exact this

theorem nx_end {w w' : World} {x z : Int} (h : ¬ (1 ≤ z ∧ z ≤ 7 ∧ 0 ≤ x ∧ x < 1073741824)) (hb : Below w.heap.size w w') : NextPost w (nn x z) (ny x z) (nb x z) (.returned (.tuple #[.agg #[.int .i64 0, .int .i64 0], .bool false])) w' := by
  obtain ⟨e1, e2, e3⟩ := nx_none h
  rw [e1, e2, e3]; exact ⟨rfl, hb⟩
theorem nx_go {w w' : World} {x z : Int} (h : 1 ≤ z ∧ z ≤ 7 ∧ 0 ≤ x ∧ x < 1073741824) (hb : Below w.heap.size w w') : NextPost w (nn x z) (ny x z) (nb x z) (.returned (.tuple #[.agg #[.int .i64 (x + 1), .int .i64 z], .bool true])) w' := by
  obtain ⟨e1, e2, e3⟩ := nx_some h
  rw [e1, e2, e3]; exact ⟨rfl, hb⟩

end Go.Proofs.Ytgmfjoegfbaebaa.Ba
