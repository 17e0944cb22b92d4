/-
  The walks of Next, the program's and the document's: the next ballot of any, for any replica. No conditions.
-/
import Derived.Test.YtnlpfapfijckiaaSmall
namespace Go.Proofs.Ytnlpfapfijckiaa
open Go.RowKit
attribute [local go_sem ↓ high] eq23 guard23 neq23 guard23n

theorem w2_box (w : World) (x y u v : Int) : Bx ((w.alloc (.cells #[.int .i64 x, .int .i64 y] 23)).alloc (.cells #[.int .i64 u, .int .i64 v] 23)) (w.heap.size + 1) u v := by
  have := bx_new (w.alloc (.cells #[.int .i64 x, .int .i64 y] 23)) u v
  rw [show (w.alloc (.cells #[.int .i64 x, .int .i64 y] 23)).heap.size = w.heap.size + 1 by simp] at this
  exact this

theorem nx_end {w w' : World} {x z : Int} (h : ¬ (1 ≤ z ∧ z ≤ 7 ∧ 0 ≤ x ∧ x < 1073741824)) (hb : Below w.heap.size w w') : NextPost w (nn x z) (ny x z) (nb x z) (.returned (.tuple #[.agg #[.int .i64 0, .int .i64 0], .bool false])) w' := by
  obtain ⟨e1, e2, e3⟩ := nx_none h
  rw [e1, e2, e3]; exact ⟨rfl, hb⟩
theorem nx_go {w w' : World} {x z : Int} (h : 1 ≤ z ∧ z ≤ 7 ∧ 0 ≤ x ∧ x < 1073741824) (hb : Below w.heap.size w w') : NextPost w (nn x z) (ny x z) (nb x z) (.returned (.tuple #[.agg #[.int .i64 (x + 1), .int .i64 z], .bool true])) w' := by
  obtain ⟨e1, e2, e3⟩ := nx_some h
  rw [e1, e2, e3]; exact ⟨rfl, hb⟩

theorem next_any (x y z : Int) (w : World) : Calls Try.prog 9 #[.agg #[.int .i64 x, .int .i64 y], .int .i64 z] w (NextPost w (nn x z) (ny x z) (nb x z)) := by
  have HI : ∀ W, Hid (Calls Try.prog 18 #[.int .i64 z] W fun e w' => e = .returned (.bool (ir z)) ∧ W = w') := fun W => ir_any z W
  rcases hi : ir z with _ | _
  · have hz := ir_not.1 hi
    rw [hi] at HI
    clear hi
    go_enter Try.func9, Try.ntmps9
    go_wp2_with (refine (HI _).out.mono ?_; rintro e w' ⟨rfl, rfl⟩)
    exact bodyPost_ret (run_res9 (B := w.heap.size + 1) rfl rfl (w2_box w x y 0 0).bb) rfl (nx_end (by omega) (two_below w x y 0 0))
  · have hz := ir_iff.1 hi
    rw [hi] at HI
    clear hi
    by_cases h1 : x < 0
    · go_enter Try.func9, Try.ntmps9
      go_wp2_with (refine (HI _).out.mono ?_; rintro e w' ⟨rfl, rfl⟩)
      exact bodyPost_ret (run_res9 (B := w.heap.size + 1) rfl rfl (w2_box w x y 0 0).bb) rfl (nx_end (by omega) (two_below w x y 0 0))
    · by_cases h2 : 1073741824 ≤ x
      · go_enter Try.func9, Try.ntmps9
        go_wp2_with (refine (HI _).out.mono ?_; rintro e w' ⟨rfl, rfl⟩)
        exact bodyPost_ret (run_res9 (B := w.heap.size + 1) rfl rfl (w2_box w x y 0 0).bb) rfl (nx_end (by omega) (two_below w x y 0 0))
      · go_enter Try.func9, Try.ntmps9
        go_wp2_with (refine (HI _).out.mono ?_; rintro e w' ⟨rfl, rfl⟩)
        exact bodyPost_ret (run_res9 (B := w.heap.size + 1) rfl rfl (w2_box w x y (x + 1) z).bb) rfl (nx_go (by omega) (two_below w x y (x + 1) z))

theorem rnext_any (x y z : Int) (w : World) : Calls Try.prog 10 #[.agg #[.int .i64 x, .int .i64 y], .int .i64 z] w (NextPost w (nn x z) (ny x z) (nb x z)) := by
  by_cases h3 : z < 1
  · go_enter Try.func10, Try.ntmps10
    go_wp2
    exact bodyPost_ret (run_res10 (B := w.heap.size + 1) rfl rfl (w2_box w x y 0 0).bb) rfl (nx_end (by omega) (two_below w x y 0 0))
  by_cases h4 : 7 < z
  · go_enter Try.func10, Try.ntmps10
    go_wp2
    exact bodyPost_ret (run_res10 (B := w.heap.size + 1) rfl rfl (w2_box w x y 0 0).bb) rfl (nx_end (by omega) (two_below w x y 0 0))
  by_cases h1 : x < 0
  · go_enter Try.func10, Try.ntmps10
    go_wp2
    exact bodyPost_ret (run_res10 (B := w.heap.size + 1) rfl rfl (w2_box w x y 0 0).bb) rfl (nx_end (by omega) (two_below w x y 0 0))
  by_cases h2 : 1073741824 ≤ x
  · go_enter Try.func10, Try.ntmps10
    go_wp2
    exact bodyPost_ret (run_res10 (B := w.heap.size + 1) rfl rfl (w2_box w x y 0 0).bb) rfl (nx_end (by omega) (two_below w x y 0 0))
  · go_enter Try.func10, Try.ntmps10
    go_wp2
    exact bodyPost_ret (run_res10 (B := w.heap.size + 1) rfl rfl (w2_box w x y (x + 1) z).bb) rfl (nx_go (by omega) (two_below w x y (x + 1) z))

end Go.Proofs.Ytnlpfapfijckiaa
