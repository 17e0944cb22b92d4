/-
  The walk of the statements' own first step ('awake'): the chapter's examples come out as they should. No conditions.
-/
import Derived.Test.YtjcmlelfmnonkaaRf
import Derived.OpenShut
namespace Go.Proofs.Ytjcmlelfmnonkaa
open Go.RowKit Go.Proofs.Ytjcmlelfmnonkaa.Fl
set_option linter.unusedVariables false
set_option maxRecDepth 100000

def UpPost (w : World) (e : Ending) (w' : World) : Prop := e = .returned (.bool true) ∧ Below w.heap.size w w'
theorem below_drewN (w : World) : ∀ q, Below w.heap.size w (w.drewN q)
  | 0 => Below.refl _ _
  | q + 1 => (below_drewN w q).drew
theorem below_q {w v : World} (h : Below w.heap.size w v) (q : Nat) : Below w.heap.size w (v.drewN q) := by
  induction q with
  | zero => exact h
  | succ q ih => exact ih.drew
theorem q1 : qv (-7) 2 = 13838435755002691584 := by decide +kernel
theorem q2 : qv 1 3 = 4599676419421066581 := by decide +kernel
theorem q3 : qv 0 (-5) = 9223372036854775808 := by decide +kernel
theorem q4 : qv (-1) 0 = 18442240474082181120 := by decide +kernel
theorem v1 : fv 13838435755002691584 = -4 := by decide +kernel
theorem v2 : fi 13838435755002691584 = true := by decide +kernel
theorem awake_any (w : World) : Hid (Calls Try.prog 12 #[] w fun e w' => e = .returned (.bool true) ∧ ∃ q, w' = w.drewN q) := by
  refine Lib.hid ?_
  have H1 : ∀ W, Hid (Calls Try.prog 13 #[.int .i64 (-7), .int .i64 2] W (QPost W 13838435755002691584)) := fun W => by have := quot_any (-7) 2 W; rwa [q1] at this
  have H2 : ∀ W, Hid (Calls Try.prog 13 #[.int .i64 1, .int .i64 3] W (QPost W 4599676419421066581)) := fun W => by have := quot_any 1 3 W; rwa [q2] at this
  have H3 : ∀ W, Hid (Calls Try.prog 13 #[.int .i64 0, .int .i64 (-5)] W (QPost W 9223372036854775808)) := fun W => by have := quot_any 0 (-5) W; rwa [q3] at this
  have H4 : ∀ W, Hid (Calls Try.prog 13 #[.int .i64 (-1), .int .i64 0] W (QPost W 18442240474082181120)) := fun W => by have := quot_any (-1) 0 W; rwa [q4] at this
  have H5 : ∀ W, Hid (Calls Try.prog 17 #[.int .u64 13838435755002691584] W fun e w' => e = .returned (.tuple #[.int .i64 (-4), .bool true]) ∧ w' = W) := fun W => by have := floor_any 13838435755002691584 (by omega) W; rwa [v1, v2] at this
  go_enter Try.func12, Try.ntmps12
  go_wp2_with (first | (go_at_call 17; (refine (H5 _).out.mono ?_); rintro e w1 ⟨rfl, rfl⟩) | (go_at_call 13; first | ((with_reducible refine (H1 _).out.mono ?_); rintro e w1 ⟨rfl, n, rfl⟩) | ((with_reducible refine (H2 _).out.mono ?_); rintro e w1 ⟨rfl, n, rfl⟩) | ((with_reducible refine (H3 _).out.mono ?_); rintro e w1 ⟨rfl, n, rfl⟩) | ((with_reducible refine (H4 _).out.mono ?_); rintro e w1 ⟨rfl, n, rfl⟩)))
  go_ret
  exact ⟨rfl, _, rfl⟩
/-- A quotient's bits as a whole number. -/
def QI (w : World) (r : Int) (e : Ending) (w' : World) : Prop := e = .returned (.int .u64 r) ∧ ∃ q, w' = w.drewN q
theorem quoti_any (a b : Int) (w : World) : Hid (Calls Try.prog 13 #[.int .i64 a, .int .i64 b] w (QI w ((qv a b : Nat) : Int))) := quot_any a b w
theorem word_of {n : Int} (h : (Lit.int .u64 n).wf = true) : ∃ x : Nat, n = (x : Int) ∧ x < 18446744073709551616 := by
  have := bounds_u64 h
  exact ⟨n.toNat, by omega, by omega⟩
theorem int_of {n : Int} (h : (Lit.int .i64 n).wf = true) : -9223372036854775808 ≤ n ∧ n ≤ 9223372036854775807 := by
  have := bounds_i64 h
  omega
end Go.Proofs.Ytjcmlelfmnonkaa
