/-
  How the program compares two instances. No program's function is walked here. No conditions.
-/
import Derived.Test.YtmeklhlojogdnaaDoorIxm
namespace Go.Proofs.YtmeklhlojogdnaaDoor

theorem eq26 (w : World) (x y u v : Int) : (binOp .eql 26 (.agg #[.int .i64 x, .int .i64 y]) (.agg #[.int .i64 u, .int .i64 v])).run Tryd.prog w = .ok (.bool ((x == u) && (y == v))) w := by
  rw [run_eql_struct, show (10000 : Nat) = 9999 + 1 from rfl, run_equalIn_struct w 9999 26 _ _ (by kernel_rfl) (by kernel_rfl)]
  simp [Op.eqFields, go_sem]
  by_cases h : x = u <;> by_cases k : y = v <;> simp [h, k]
theorem guard26 (w : World) (a b : Operand) (xs ys : Array Value) : (eqGuard .eql 26 a b (.agg xs) (.agg ys)).run Tryd.prog w = .ok () w := run_eqGuard_agg w .eql 26 a b xs ys (by kernel_rfl)
theorem neq26 (w : World) (x y u v : Int) : (binOp .neq 26 (.agg #[.int .i64 x, .int .i64 y]) (.agg #[.int .i64 u, .int .i64 v])).run Tryd.prog w = .ok (.bool (!((x == u) && (y == v)))) w := by
  have := eq26 w x y u v
  rw [run_eql_struct] at this
  rw [run_neq_struct]
  generalize (Op.equalIn 10000 26 (.agg #[.int .i64 x, .int .i64 y]) (.agg #[.int .i64 u, .int .i64 v])).run Tryd.prog w = r at *
  cases r with
  | ok b w' =>
    simp only [Result.andThen_ok, Result.ok.injEq, Value.bool.injEq] at this ⊢
    exact ⟨by rw [this.1], this.2⟩
  | _ => simp [Result.andThen] at this
theorem guard26n (w : World) (a b : Operand) (xs ys : Array Value) : (eqGuard .neq 26 a b (.agg xs) (.agg ys)).run Tryd.prog w = .ok () w := run_eqGuard_agg w .neq 26 a b xs ys (by kernel_rfl)
theorem same_yes {x y u v : Int} (h : (x, y) = (u, v)) : ((x == u) && (y == v)) = true := by cases h; simp
theorem same_no {x y u v : Int} (h : (x, y) ≠ (u, v)) : ((x == u) && (y == v)) = false := by
  rcases hb : ((x == u) && (y == v)) with _ | _
  · rfl
  · simp at hb; exact absurd (by rw [hb.1, hb.2]) h

end Go.Proofs.YtmeklhlojogdnaaDoor
