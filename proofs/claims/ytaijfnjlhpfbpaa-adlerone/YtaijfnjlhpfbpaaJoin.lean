/-
  The walks of adler.May, Join and Drop, and of the document's Join and Drop: they answer what 'may', 'jn' and 'dr' say. Conditions: numbers of 32 bits, a byte, an int.
-/
import Derived.Test.YtaijfnjlhpfbpaaSum
import Derived.Deep.RegionHeld3
import Derived.Deep.DrawnRows
import Derived.Laws.StructEq
namespace Go.Proofs.Ytaijfnjlhpfbpaa
open Go.RowKit
attribute [local go_sem ↓] Go.wp_at_zero Go.wp_at_succ

theorem eq37 (w : World) (x y u v : Int) : (binOp .eql 37 (.agg #[.int .i64 x, .int .i64 y]) (.agg #[.int .i64 u, .int .i64 v])).run Try.prog w = .ok (.bool ((x == u) && (y == v))) w := by
  rw [run_eql_struct, show (10000 : Nat) = 9999 + 1 from rfl, run_equalIn_struct w 9999 37 _ _ (by kernel_rfl) (by kernel_rfl)]
  simp [Op.eqFields, go_sem]
  by_cases h : x = u <;> by_cases k : y = v <;> simp [h, k]
theorem guard37 (w : World) (a b : Operand) (xs ys : Array Value) : (eqGuard .eql 37 a b (.agg xs) (.agg ys)).run Try.prog w = .ok () w := run_eqGuard_agg w .eql 37 a b xs ys (by kernel_rfl)
attribute [local go_sem ↓ high] eq37 guard37

def MayPost (w : World) (n : Int) (e : Ending) (w' : World) : Prop := e = .returned (.bool (may n)) ∧ Below w.heap.size w w'

set_option maxHeartbeats 1000000 in
theorem may_any (n : Int) (w : World) (h0 : 0 ≤ n) (h1 : n < 4294967296) : Calls Try.prog 13 #[.int .u32 n] w (MayPost w n) := by
  have HS := Lib.hid (split_any n w h0 h1)
  have x0 : 0 ≤ n % 65536 := by omega
  have x1 : n % 65536 < 65536 := by omega
  have y0 : 0 ≤ n / 65536 := by omega
  have y1 : n / 65536 < 65536 := by omega
  have HM := Lib.hid (show may n = decide (n % 65536 < 65521 ∧ n / 65536 < 65521) from rfl)
  generalize n % 65536 = x at *
  generalize n / 65536 = y at *
  go_enter Try.func13, Try.ntmps13
  go_wp2_with fail
  refine HS.out.mono ?_
  rintro e w1 ⟨rfl, hb1⟩
  go_wp2_with fail
  go_region_held3 (fun v => v.cell? ⟨w1.heap.size, 0, none⟩ = some (.int .i64 x) ∧ v.cell? ⟨w1.heap.size, 1, none⟩ = some (.int .i64 y)) (go_keep) (first | (go_at_call 19; refine (half1 _ 1 x _ ?_ (by omega) (by omega)).mono ?_; (focus (simp [go_sem]; done)); rintro e w' ⟨rfl, rfl⟩) | (go_at_call 19; refine (half1 _ 1 y _ ?_ (by omega) (by omega)).mono ?_; (focus (simp [go_sem]; done)); rintro e w' ⟨rfl, rfl⟩))
  all_goals
    go_wp2
    go_ret
    refine ⟨ret_bool ?_, ?_⟩
    · rw [HM.out, Bool.eq_iff_iff]; simp; omega
    · exact (((hb1.alloc hb1.size _).alloc (by have := hb1.size; simp; omega) _).alloc (by have := hb1.size; simp; omega) _).drew

def U32Post (w : World) (n : Int) (e : Ending) (w' : World) : Prop := e = .returned (.int .u32 n) ∧ Below w.heap.size w w'

theorem wh_id {x y : Int} (x0 : 0 ≤ x) (x1 : x < 65521) (y0 : 0 ≤ y) (y1 : y < 65521) : y * 65536 + x = wh x y := by unfold wh; omega

theorem prod_bd {k x : Int} (k0 : 0 ≤ k) (k1 : k < 65521) (x0 : -1 ≤ x) (x1 : x ≤ 65536) : -65521 ≤ k * x ∧ k * x ≤ 4294049777 := by
  refine ⟨?_, ?_⟩
  · have := Int.mul_le_mul_of_nonneg_left x0 k0; omega
  · have := Int.mul_le_mul_of_nonneg_left x1 k0; omega

set_option maxHeartbeats 1000000 in
theorem join_any (a b n : Int) (w : World) (a0 : 0 ≤ a) (a1 : a < 4294967296) (b0 : 0 ≤ b) (b1 : b < 4294967296) (n0 : -9223372036854775808 ≤ n) (n1 : n ≤ 9223372036854775807) :
    Calls Try.prog 15 #[.int .u32 a, .int .u32 b, .int .i64 n] w (U32Post w (jn a b n)) := by
  have HA := Lib.hid (split_any a w a0 a1)
  have HB : ∀ W, Hid (Calls Try.prog 23 #[.int .u32 b] W fun e w' => e = .returned (.agg #[.int .i64 (b % 65536), .int .i64 (b / 65536)]) ∧ Below W.heap.size W w') := fun W => split_any b W b0 b1
  have HC : ∀ W, Hid (Calls Try.prog 24 #[.int .i64 n] W fun e w' => e = .returned (.int .i64 (cut0 n % 65521)) ∧ W = w') := fun W => count_any n W n0 n1
  have x0 : 0 ≤ a % 65536 := by omega
  have x1 : a % 65536 < 65536 := by omega
  have y0 : 0 ≤ a / 65536 := by omega
  have y1 : a / 65536 < 65536 := by omega
  have u0 : 0 ≤ b % 65536 := by omega
  have u1 : b % 65536 < 65536 := by omega
  have v0 : 0 ≤ b / 65536 := by omega
  have v1 : b / 65536 < 65536 := by omega
  have k0 : 0 ≤ cut0 n % 65521 := by omega
  have k1 : cut0 n % 65521 < 65521 := by omega
  have HJ := Lib.hid (show jn a b n = wh (a % 65536 + b % 65536 - 1) (a / 65536 + b / 65536 + (cut0 n % 65521) * (a % 65536 - 1)) from rfl)
  generalize jn a b n = z at *
  generalize a % 65536 = x at *
  generalize a / 65536 = y at *
  generalize b % 65536 = u at *
  generalize b / 65536 = v at *
  generalize cut0 n % 65521 = k at *
  obtain ⟨p0, p1⟩ := prod_bd (x := x - 1) k0 k1 (by omega) (by omega)
  have q1 : IntKind.i64.wrap (x - 1) = x - 1 := IntWalk.i64_in _ (by omega)
  have q2 : IntKind.i64.wrap (k * (x - 1)) = k * (x - 1) := IntWalk.i64_in _ (by omega)
  have Q1 := Lib.hid q1
  have Q2 := Lib.hid q2
  clear q1 q2
  go_enter Try.func15, Try.ntmps15
  go_wp2_with fail
  refine HA.out.mono ?_
  rintro e w1 ⟨rfl, hb1⟩
  go_wp2_with fail
  refine (HB _).out.mono ?_
  rintro e w2 ⟨rfl, hb2⟩
  go_wp2_with fail
  have q1 := Q1.out
  have q2 := Q2.out
  go_region_held3 (fun v' => v'.cell? ⟨w2.heap.size, 0, none⟩ = some (.int .i64 x) ∧ v'.cell? ⟨w2.heap.size, 1, none⟩ = some (.int .i64 y) ∧ v'.cell? ⟨w2.heap.size + 1, 0, none⟩ = some (.int .i64 u) ∧ v'.cell? ⟨w2.heap.size + 1, 1, none⟩ = some (.int .i64 v)) (first | (go_keep; done) | (((refine ⟨?_, ?_, ?_, ?_⟩) <;> simp [go_sem]); done))
    (first | (go_at_call 24; refine (HC _).out.mono ?_; rintro e w' ⟨rfl, rfl⟩) | (go_at_call 19; refine (half3 _ 3 x u (-1) _ ?_ ?_ ?_ (by omega) (by omega) (by omega) (by omega) (by omega) (by omega)).mono ?_; (focus (simp [go_sem]; done)); (focus (simp [go_sem]; done)); (focus (simp [go_sem]; done)); rintro e w' ⟨rfl, rfl⟩) | (go_at_call 19; refine (half3 _ 3 y v (k * (x - 1)) _ ?_ ?_ ?_ (by omega) (by omega) (by omega) (by omega) (by omega) (by omega)).mono ?_; (focus (simp [go_sem]; done)); (focus (simp [go_sem]; done)); (focus (simp [go_sem]; done)); rintro e w' ⟨rfl, rfl⟩) | (go_at_call 20; refine (whole_at _ _ _ (by omega) (by omega) (by omega) (by omega)).mono ?_; rintro e w3 ⟨rfl, rfl⟩))
  all_goals
    clear q1 q2
    go_wp2
    go_ret
    refine ⟨ret_int ?_, ?_⟩
    · rw [HJ.out]; rfl
    · have hz := hb1.size
      have hz2 := hb2.size
      exact (((((((hb1.trans (hb2.mono hz)).alloc (by omega) _).alloc (by simp; omega) _).alloc (by simp; omega) _).alloc (by simp; omega) _).alloc (by simp; omega) _)).drew

end Go.Proofs.Ytaijfnjlhpfbpaa
