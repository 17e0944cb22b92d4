/-
  The walks of the program's own small functions: what each gives, as the plain theory has it. No conditions but that the arguments are of their kinds.
-/
import Derived.Test.YtjcmlelfmnonkaaRows
import Derived.Test.YtjcmlelfmnonkaaVaf
import Derived.WalkKit
import Derived.BigQuiet
import Derived.WalkLawsBesides
import Derived.Laws.Externs
import Derived.Laws.EntriesVeiled
import Derived.Lib.Hide
namespace Go.Proofs.Ytjcmlelfmnonkaa
open Go.RowKit Go.Proofs.Ytjcmlelfmnonkaa.Fl
set_option linter.unusedVariables false

theorem ret_int {k : IntKind} {a b : Int} (h : a = b) : Ending.returned (.int k a) = .returned (.int k b) := by rw [h]
theorem ret_bool {a b : Bool} (h : a = b) : Ending.returned (.bool a) = .returned (.bool b) := by rw [h]
theorem ret_fl {a b : Nat} (h : a = b) : Ending.returned (.float .f64 a) = .returned (.float .f64 b) := by rw [h]

theorem x26 (b : Nat) (w : World) : (callFunc 26 #[.float .f64 b]).run Try.prog w = .ok (.value (.int .u64 b)) w := by
  rw [run_callFunc_extern Try.func26 (by kernel_rfl) (by kernel_rfl) (by kernel_rfl) (e := Extern.MathFloatBits.float64bits) (by kernel_rfl)]
  rfl
theorem x29 (b : Nat) (w : World) : (callFunc 29 #[.int .u64 (b : Int)]).run Try.prog w = .ok (.value (.float .f64 b)) w := by
  rw [run_callFunc_extern Try.func29 (by kernel_rfl) (by kernel_rfl) (by kernel_rfl) (e := Extern.MathFloatBits.float64frombits) (by kernel_rfl)]
  rfl
theorem x36 {x : Nat} (hx : x < 18446744073709551616) (h : mg x < 4886405595696988160) (w : World) : (callFunc 36 #[.float .f64 x]).run Try.prog w = .ok (.value (.float .f64 (Ieee.double.nearest (sg x) (fM x) 0))) w := by
  rw [run_callFunc_extern Try.func36 (by kernel_rfl) (by kernel_rfl) (by kernel_rfl) (e := Extern.MathFloor.toIntegral "math.archFloor" .down) (by kernel_rfl)]
  obtain ⟨m, i, er, -, -⟩ := read_num hx (by omega)
  have e : FloatKind.f64.decode x = .number (sg x) m ((i : Int) - 1074) := er
  have fa := floor_asked hx h
  have e2 : Extern.MathFloor.toIntegral "math.archFloor" .down #[.float .f64 x] = pure (.float .f64 (FloatKind.f64.encode ((FloatKind.f64.decode x).integral .down))) := by
    show (match FloatKind.f64.decode x with
      | .nan s t => (_ : Sem Value)
      | d => pure (Value.float .f64 (FloatKind.f64.encode (d.integral Ieee.Toward.down)))) = _
    rw [e]
  rw [e2, fa]
  rfl

theorem whole_any (n : Int) (w : World) : Hid (Calls Try.prog 24 #[.int .i64 n] w fun e w' => e = .returned (.float .f64 (floatOfInt .f64 (cl n))) ∧ w' = w) := by
  refine Lib.hid ?_
  go_enter Try.func24, Try.ntmps24
  go_wp2
  all_goals
    go_ret
    refine ⟨ret_fl ?_, rfl⟩
    congr 1
    unfold cl
    omega
theorem isnan_any (x : Nat) (hx : x < 18446744073709551616) (w : World) : Hid (Calls Try.prog 25 #[.float .f64 x] w fun e w' => e = .returned (.bool (odd x)) ∧ w' = w) := by
  refine Lib.hid ?_
  go_enter Try.func25, Try.ntmps25
  go_wp2
  go_ret
  exact ⟨ret_bool (nan_asked hx), rfl⟩
theorem of_any (n : Int) (w : World) : Hid (Calls Try.prog 15 #[.int .i64 n] w fun e w' => e = .returned (.int .u64 (qv n 1)) ∧ w' = w) := by
  refine Lib.hid ?_
  go_enter Try.func15, Try.ntmps15
  go_wp2_with (first | (go_at_call 24; refine (whole_any _ _).out.mono ?_; rintro e w1 ⟨rfl, rfl⟩) | (rw [x26, Oper.upon_value]))
  go_ret
  exact ⟨ret_int (by rw [of_asked]), rfl⟩
/-- What a program's quotient leaves: its value; where both are 0, one draw. -/
def QPost (w : World) (v : Nat) (e : Ending) (w' : World) : Prop := e = .returned (.int .u64 v) ∧ ∃ q, w' = w.drewN q
theorem nan_drawn (t : Nat) : odd ((t % 2) * 2 ^ 63 + 0x7ff0000000000000 + 1 + (t / 2) % (2 ^ 52 - 1)) = true ∧ ((t % 2) * 2 ^ 63 + 0x7ff0000000000000 + 1 + (t / 2) % (2 ^ 52 - 1)) < 18446744073709551616 := by
  unfold odd mg
  have e1 : (2 ^ 63 : Nat) = 9223372036854775808 := by decide
  have e2 : (2 ^ 52 - 1 : Nat) = 4503599627370495 := by decide
  rw [e1, e2]
  rw [decide_eq_true_eq]
  have h1 : t % 2 = 0 ∨ t % 2 = 1 := by omega
  have h2 : t / 2 % 4503599627370495 < 4503599627370495 := Nat.mod_lt _ (by omega)
  generalize t / 2 % 4503599627370495 = r at *
  rcases h1 with h1 | h1 <;> rw [h1] <;> omega
theorem div_none (x y : Nat) (h : floatBits .quo .f64 x y = none) (w : World) : ∃ b w', (binOp .quo 38 (.float .f64 x) (.float .f64 y)).run Try.prog w = .ok (.float .f64 b) w' ∧ odd b = true ∧ b < 18446744073709551616 ∧ ∃ q, w' = w.drewN q := by
  have h' : Ieee.double.div x y = none := h
  have hf : (Question.nanBits FloatKind.f64 x y).forced = false := rfl
  have hd := nan_drawn (w.tape w.drawn (Question.nanBits FloatKind.f64 x y))
  refine ⟨_, w.drew, ?_, hd.1, hd.2, 1, rfl⟩
  simp [binOp, Op.floatArith, FloatKind.format, h', hf]
  rfl
theorem qv_odd {a b : Int} (h : ¬ (cl a = 0 ∧ cl b = 0)) : odd (qv a b) = false := by
  unfold qv odd mg
  rw [if_neg h]
  have h1 := nat_abs_ok (cl_lo a) (cl_hi a)
  rw [decide_eq_false_iff_not]
  have hb : ∀ s, bt s = 0 ∨ bt s = 9223372036854775808 := fun s => by cases s <;> decide
  have hb := hb (decide (cl a < 0) ^^ decide (cl b < 0))
  generalize bt _ = B at *
  split
  · omega
  · split
    · omega
    · have := pos_hi (a := (cl a).natAbs) (b := (cl b).natAbs) (by omega) (by omega) h1
      omega
theorem quot_any (a b : Int) (w : World) : Hid (Calls Try.prog 13 #[.int .i64 a, .int .i64 b] w (QPost w (qv a b))) := by
  refine Lib.hid ?_
  have da := div_asked (cl_lo a) (cl_hi a) (cl_lo b) (cl_hi b)
  rw [qv_cl] at da
  by_cases h0 : cl a = 0 ∧ cl b = 0
  · rw [if_pos h0] at da
    obtain ⟨x, w1, hr, hx, hx', q, rfl⟩ := div_none _ _ da w
    have hv : qv a b = 9221120237041090560 := by unfold qv; rw [if_pos h0]
    have HI : Hid _ := isnan_any x hx' (w.drewN q)
    rw [hx] at HI
    rw [h0.1, h0.2] at hr
    have hw1 : Hid (Calls Try.prog 24 #[.int .i64 a] w fun e w' => e = .returned (.float .f64 (floatOfInt .f64 0)) ∧ w' = w) := by have := whole_any a w; rwa [h0.1] at this
    have hw2 : Hid (Calls Try.prog 24 #[.int .i64 b] w fun e w' => e = .returned (.float .f64 (floatOfInt .f64 0)) ∧ w' = w) := by have := whole_any b w; rwa [h0.2] at this
    rw [hv]
    clear h0 da hx hx' hv
    go_enter Try.func13, Try.ntmps13
    go_wp2_with fail
    refine hw1.out.mono ?_
    rintro e w1 ⟨rfl, rfl⟩
    go_wp2_with fail
    refine hw2.out.mono ?_
    rintro e w1 ⟨rfl, rfl⟩
    go_wp2_with fail
    refine HI.out.mono ?_
    rintro e w1 ⟨rfl, rfl⟩
    go_wp2
    go_ret
    exact ⟨rfl, q, rfl⟩
  · rw [if_neg h0] at da
    have hr := fun w => run_float_arith (P := Try.prog) w .quo 38 .f64 _ _ _ da
    have ho := qv_odd h0
    have HI : ∀ W, Hid _ := fun W => isnan_any (qv a b) (qv_lt a b) W
    rw [ho] at HI
    clear ho h0
    go_enter Try.func13, Try.ntmps13
    go_wp2_with (first | (go_at_call 24; refine (whole_any _ _).out.mono ?_; rintro e w1 ⟨rfl, rfl⟩) | (go_at_call 25; refine (HI _).out.mono ?_; rintro e w1 ⟨rfl, rfl⟩) | (rw [x26, Oper.upon_value]))
    go_ret
    exact ⟨rfl, 0, rfl⟩
end Go.Proofs.Ytjcmlelfmnonkaa
