/-
  The walks of the program's Floor, Cmp and what they call: what each gives, as the plain theory has it. No conditions but that the arguments are of their kinds.
-/
import Derived.Test.YtjcmlelfmnonkaaSm
import Derived.Laws.BitsAllLaws
namespace Go.Proofs.Ytjcmlelfmnonkaa
open Go.RowKit Go.Proofs.Ytjcmlelfmnonkaa.Fl
set_option linter.unusedVariables false
set_option maxRecDepth 100000

theorem bits_mg {x : Nat} (hx : x < 18446744073709551616) : bits .andNot .u64 (x : Int) 9223372036854775808 = (mg x : Int) := by
  have h := u64_andNot_nat x 9223372036854775808 hx (by omega)
  have e : ((9223372036854775808 : Nat) : Int) = 9223372036854775808 := rfl
  rw [e] at h
  rw [h]
  congr 1
  exact Nat.and_two_pow_sub_one_eq_mod x 63
theorem bits_fr {x : Nat} (hx : x < 18446744073709551616) : bits .and .u64 (x : Int) 4503599627370495 = ((x % 4503599627370496 : Nat) : Int) := by
  have h := u64_and_nat x 4503599627370495 hx (by omega)
  have e : ((4503599627370495 : Nat) : Int) = 4503599627370495 := rfl
  rw [e] at h
  rw [h]
  congr 1
  exact Nat.and_two_pow_sub_one_eq_mod x 52
theorem bits_not {x : Nat} (hx : x < 18446744073709551616) : bits .xor .u64 18446744073709551615 (x : Int) = ((18446744073709551615 - x : Nat) : Int) := by
  have h := u64_xor_nat 18446744073709551615 x (by omega) hx
  have e : ((18446744073709551615 : Nat) : Int) = 18446744073709551615 := rfl
  rw [e] at h
  rw [h]
  congr 1
  have h2 : (BitVec.allOnes 64 ^^^ BitVec.ofNat 64 x).toNat = 18446744073709551615 - x := by
    rw [BitVec.xor_comm, BitVec.xor_allOnes, BitVec.toNat_not, BitVec.toNat_ofNat]
    omega
  rw [BitVec.toNat_xor, BitVec.toNat_ofNat, Nat.mod_eq_of_lt (show x < 2 ^ 64 from hx)] at h2
  exact h2
theorem bits_flip {x : Nat} (hx : x < 18446744073709551616) : bits .xor .u64 (x : Int) 9223372036854775808 = ((if sg x = true then x - 9223372036854775808 else x + 9223372036854775808 : Nat) : Int) := by
  have h := u64_xor_nat x 9223372036854775808 hx (by omega)
  have e : ((9223372036854775808 : Nat) : Int) = 9223372036854775808 := rfl
  rw [e] at h
  rw [h]
  congr 1
  have j : ∀ y : Nat, y < 9223372036854775808 → 9223372036854775808 ^^^ y = 9223372036854775808 + y := fun y hy => by
    have a1 : (9223372036854775808 : Nat) ||| y = 9223372036854775808 + y := nat_join 63 9223372036854775808 y (by decide) hy
    have a2 : (9223372036854775808 : Nat) &&& y = 0 := by
      rw [Nat.and_comm]
      have := nat_bit 63 y
      have e63 : (2 : Nat) ^ 63 = 9223372036854775808 := by decide
      rw [e63, Nat.div_eq_of_lt hy] at this
      simpa using this
    refine Nat.eq_of_testBit_eq fun i => ?_
    have b1 := congrArg (fun z => Nat.testBit z i) a1
    have b2 := congrArg (fun z => Nat.testBit z i) a2
    simp only [Nat.testBit_or, Nat.testBit_and, Nat.zero_testBit] at b1 b2
    rw [← b1, Nat.testBit_xor]
    revert b2
    cases Nat.testBit 9223372036854775808 i <;> cases Nat.testBit y i <;> simp
  unfold sg
  by_cases k : 9223372036854775808 ≤ x
  · rw [if_pos (decide_eq_true k)]
    have := j (x - 9223372036854775808) (by omega)
    have e2 : x = 9223372036854775808 ^^^ (x - 9223372036854775808) := by rw [this]; omega
    rw [Nat.xor_comm]
    conv => lhs; rw [e2]
    rw [← Nat.xor_assoc, Nat.xor_self, Nat.zero_xor]
  · rw [if_neg (by simpa using k), Nat.xor_comm, j x (by omega)]
    omega
theorem mg_lt (x : Nat) : mg x < 9223372036854775808 := by unfold mg; omega
theorem abs_any (x : Nat) (hx : x < 18446744073709551616) (w : World) : Hid (Calls Try.prog 30 #[.float .f64 x] w fun e w' => e = .returned (.float .f64 (mg x)) ∧ w' = w) := by
  refine Lib.hid ?_
  have hb := bits_mg hx
  go_enter Try.func30, Try.ntmps30
  go_wp2_with (first | rw [x26, Oper.upon_value] | rw [x29, Oper.upon_value] | rw [hb, x29, Oper.upon_value])
  go_ret
  exact ⟨rfl, rfl⟩
theorem sign_any (x : Nat) (hx : x < 18446744073709551616) (w : World) : Hid (Calls Try.prog 42 #[.float .f64 x] w fun e w' => e = .returned (.bool (sg x)) ∧ w' = w) := by
  refine Lib.hid ?_
  go_enter Try.func42, Try.ntmps42
  go_wp2_with (rw [x26, Oper.upon_value])
  go_ret
  refine ⟨ret_bool ?_, rfl⟩
  unfold sg
  rw [decide_eq_decide]
  unfold wrap64
  omega
theorem mfloor_any (x : Nat) (hx : x < 18446744073709551616) (h : mg x < 4886405595696988160) (w : World) : Hid (Calls Try.prog 31 #[.float .f64 x] w fun e w' => e = .returned (.float .f64 (Ieee.double.nearest (sg x) (fM x) 0)) ∧ w' = w) := by
  refine Lib.hid ?_
  have H := fun w => x36 hx h w
  go_enter Try.func31, Try.ntmps31
  go_wp2_with (rw [H, Oper.upon_value])
  go_ret
  exact ⟨rfl, rfl⟩
/-- Is there a whole part; what it is. -/
def fi (x : Nat) : Bool := decide (mg x < 4886405595696988160)
def fv (x : Nat) : Int := if fi x = true then flr x else 0
theorem floor_any (x : Nat) (hx : x < 18446744073709551616) (w : World) : Hid (Calls Try.prog 17 #[.int .u64 (x : Int)] w fun e w' => e = .returned (.tuple #[.int .i64 (fv x), .bool (fi x)]) ∧ w' = w) := by
  refine Lib.hid ?_
  have HI : ∀ W, Hid _ := fun W => isnan_any x hx W
  have HA : ∀ W, Hid _ := fun W => abs_any x hx W
  by_cases hf : mg x < 4886405595696988160
  · have ho : odd x = false := by unfold odd; rw [decide_eq_false_iff_not]; omega
    have ha := abs_asked hx ho
    rw [decide_eq_false (by omega : ¬ 4886405595696988160 ≤ mg x)] at ha
    have ha' : (FloatKind.f64.format.order (mg x) 4886405595696988160 == some .gt || FloatKind.f64.format.order (mg x) 4886405595696988160 == some .eq) = false := ha
    rw [ho] at HI
    have HF : ∀ W, Hid _ := fun W => mfloor_any x hx hf W
    have hc := fun w => run_convert_float_int (P := Try.prog) w 38 3 .f64 .i64 _ _ (by kernel_rfl) Try.underlying3 (int_asked hf)
    have e1 : fv x = flr x := by unfold fv fi; rw [decide_eq_true hf, if_pos rfl]
    have e2 : fi x = true := decide_eq_true hf
    rw [e1, e2]
    generalize Ieee.double.nearest (sg x) (fM x) 0 = F at *
    clear ho ha hf e1 e2
    go_enter Try.func17, Try.ntmps17
    go_wp2_with (first | rw [x29, Oper.upon_value] | (go_at_call 25; refine (HI _).out.mono ?_; rintro e w1 ⟨rfl, rfl⟩) | (go_at_call 30; refine (HA _).out.mono ?_; rintro e w1 ⟨rfl, rfl⟩) | (go_at_call 31; refine (HF _).out.mono ?_; rintro e w1 ⟨rfl, rfl⟩))
    go_ret2
    exact ⟨rfl, rfl⟩
  · have e2 : fi x = false := decide_eq_false hf
    have e1 : fv x = 0 := by unfold fv; rw [e2]; rfl
    rw [e1, e2]
    by_cases ho : odd x = true
    · rw [ho] at HI
      clear ho hf e1 e2
      go_enter Try.func17, Try.ntmps17
      go_wp2_with (first | rw [x29, Oper.upon_value] | (go_at_call 25; refine (HI _).out.mono ?_; rintro e w1 ⟨rfl, rfl⟩))
      go_ret2
      exact ⟨rfl, rfl⟩
    · have ho : odd x = false := by simpa using ho
      have ha := abs_asked hx ho
      rw [decide_eq_true (by omega : 4886405595696988160 ≤ mg x)] at ha
      have ha' : (FloatKind.f64.format.order (mg x) 4886405595696988160 == some .gt || FloatKind.f64.format.order (mg x) 4886405595696988160 == some .eq) = true := ha
      rw [ho] at HI
      clear ho hf e1 e2 ha
      go_enter Try.func17, Try.ntmps17
      go_wp2_with (first | rw [x29, Oper.upon_value] | (go_at_call 25; refine (HI _).out.mono ?_; rintro e w1 ⟨rfl, rfl⟩) | (go_at_call 30; refine (HA _).out.mono ?_; rintro e w1 ⟨rfl, rfl⟩))
      go_ret2
      exact ⟨rfl, rfl⟩
end Go.Proofs.Ytjcmlelfmnonkaa
