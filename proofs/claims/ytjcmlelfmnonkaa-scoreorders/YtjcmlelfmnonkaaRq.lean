/-
  The walks of the document's Quotient and Of: what each gives, as the plain theory has it. No conditions but that the arguments are of their kinds.
-/
import Derived.Test.YtjcmlelfmnonkaaPo
namespace Go.Proofs.Ytjcmlelfmnonkaa
open Go.RowKit Go.Proofs.Ytjcmlelfmnonkaa.Fl
set_option linter.unusedVariables false
set_option maxRecDepth 100000

theorem rbound_any (n : Int) (w : World) : Hid (Calls Try.prog 27 #[.int .i64 n] w fun e w' => e = .returned (.int .i64 (cl n)) ∧ w' = w) := by
  refine Lib.hid ?_
  obtain ⟨r, hr⟩ : ∃ r, r = cl n := ⟨_, rfl⟩
  rw [← hr]
  unfold cl at hr
  go_enter Try.func27, Try.ntmps27
  go_wp2
  all_goals
    go_ret
    exact ⟨ret_int (by omega), rfl⟩
theorem rquot_any (a b : Int) (w : World) : Hid (Calls Try.prog 14 #[.int .i64 a, .int .i64 b] w fun e w' => e = .returned (.int .u64 (qv a b : Nat)) ∧ w' = w) := by
  refine Lib.hid ?_
  have HA : ∀ W, Hid _ := fun W => rbound_any a W
  have HB : ∀ W, Hid _ := fun W => rbound_any b W
  have a1 := cl_lo a
  have a2 := cl_hi a
  have b1 := cl_lo b
  have b2 := cl_hi b
  obtain ⟨r, hr⟩ : ∃ r : Int, r = ((qv a b : Nat) : Int) := ⟨_, rfl⟩
  rw [← hr]
  unfold qv at hr
  generalize cl a = p at *
  generalize cl b = q at *
  by_cases h0 : p = 0 ∧ q = 0
  · rw [if_pos h0] at hr
    obtain ⟨rfl, rfl⟩ := h0
    have hr' : r = 9221120237041090560 := hr
    clear hr
    go_enter Try.func14, Try.ntmps14
    go_wp2_with (go_at_call 27; first | ((with_reducible refine (HA _).out.mono ?_); rintro e w1 ⟨rfl, rfl⟩) | ((with_reducible refine (HB _).out.mono ?_); rintro e w1 ⟨rfl, rfl⟩))
    go_ret
    exact ⟨ret_int hr'.symm, rfl⟩
  · rw [if_neg h0] at hr
    by_cases hq : q = 0
    · rw [if_pos hq] at hr
      subst hq
      by_cases hp : p < 0
      · have hr' : r = 9223372036854775808 + 9218868437227405312 := by rw [hr, decide_eq_true hp]; rfl
        clear hr h0
        go_enter Try.func14, Try.ntmps14
        go_wp2_with (go_at_call 27; first | ((with_reducible refine (HA _).out.mono ?_); rintro e w1 ⟨rfl, rfl⟩) | ((with_reducible refine (HB _).out.mono ?_); rintro e w1 ⟨rfl, rfl⟩))
        go_ret
        exact ⟨ret_int (by first | exact hr'.symm | rw [hr'] | (rw [hr']; rfl)), rfl⟩
      · have hr' : r = 9218868437227405312 := by rw [hr, decide_eq_false hp]; rfl
        have hp0 : p ≠ 0 := by omega
        clear hr h0
        go_enter Try.func14, Try.ntmps14
        go_wp2_with (go_at_call 27; first | ((with_reducible refine (HA _).out.mono ?_); rintro e w1 ⟨rfl, rfl⟩) | ((with_reducible refine (HB _).out.mono ?_); rintro e w1 ⟨rfl, rfl⟩))
        go_ret
        exact ⟨ret_int (by first | exact hr'.symm | rw [hr'] | (rw [hr']; rfl)), rfl⟩
    · rw [if_neg hq] at hr
      by_cases hp0 : p = 0
      · rw [if_pos hp0] at hr
        subst hp0
        by_cases hq1 : q < 0
        · have hr' : r = 9223372036854775808 := by rw [hr, decide_eq_true hq1]; rfl
          clear hr h0
          go_enter Try.func14, Try.ntmps14
          go_wp2_with (go_at_call 27; first | ((with_reducible refine (HA _).out.mono ?_); rintro e w1 ⟨rfl, rfl⟩) | ((with_reducible refine (HB _).out.mono ?_); rintro e w1 ⟨rfl, rfl⟩))
          go_ret
          exact ⟨ret_int hr'.symm, rfl⟩
        · have hr' : r = 0 := by rw [hr, decide_eq_false hq1]; rfl
          clear hr h0
          go_enter Try.func14, Try.ntmps14
          go_wp2_with (go_at_call 27; first | ((with_reducible refine (HA _).out.mono ?_); rintro e w1 ⟨rfl, rfl⟩) | ((with_reducible refine (HB _).out.mono ?_); rintro e w1 ⟨rfl, rfl⟩))
          go_ret
          exact ⟨ret_int hr'.symm, rfl⟩
      · rw [if_neg hp0] at hr
        have hP : ∀ W, Hid (Calls Try.prog 28 #[.int .i64 (p.natAbs : Int), .int .i64 (q.natAbs : Int)] W fun e w' => e = .returned (.int .u64 (pos p.natAbs q.natAbs : Nat)) ∧ w' = W) := fun W => rpos_any _ _ W (by omega) (by omega) (by omega) (by omega)
        have ph := pos_hi (a := p.natAbs) (b := q.natAbs) (by omega) (by omega) (nat_abs_ok a1 a2)
        obtain ⟨R, hR⟩ : ∃ R : Int, R = ((pos p.natAbs q.natAbs : Nat) : Int) := ⟨_, rfl⟩
        rw [Int.natCast_add, ← hR] at hr
        rw [← hR] at hP
        have ph' : R ≤ 4850376798678024192 := by omega
        have ph0 : 0 ≤ R := by omega
        clear hR ph h0
        by_cases s1 : p < 0
        · rw [show ((p.natAbs : Nat) : Int) = -p by omega] at hP
          rw [decide_eq_true s1] at hr
          have dp := decide_eq_true s1
          by_cases s2 : q < 0
          · rw [show ((q.natAbs : Nat) : Int) = -q by omega] at hP
            rw [decide_eq_true s2] at hr
            have dq := decide_eq_true s2
            have hr' : r = IntKind.u64.wrap (0 + R) := by rw [IntKind.wrap_u64, hr]; show (0 : Int) + R = _; omega
            clear hr
            go_enter Try.func14, Try.ntmps14
            go_wp2_with (first | (go_at_call 27; first | ((with_reducible refine (HA _).out.mono ?_); rintro e w1 ⟨rfl, rfl⟩) | ((with_reducible refine (HB _).out.mono ?_); rintro e w1 ⟨rfl, rfl⟩)) | (go_at_call 28; refine (hP _).out.mono ?_; rintro e w1 ⟨rfl, rfl⟩))
            go_ret
            exact ⟨ret_int (by first | exact hr'.symm | (rw [hr']; simp only [IntKind.wrap_u64]; omega)), rfl⟩
          · rw [show ((q.natAbs : Nat) : Int) = q by omega] at hP
            rw [decide_eq_false s2] at hr
            have dq := decide_eq_false s2
            have hr' : r = IntKind.u64.wrap (9223372036854775808 + R) := by rw [IntKind.wrap_u64, hr]; show (9223372036854775808 : Int) + R = _; omega
            clear hr
            go_enter Try.func14, Try.ntmps14
            go_wp2_with (first | (go_at_call 27; first | ((with_reducible refine (HA _).out.mono ?_); rintro e w1 ⟨rfl, rfl⟩) | ((with_reducible refine (HB _).out.mono ?_); rintro e w1 ⟨rfl, rfl⟩)) | (go_at_call 28; refine (hP _).out.mono ?_; rintro e w1 ⟨rfl, rfl⟩))
            go_ret
            exact ⟨ret_int (by first | exact hr'.symm | (rw [hr']; simp only [IntKind.wrap_u64]; omega)), rfl⟩
        · rw [show ((p.natAbs : Nat) : Int) = p by omega] at hP
          rw [decide_eq_false s1] at hr
          have dp := decide_eq_false s1
          by_cases s2 : q < 0
          · rw [show ((q.natAbs : Nat) : Int) = -q by omega] at hP
            rw [decide_eq_true s2] at hr
            have dq := decide_eq_true s2
            have hr' : r = IntKind.u64.wrap (9223372036854775808 + R) := by rw [IntKind.wrap_u64, hr]; show (9223372036854775808 : Int) + R = _; omega
            clear hr
            go_enter Try.func14, Try.ntmps14
            go_wp2_with (first | (go_at_call 27; first | ((with_reducible refine (HA _).out.mono ?_); rintro e w1 ⟨rfl, rfl⟩) | ((with_reducible refine (HB _).out.mono ?_); rintro e w1 ⟨rfl, rfl⟩)) | (go_at_call 28; refine (hP _).out.mono ?_; rintro e w1 ⟨rfl, rfl⟩))
            go_ret
            exact ⟨ret_int (by first | exact hr'.symm | (rw [hr']; simp only [IntKind.wrap_u64]; omega)), rfl⟩
          · rw [show ((q.natAbs : Nat) : Int) = q by omega] at hP
            rw [decide_eq_false s2] at hr
            have dq := decide_eq_false s2
            have hr' : r = IntKind.u64.wrap (0 + R) := by rw [IntKind.wrap_u64, hr]; show (0 : Int) + R = _; omega
            clear hr
            go_enter Try.func14, Try.ntmps14
            go_wp2_with (first | (go_at_call 27; first | ((with_reducible refine (HA _).out.mono ?_); rintro e w1 ⟨rfl, rfl⟩) | ((with_reducible refine (HB _).out.mono ?_); rintro e w1 ⟨rfl, rfl⟩)) | (go_at_call 28; refine (hP _).out.mono ?_; rintro e w1 ⟨rfl, rfl⟩))
            go_ret
            exact ⟨ret_int (by first | exact hr'.symm | (rw [hr']; simp only [IntKind.wrap_u64]; omega)), rfl⟩
theorem rof_any (n : Int) (w : World) : Hid (Calls Try.prog 16 #[.int .i64 n] w fun e w' => e = .returned (.int .u64 (qv n 1 : Nat)) ∧ w' = w) := by
  refine Lib.hid ?_
  have HQ : ∀ W, Hid _ := fun W => rquot_any n 1 W
  by_cases h : n = 0
  · have e0 : qv 0 1 = 0 := by
      unfold qv
      have c1 : cl 1 = 1 := by decide
      have c0 : cl 0 = 0 := by decide
      rw [c1, c0, if_neg (by omega), if_neg (by omega), if_pos rfl]
      rfl
    subst h
    rw [e0]
    clear HQ e0
    go_enter Try.func16, Try.ntmps16
    go_wp2
    go_ret
    exact ⟨rfl, rfl⟩
  · go_enter Try.func16, Try.ntmps16
    go_wp2_with (go_at_call 14; refine (HQ _).out.mono ?_; rintro e w1 ⟨rfl, rfl⟩)
    go_ret
    exact ⟨rfl, rfl⟩
end Go.Proofs.Ytjcmlelfmnonkaa
