/-
  The walks of the program's Cmp, and of the document's rank and Cmp: what each gives, as the plain theory has it. No conditions but that the arguments are of their kinds.
-/
import Derived.Test.YtjcmlelfmnonkaaFo
namespace Go.Proofs.Ytjcmlelfmnonkaa
open Go.RowKit Go.Proofs.Ytjcmlelfmnonkaa.Fl
set_option linter.unusedVariables false
set_option maxRecDepth 100000

def lt (x y : Nat) : Bool := decide (rank x < rank y)
theorem less_any (x y : Nat) (hx : x < 18446744073709551616) (hy : y < 18446744073709551616) (w : World) : Hid (Calls Try.prog 34 #[.float .f64 x, .float .f64 y] w fun e w' => e = .returned (.bool (lt x y)) ∧ w' = w) := by
  refine Lib.hid ?_
  have HX : ∀ W, Hid _ := fun W => isnan_any x hx W
  have HY : ∀ W, Hid _ := fun W => isnan_any y hy W
  have SX : ∀ W, Hid _ := fun W => sign_any x hx W
  have SY : ∀ W, Hid _ := fun W => sign_any y hy W
  have hl : lt x y = _ := (less_asked hx hy).symm
  rw [hl]
  cases ox : odd x
  · rw [ox] at HX
    cases oy : odd y
    · rw [oy] at HY
      rw [if_neg (by simp)]
      by_cases he : Ieee.double.order x y = some .eq
      · rw [if_pos he]
        have he' : (FloatKind.f64.format.order x y == some .eq) = true := by show (Ieee.double.order x y == some .eq) = true; rw [he]; rfl
        clear he hl ox oy
        cases sx : sg x
        · rw [sx] at SX
          clear sx
          go_enter Try.func34, Try.ntmps34
          go_wp2_with (first | (go_at_call 25; (with_reducible refine (HX _).out.mono ?_); rintro e w1 ⟨rfl, rfl⟩) | (go_at_call 25; (with_reducible refine (HY _).out.mono ?_); rintro e w1 ⟨rfl, rfl⟩) | (go_at_call 42; (with_reducible refine (SX _).out.mono ?_); rintro e w1 ⟨rfl, rfl⟩) | (go_at_call 42; (with_reducible refine (SY _).out.mono ?_); rintro e w1 ⟨rfl, rfl⟩))
          go_ret
          exact ⟨rfl, rfl⟩
        · rw [sx] at SX
          clear sx
          go_enter Try.func34, Try.ntmps34
          go_wp2_with (first | (go_at_call 25; (with_reducible refine (HX _).out.mono ?_); rintro e w1 ⟨rfl, rfl⟩) | (go_at_call 25; (with_reducible refine (HY _).out.mono ?_); rintro e w1 ⟨rfl, rfl⟩) | (go_at_call 42; (with_reducible refine (SX _).out.mono ?_); rintro e w1 ⟨rfl, rfl⟩) | (go_at_call 42; (with_reducible refine (SY _).out.mono ?_); rintro e w1 ⟨rfl, rfl⟩))
          go_ret
          exact ⟨rfl, rfl⟩
      · rw [if_neg he]
        have he' : (FloatKind.f64.format.order x y == some .eq) = false := by show (Ieee.double.order x y == some .eq) = false; rw [beq_eq_false_iff_ne]; exact he
        clear he hl ox oy
        go_enter Try.func34, Try.ntmps34
        go_wp2_with (first | (go_at_call 25; (with_reducible refine (HX _).out.mono ?_); rintro e w1 ⟨rfl, rfl⟩) | (go_at_call 25; (with_reducible refine (HY _).out.mono ?_); rintro e w1 ⟨rfl, rfl⟩))
        go_ret
        refine ⟨ret_bool ?_, rfl⟩
        show (Ieee.double.order x y == some .lt) = _
        by_cases k : Ieee.double.order x y = some .lt
        · rw [k]; rfl
        · rw [beq_eq_false_iff_ne.2 k, decide_eq_false k]
    · rw [oy] at HY
      rw [if_pos (Or.inr rfl)]
      clear hl ox oy
      go_enter Try.func34, Try.ntmps34
      go_wp2_with (first | (go_at_call 25; (with_reducible refine (HX _).out.mono ?_); rintro e w1 ⟨rfl, rfl⟩) | (go_at_call 25; (with_reducible refine (HY _).out.mono ?_); rintro e w1 ⟨rfl, rfl⟩))
      go_ret
      exact ⟨rfl, rfl⟩
  · rw [ox] at HX
    rw [if_pos (Or.inl rfl)]
    clear hl ox
    go_enter Try.func34, Try.ntmps34
    go_wp2_with (go_at_call 25; (with_reducible refine (HX _).out.mono ?_); rintro e w1 ⟨rfl, rfl⟩)
    go_ret
    exact ⟨rfl, rfl⟩
theorem cmp_any (x y : Nat) (hx : x < 18446744073709551616) (hy : y < 18446744073709551616) (w : World) : Hid (Calls Try.prog 22 #[.int .u64 (x : Int), .int .u64 (y : Int)] w fun e w' => e = .returned (.int .i64 (cmp x y)) ∧ w' = w) := by
  refine Lib.hid ?_
  have H1 : ∀ W, Hid _ := fun W => less_any x y hx hy W
  have H2 : ∀ W, Hid _ := fun W => less_any y x hy hx W
  by_cases h : rank x < rank y
  · have e1 : cmp x y = -1 := by unfold cmp; rw [if_pos h]
    have e2 : lt x y = true := decide_eq_true h
    rw [e2] at H1
    rw [e1]
    clear e1 e2 h
    go_enter Try.func22, Try.ntmps22
    go_wp2_with (first | rw [x29, Oper.upon_value] | (go_at_call 34; (with_reducible refine (H1 _).out.mono ?_); rintro e w1 ⟨rfl, rfl⟩))
    go_ret
    exact ⟨rfl, rfl⟩
  · by_cases h' : rank y < rank x
    · have e1 : cmp x y = 1 := by unfold cmp; rw [if_neg h, if_pos h']
      have e2 : lt x y = false := decide_eq_false h
      have e3 : lt y x = true := decide_eq_true h'
      rw [e2] at H1
      rw [e3] at H2
      rw [e1]
      clear e1 e2 e3 h h'
      go_enter Try.func22, Try.ntmps22
      go_wp2_with (first | rw [x29, Oper.upon_value] | (go_at_call 34; (with_reducible refine (H1 _).out.mono ?_); rintro e w1 ⟨rfl, rfl⟩) | (go_at_call 34; (with_reducible refine (H2 _).out.mono ?_); rintro e w1 ⟨rfl, rfl⟩))
      go_ret
      exact ⟨rfl, rfl⟩
    · have e1 : cmp x y = 0 := by unfold cmp; rw [if_neg h, if_neg h']
      have e2 : lt x y = false := decide_eq_false h
      have e3 : lt y x = false := decide_eq_false h'
      rw [e2] at H1
      rw [e3] at H2
      rw [e1]
      clear e1 e2 e3 h h'
      go_enter Try.func22, Try.ntmps22
      go_wp2_with (first | rw [x29, Oper.upon_value] | (go_at_call 34; (with_reducible refine (H1 _).out.mono ?_); rintro e w1 ⟨rfl, rfl⟩) | (go_at_call 34; (with_reducible refine (H2 _).out.mono ?_); rintro e w1 ⟨rfl, rfl⟩))
      go_ret
      exact ⟨rfl, rfl⟩
theorem rodd_any (x : Nat) (hx : x < 18446744073709551616) (w : World) : Hid (Calls Try.prog 43 #[.int .u64 (x : Int)] w fun e w' => e = .returned (.bool (odd x)) ∧ w' = w) := by
  refine Lib.hid ?_
  have hb := bits_mg hx
  go_enter Try.func43, Try.ntmps43
  go_wp2
  go_ret
  refine ⟨ret_bool ?_, rfl⟩
  try rw [hb]
  unfold odd
  rw [decide_eq_decide]
  omega
theorem rrank_any (x : Nat) (hx : x < 18446744073709551616) (w : World) : Hid (Calls Try.prog 35 #[.int .u64 (x : Int)] w fun e w' => e = .returned (.int .u64 (rank x : Nat)) ∧ w' = w) := by
  refine Lib.hid ?_
  have HO : ∀ W, Hid _ := fun W => rodd_any x hx W
  obtain ⟨r, hr⟩ : ∃ r : Int, r = ((rank x : Nat) : Int) := ⟨_, rfl⟩
  rw [← hr]
  cases ho : odd x
  · rw [ho] at HO
    by_cases h : 9223372036854775808 ≤ x
    · have hb := bits_not hx
      have e : r = bits .xor .u64 18446744073709551615 (x : Int) := by rw [hb, hr]; unfold rank; rw [ho, if_neg (by simp), if_pos h]
      have h' : (9223372036854775808 : Int) ≤ (x : Int) := by omega
      clear hr ho hb h hx
      generalize (x : Int) = X at *
      go_enter Try.func35, Try.ntmps35
      go_wp2_with (go_at_call 43; (with_reducible refine (HO _).out.mono ?_); rintro e w1 ⟨rfl, rfl⟩)
      go_ret
      exact ⟨ret_int (by first | exact e.symm | (rw [show IntKind.u64.max = 18446744073709551615 by decide])), rfl⟩
    · have e : r = IntKind.u64.wrap ((x : Int) + 9223372036854775808) := by rw [IntKind.wrap_u64, hr]; unfold rank; rw [ho, if_neg (by simp), if_neg h]; omega
      have h' : (x : Int) < 9223372036854775808 := by omega
      clear hr ho h hx
      generalize (x : Int) = X at *
      go_enter Try.func35, Try.ntmps35
      go_wp2_with (go_at_call 43; (with_reducible refine (HO _).out.mono ?_); rintro e w1 ⟨rfl, rfl⟩)
      go_ret
      exact ⟨ret_int e.symm, rfl⟩
  · rw [ho] at HO
    have e : r = 18446744073709551615 := by rw [hr]; unfold rank; rw [ho, if_pos rfl]; rfl
    clear hr ho
    go_enter Try.func35, Try.ntmps35
    go_wp2_with (go_at_call 43; (with_reducible refine (HO _).out.mono ?_); rintro e w1 ⟨rfl, rfl⟩)
    go_ret
    exact ⟨ret_int e.symm, rfl⟩
theorem rcmp_any (x y : Nat) (hx : x < 18446744073709551616) (hy : y < 18446744073709551616) (w : World) : Hid (Calls Try.prog 23 #[.int .u64 (x : Int), .int .u64 (y : Int)] w fun e w' => e = .returned (.int .i64 (cmp x y)) ∧ w' = w) := by
  refine Lib.hid ?_
  have H1 : ∀ W, Hid _ := fun W => rrank_any x hx W
  have H2 : ∀ W, Hid _ := fun W => rrank_any y hy W
  unfold cmp
  generalize rank x = p at *
  generalize rank y = q at *
  by_cases h : p < q
  · rw [if_pos h]
    go_enter Try.func23, Try.ntmps23
    go_wp2_with (first | (go_at_call 35; (with_reducible refine (H1 _).out.mono ?_); rintro e w1 ⟨rfl, rfl⟩) | (go_at_call 35; (with_reducible refine (H2 _).out.mono ?_); rintro e w1 ⟨rfl, rfl⟩))
    go_ret
    exact ⟨rfl, rfl⟩
  · rw [if_neg h]
    by_cases h' : q < p
    · rw [if_pos h']
      go_enter Try.func23, Try.ntmps23
      go_wp2_with (first | (go_at_call 35; (with_reducible refine (H1 _).out.mono ?_); rintro e w1 ⟨rfl, rfl⟩) | (go_at_call 35; (with_reducible refine (H2 _).out.mono ?_); rintro e w1 ⟨rfl, rfl⟩))
      go_ret
      exact ⟨rfl, rfl⟩
    · rw [if_neg h']
      go_enter Try.func23, Try.ntmps23
      go_wp2_with (first | (go_at_call 35; (with_reducible refine (H1 _).out.mono ?_); rintro e w1 ⟨rfl, rfl⟩) | (go_at_call 35; (with_reducible refine (H2 _).out.mono ?_); rintro e w1 ⟨rfl, rfl⟩))
      go_ret
      exact ⟨rfl, rfl⟩
end Go.Proofs.Ytjcmlelfmnonkaa
