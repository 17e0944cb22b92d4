/-
  The plain theory of the format's words: how two of them compare, as whole numbers. No program's function is walked here. No conditions.
-/
import Derived.Test.YtjcmlelfmnonkaaFl
namespace Go.Proofs.Ytjcmlelfmnonkaa.Fl
open Ieee

def sg (x : Nat) : Bool := decide (9223372036854775808 ≤ x)
def mg (x : Nat) : Nat := x % 9223372036854775808
def odd (x : Nat) : Bool := decide (9218868437227405312 < mg x)
def rank (x : Nat) : Nat := if odd x = true then 18446744073709551615 else if 9223372036854775808 ≤ x then 18446744073709551615 - x else x + 9223372036854775808
def cmp (x y : Nat) : Int := if rank x < rank y then -1 else if rank y < rank x then 1 else 0
/-- What a word's lower bits stand for, in units of the least number. -/
def V (r : Nat) : Nat := if r < 4503599627370496 then r else (4503599627370496 + r % 4503599627370496) * 2 ^ (r / 4503599627370496 - 1)

theorem V_succ (r : Nat) : V r < V (r + 1) := by
  unfold V
  by_cases h1 : r + 1 < 4503599627370496
  · rw [if_pos h1, if_pos (by omega)]; omega
  · rw [if_neg h1]
    by_cases h2 : r < 4503599627370496
    · rw [if_pos h2]
      have e : r + 1 = 4503599627370496 := by omega
      rw [e]
      have : (4503599627370496 + 4503599627370496 % 4503599627370496) * 2 ^ (4503599627370496 / 4503599627370496 - 1) = 4503599627370496 := by decide
      omega
    · rw [if_neg h2]
      by_cases h3 : r % 4503599627370496 + 1 < 4503599627370496
      · have e1 : (r + 1) % 4503599627370496 = r % 4503599627370496 + 1 := by omega
        have e2 : (r + 1) / 4503599627370496 = r / 4503599627370496 := by omega
        rw [e1, e2]
        exact (Nat.mul_lt_mul_right (Nat.two_pow_pos _)).2 (by omega)
      · have e1 : (r + 1) % 4503599627370496 = 0 := by omega
        have e2 : (r + 1) / 4503599627370496 - 1 = (r / 4503599627370496 - 1) + 1 := by omega
        rw [e1, e2, Nat.pow_succ, Nat.add_zero]
        have hp := Nat.two_pow_pos (r / 4503599627370496 - 1)
        generalize 2 ^ (r / 4503599627370496 - 1) = p at *
        have : (4503599627370496 + r % 4503599627370496) * p ≤ 9007199254740991 * p := Nat.mul_le_mul_right _ (by omega)
        omega
theorem V_lt {r s : Nat} (h : r < s) : V r < V s := by
  induction s with
  | zero => omega
  | succ s ih =>
    rcases Nat.lt_or_ge r s with k | k
    · exact Nat.lt_trans (ih k) (V_succ s)
    · have : r = s := by omega
      subst this
      exact V_succ r
theorem V_iff (r s : Nat) : V r < V s ↔ r < s := by
  constructor
  · intro h
    rcases Nat.lt_trichotomy r s with k | k | k
    · exact k
    · subst k; omega
    · have := V_lt k; omega
  · exact V_lt
theorem V_eq (r s : Nat) : V r = V s ↔ r = s := by
  constructor
  · intro h
    rcases Nat.lt_trichotomy r s with k | k | k
    · have := V_lt k; omega
    · exact k
    · have := V_lt k; omega
  · intro h; rw [h]
theorem V_zero : V 0 = 0 := by unfold V; rw [if_pos (by omega)]

theorem read_sg {x : Nat} (hx : x < 18446744073709551616) : (x / double.signWeight % 2 == 1) = sg x := by
  rw [d_sign]
  unfold sg
  have e : x / 2 ^ 63 = x / 9223372036854775808 := rfl
  rw [e]
  by_cases h : 9223372036854775808 ≤ x
  · rw [decide_eq_true h]
    have : x / 9223372036854775808 % 2 = 1 := by omega
    rw [this]; rfl
  · rw [decide_eq_false h]
    have : x / 9223372036854775808 % 2 = 0 := by omega
    rw [this]; rfl
theorem read_num {x : Nat} (hx : x < 18446744073709551616) (h : mg x < 9218868437227405312) : ∃ m i : Nat, double.read x = .number (sg x) m ((i : Int) - 1074) ∧ m * 2 ^ i = V (mg x) ∧
    ((mg x < 4503599627370496 ∧ m = mg x ∧ i = 0) ∨ (4503599627370496 ≤ mg x ∧ m = 4503599627370496 + mg x % 4503599627370496 ∧ i = mg x / 4503599627370496 - 1)) := by
  have e1 := read_sg hx
  have e2 : x % double.signWeight = mg x := rfl
  have e3 : double.infRung = 9218868437227405312 := rfl
  have e4 : double.binade = 4503599627370496 := rfl
  unfold Format.read V
  simp only [e1, e2, e3, e4, d_least]
  by_cases k : mg x < 4503599627370496
  · refine ⟨mg x, 0, ?_, ?_, Or.inl ⟨k, rfl, rfl⟩⟩
    · rw [if_pos k]; rfl
    · rw [if_pos k]; simp
  · refine ⟨4503599627370496 + mg x % 4503599627370496, mg x / 4503599627370496 - 1, ?_, ?_, Or.inr ⟨by omega, rfl, rfl⟩⟩
    · rw [if_neg k, if_pos h]
      congr 1
    · rw [if_neg k]
theorem read_inf {x : Nat} (hx : x < 18446744073709551616) (h : mg x = 9218868437227405312) : double.read x = .infinity (sg x) := by
  have e1 := read_sg hx
  have e2 : x % double.signWeight = mg x := rfl
  have e3 : double.infRung = 9218868437227405312 := rfl
  have e4 : double.binade = 4503599627370496 := rfl
  unfold Format.read
  simp only [e1, e2, e3, e4, d_least]
  rw [if_neg (by omega), if_neg (by omega), if_pos h]
theorem read_nan {x : Nat} (h : odd x = true) : ∃ s t, double.read x = .nan s t := by
  have e2 : x % double.signWeight = mg x := rfl
  have e3 : double.infRung = 9218868437227405312 := rfl
  have e4 : double.binade = 4503599627370496 := rfl
  have h' : 9218868437227405312 < mg x := of_decide_eq_true h
  unfold Format.read
  simp only [e2, e3, e4, d_least]
  rw [if_neg (by omega), if_neg (by omega), if_neg (by omega)]
  exact ⟨_, _, rfl⟩

/-- A number that rises as they do, of those that are numbers. -/
def key (x : Nat) : Int := if sg x = true then -(mg x : Int) else (mg x : Int)
theorem cmp_int {a b c d : Int} (h1 : a < b ↔ c < d) (h2 : a = b ↔ c = d) : compare a b = compare c d := by
  show compareOfLessAndEq a b = compareOfLessAndEq c d
  unfold compareOfLessAndEq
  simp only [h1, h2]
theorem signed_shift (s : Bool) (m u : Nat) : signed s m u = if s = true then -((m * 2 ^ u : Nat) : Int) else ((m * 2 ^ u : Nat) : Int) := by
  unfold signed; rw [Nat.shiftLeft_eq]
theorem order_key {x y : Nat} (hx : x < 18446744073709551616) (hy : y < 18446744073709551616) (ox : odd x = false) (oy : odd y = false) : double.order x y = some (compare (key x) (key y)) := by
  have ox' : mg x ≤ 9218868437227405312 := by have := of_decide_eq_false ox; omega
  have oy' : mg y ≤ 9218868437227405312 := by have := of_decide_eq_false oy; omega
  unfold Format.order
  by_cases ix : mg x = 9218868437227405312
  · rw [read_inf hx ix]
    by_cases iy : mg y = 9218868437227405312
    · rw [read_inf hy iy]
      simp only [Datum.order]
      unfold key
      rw [ix, iy]
      cases sg x <;> cases sg y <;> decide
    · obtain ⟨n, j, en, -, -⟩ := read_num hy (by omega)
      rw [en]
      simp only [Datum.order]
      unfold key
      rw [ix]
      congr 1
      cases sg x <;> cases sg y <;> simp only [if_true, Bool.false_eq_true, if_false] <;> symm
      · exact Int.compare_eq_gt.2 (by omega)
      · exact Int.compare_eq_gt.2 (by omega)
      · exact Int.compare_eq_lt.2 (by omega)
      · exact Int.compare_eq_lt.2 (by omega)
  · obtain ⟨m, i, em, hm, -⟩ := read_num hx (by omega)
    rw [em]
    by_cases iy : mg y = 9218868437227405312
    · rw [read_inf hy iy]
      simp only [Datum.order]
      unfold key
      rw [iy]
      congr 1
      cases sg x <;> cases sg y <;> simp only [if_true, Bool.false_eq_true, if_false] <;> symm
      · exact Int.compare_eq_lt.2 (by omega)
      · exact Int.compare_eq_gt.2 (by omega)
      · exact Int.compare_eq_lt.2 (by omega)
      · exact Int.compare_eq_gt.2 (by omega)
    · obtain ⟨n, j, en, hn, -⟩ := read_num hy (by omega)
      rw [en]
      simp only [Datum.order]
      congr 1
      obtain ⟨b, hb⟩ : ∃ b : Nat, b = min i j := ⟨_, rfl⟩
      have eb : min ((i : Int) - 1074) ((j : Int) - 1074) = (b : Int) - 1074 := by omega
      rw [eb, show ((i : Int) - 1074 - ((b : Int) - 1074)).toNat = i - b by omega, show ((j : Int) - 1074 - ((b : Int) - 1074)).toNat = j - b by omega]
      rw [signed_shift, signed_shift]
      have hM : m * 2 ^ (i - b) * 2 ^ b = V (mg x) := by rw [Nat.mul_assoc, ← Nat.pow_add, show i - b + b = i by omega]; exact hm
      have hN : n * 2 ^ (j - b) * 2 ^ b = V (mg y) := by rw [Nat.mul_assoc, ← Nat.pow_add, show j - b + b = j by omega]; exact hn
      generalize m * 2 ^ (i - b) = M at *
      generalize n * 2 ^ (j - b) = K at *
      have hp := Nat.two_pow_pos b
      generalize 2 ^ b = p at *
      have c1 : M < K ↔ mg x < mg y := by rw [← V_iff (mg x), ← hM, ← hN, Nat.mul_lt_mul_right hp]
      have c1' : K < M ↔ mg y < mg x := by rw [← V_iff (mg y), ← hM, ← hN, Nat.mul_lt_mul_right hp]
      have c3 : M = 0 ↔ mg x = 0 := by
        have e0 := V_eq (mg x) 0
        rw [← hM, V_zero] at e0
        rw [← e0]
        constructor
        · intro h; rw [h, Nat.zero_mul]
        · intro h; rcases Nat.mul_eq_zero.1 h with h | h <;> omega
      have c4 : K = 0 ↔ mg y = 0 := by
        have e0 := V_eq (mg y) 0
        rw [← hN, V_zero] at e0
        rw [← e0]
        constructor
        · intro h; rw [h, Nat.zero_mul]
        · intro h; rcases Nat.mul_eq_zero.1 h with h | h <;> omega
      unfold key
      refine cmp_int ?_ ?_
      · cases sg x <;> cases sg y <;> simp only [if_true, Bool.false_eq_true, if_false] <;> omega
      · cases sg x <;> cases sg y <;> simp only [if_true, Bool.false_eq_true, if_false] <;> omega
theorem order_nan {x y : Nat} (h : odd x = true ∨ odd y = true) : double.order x y = none := by
  unfold Format.order
  rcases h with h | h
  · obtain ⟨s, t, e⟩ := read_nan h
    rw [e]
    cases double.read y <;> rfl
  · obtain ⟨s, t, e⟩ := read_nan h
    rw [e]
    cases double.read x <;> rfl
/-- Is it not a number, as it is asked: is it unlike itself. -/
theorem nan_asked {x : Nat} (hx : x < 18446744073709551616) : (double.order x x != some .eq) = odd x := by
  cases h : odd x
  · rw [order_key hx hx h h]
    have : compare (key x) (key x) = .eq := Int.compare_eq_eq.2 rfl
    rw [this]; rfl
  · rw [order_nan (Or.inl h)]; rfl
theorem key_eq {x y : Nat} (hx : x < 18446744073709551616) (hy : y < 18446744073709551616) : key x = key y ↔ x = y ∨ (mg x = 0 ∧ mg y = 0) := by
  unfold key sg mg
  by_cases h1 : 9223372036854775808 ≤ x <;> by_cases h2 : 9223372036854775808 ≤ y <;> simp only [h1, h2, decide_true, decide_false, if_true, Bool.false_eq_true, if_false] <;> omega
/-- The order as the program asks for it. -/
theorem less_asked {x y : Nat} (hx : x < 18446744073709551616) (hy : y < 18446744073709551616) :
    (if odd x = true ∨ odd y = true then !odd x else if double.order x y = some .eq then sg x && !sg y else decide (double.order x y = some .lt)) = decide (rank x < rank y) := by
  have e : rank x = if 9218868437227405312 < mg x then 18446744073709551615 else if 9223372036854775808 ≤ x then 18446744073709551615 - x else x + 9223372036854775808 := by unfold rank odd; simp only [decide_eq_true_eq]
  have e' : rank y = if 9218868437227405312 < mg y then 18446744073709551615 else if 9223372036854775808 ≤ y then 18446744073709551615 - y else y + 9223372036854775808 := by unfold rank odd; simp only [decide_eq_true_eq]
  rw [e, e']
  cases ox : odd x
  · have kx : ¬ 9218868437227405312 < mg x := of_decide_eq_false ox
    cases oy : odd y
    · have ky : ¬ 9218868437227405312 < mg y := of_decide_eq_false oy
      rw [if_neg (by simp), order_key hx hy ox oy, if_neg kx, if_neg ky]
      have c1 : (some (compare (key x) (key y)) = some Ordering.eq) ↔ key x = key y := by rw [Option.some_inj, Int.compare_eq_eq]
      have c2 : (some (compare (key x) (key y)) = some Ordering.lt) ↔ key x < key y := by rw [Option.some_inj, Int.compare_eq_lt]
      simp only [c1, c2]
      unfold key sg mg at *
      by_cases h1 : 9223372036854775808 ≤ x <;> by_cases h2 : 9223372036854775808 ≤ y <;> simp only [h1, h2, decide_true, decide_false, if_true, Bool.false_eq_true, if_false, Bool.not_true, Bool.not_false, Bool.and_true, Bool.and_false]
      all_goals
        split
        · symm; first | (rw [decide_eq_false_iff_not]; omega) | (rw [decide_eq_true_eq]; omega)
        · rw [decide_eq_decide]; omega
    · have ky : 9218868437227405312 < mg y := of_decide_eq_true oy
      rw [if_pos (Or.inr rfl), if_neg kx, if_pos ky]
      symm
      show decide _ = true
      rw [decide_eq_true_eq]
      unfold mg at *
      split <;> omega
  · have kx : 9218868437227405312 < mg x := of_decide_eq_true ox
    rw [if_pos (Or.inl rfl), if_pos kx]
    symm
    show decide _ = false
    rw [decide_eq_false_iff_not]
    unfold mg at *
    split
    · omega
    · split <;> omega
theorem abs_asked {x : Nat} (hx : x < 18446744073709551616) (h : odd x = false) : (double.order (mg x) 4886405595696988160 == some .gt || double.order (mg x) 4886405595696988160 == some .eq) = decide (4886405595696988160 ≤ mg x) := by
  have hm : mg x < 9223372036854775808 := by unfold mg; omega
  have e : mg (mg x) = mg x := by have := hm; unfold mg at *; omega
  have o1 : odd (mg x) = false := by unfold odd at *; rw [e]; exact h
  rw [order_key (by omega) (by omega) o1 (by decide)]
  have k1 : key (mg x) = mg x := by unfold key sg; rw [e]; simp only [decide_eq_true_eq]; rw [if_neg (by omega)]
  have k2 : key 4886405595696988160 = 4886405595696988160 := by decide
  rw [k1, k2]
  rcases Int.lt_trichotomy (mg x : Int) 4886405595696988160 with c | c | c
  · rw [Int.compare_eq_lt.2 c]; symm; show decide _ = false; rw [decide_eq_false_iff_not]; omega
  · rw [Int.compare_eq_eq.2 c]; symm; show decide _ = true; rw [decide_eq_true_eq]; omega
  · rw [Int.compare_eq_gt.2 c]; symm; show decide _ = true; rw [decide_eq_true_eq]; omega
end Go.Proofs.Ytjcmlelfmnonkaa.Fl
