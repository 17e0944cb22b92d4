/-
  The plain theory of the format's words: what the whole part of one is, and what the quotient of two whole numbers is, as a word. No program's function is walked here. No conditions.
-/
import Derived.Test.YtjcmlelfmnonkaaVal
import Derived.Laws.FloatArith
import Derived.Laws.Cover2
namespace Go.Proofs.Ytjcmlelfmnonkaa.Fl
open Ieee

theorem lt_pow_of_log2 {n d : Nat} (h : n.log2 + 2 ≤ d) : n < 2 ^ d := by
  rcases Nat.eq_zero_or_pos n with e | e
  · subst e; exact Nat.two_pow_pos d
  · exact Nat.lt_of_lt_of_le (log2_hi e) (Nat.pow_le_pow_right (by omega) (by omega))
theorem lt_pow_of {n d e : Nat} (h : n < 2 ^ e) (hd : e ≤ d) : n < 2 ^ d := Nat.lt_of_lt_of_le h (Nat.pow_le_pow_right (by omega) hd)
theorem gap_div (n drop : Nat) : n / 1 <<< min drop (n.log2 + 2) = n / 2 ^ drop ∧ n % 1 <<< min drop (n.log2 + 2) = n % 2 ^ drop := by
  rw [Nat.one_shiftLeft]
  rcases Nat.le_total drop (n.log2 + 2) with h | h
  · rw [Nat.min_eq_left h]; exact ⟨rfl, rfl⟩
  · rw [Nat.min_eq_right h]
    have h1 := lt_pow_of_log2 (n := n) (d := n.log2 + 2) (Nat.le_refl _)
    have h2 := lt_pow_of_log2 h
    rw [Nat.div_eq_of_lt h1, Nat.div_eq_of_lt h2, Nat.mod_eq_of_lt h1, Nat.mod_eq_of_lt h2]
    exact ⟨rfl, rfl⟩
theorem cut_zero (s : Bool) (n drop : Nat) : Toward.zero.cut s n drop = n / 2 ^ drop := by
  unfold Toward.cut
  simp only [(gap_div n drop).1, Bool.toNat, cond_false, Nat.add_zero]
theorem cut_down (s : Bool) (n drop : Nat) : Toward.down.cut s n drop = n / 2 ^ drop + (if s = true ∧ n % 2 ^ drop ≠ 0 then 1 else 0) := by
  unfold Toward.cut
  simp only [(gap_div n drop).1, (gap_div n drop).2]
  congr 1
  cases s
  · rfl
  · by_cases h : n % 2 ^ drop = 0
    · rw [h]; rfl
    · rw [if_pos ⟨rfl, h⟩, bne_iff_ne.2 h]; rfl

/-- A whole number that the format has is read as it was written. -/
theorem back (s : Bool) (C : Nat) (h : C < 9223372036854775808) (hd : C.log2 ≤ 52 ∨ ∃ m, C = m * 2 ^ (C.log2 - 52)) : (double.read (double.nearest s C 0)).toInt .zero = some (signed s C 0) := by
  rcases Nat.eq_zero_or_pos C with e | e
  · subst e
    cases s <;> decide
  have h1 := log2_lo e
  have h2 := log2_hi e
  have hL : C.log2 ≤ 62 := by
    have := (Nat.log2_lt (by omega : C ≠ 0)).2 (show C < 2 ^ 63 from h)
    omega
  have hw := nearest_at s C 0 e (C.log2 + 1022) (by omega) (by omega)
  rw [hw]
  have k1 : 2 ^ 52 ≤ kp C ∧ kp C < 2 ^ 53 ∧ (if C.log2 ≤ 52 then kp C = C * 2 ^ (52 - C.log2) else kp C * 2 ^ (C.log2 - 52) = C) := by
    unfold kp
    by_cases hl : C.log2 ≤ 52
    · rw [if_pos hl, if_pos hl]
      refine ⟨?_, ?_, rfl⟩
      · have := Nat.mul_le_mul_right (2 ^ (52 - C.log2)) h1
        rwa [← Nat.pow_add, show C.log2 + (52 - C.log2) = 52 by omega] at this
      · have := (Nat.mul_lt_mul_right (Nat.two_pow_pos (52 - C.log2))).2 h2
        rwa [← Nat.pow_add, show C.log2 + 1 + (52 - C.log2) = 53 by omega] at this
    · rw [if_neg hl, if_neg hl]
      rcases hd with hd | ⟨m, hm⟩
      · omega
      have er : rhe C (2 ^ (C.log2 - 52)) = m := by
        have := rhe_mul_self (n := m) (Nat.two_pow_pos (C.log2 - 52))
        rwa [← hm] at this
      rw [er]
      refine ⟨?_, ?_, hm.symm⟩
      · have : 2 ^ 52 * 2 ^ (C.log2 - 52) ≤ m * 2 ^ (C.log2 - 52) := by rw [← hm, ← Nat.pow_add, show 52 + (C.log2 - 52) = C.log2 by omega]; exact h1
        exact Nat.le_of_mul_le_mul_right this (Nat.two_pow_pos _)
      · have : m * 2 ^ (C.log2 - 52) < 2 ^ 53 * 2 ^ (C.log2 - 52) := by rw [← hm, ← Nat.pow_add, show 53 + (C.log2 - 52) = C.log2 + 1 by omega]; exact h2
        exact Nat.lt_of_mul_lt_mul_right this
  rw [read_word s k1.1 k1.2.1 (by omega)]
  have k3 := k1.2.2
  simp only [Datum.toInt, Datum.integral, cut_zero]
  congr 1
  congr 1
  rw [Nat.shiftLeft_eq]
  by_cases hl : C.log2 ≤ 52
  · rw [if_pos hl] at k3
    rw [k3, show (((C.log2 + 1022 : Nat) : Int) - 1074).toNat = 0 by omega, show (-(((C.log2 + 1022 : Nat) : Int) - 1074)).toNat = 52 - C.log2 by omega, Nat.pow_zero, Nat.mul_one]
    exact Nat.mul_div_cancel _ (Nat.two_pow_pos _)
  · rw [if_neg hl] at k3
    rw [show (((C.log2 + 1022 : Nat) : Int) - 1074).toNat = C.log2 - 52 by omega, show (-(((C.log2 + 1022 : Nat) : Int) - 1074)).toNat = 0 by omega, k3]
    simp

/-- The magnitude of the whole number that is not above a word. -/
def fM (x : Nat) : Nat :=
  if mg x < 4607182418800017408 then (if sg x = true ∧ mg x ≠ 0 then 1 else 0)
  else if mg x / 4503599627370496 ≤ 1075 then
    (4503599627370496 + mg x % 4503599627370496) / 2 ^ (1075 - mg x / 4503599627370496) + (if sg x = true ∧ (4503599627370496 + mg x % 4503599627370496) % 2 ^ (1075 - mg x / 4503599627370496) ≠ 0 then 1 else 0)
  else (4503599627370496 + mg x % 4503599627370496) * 2 ^ (mg x / 4503599627370496 - 1075)
def flr (x : Nat) : Int := if sg x = true then -(fM x : Int) else fM x

theorem fM_ok {x : Nat} (h : mg x < 4886405595696988160) : fM x ≤ 4611686018427387904 ∧ ((fM x).log2 ≤ 52 ∨ ∃ m, fM x = m * 2 ^ ((fM x).log2 - 52)) := by
  have small : ∀ C, C ≤ 9007199254740992 → C ≤ 4611686018427387904 ∧ (C.log2 ≤ 52 ∨ ∃ m, C = m * 2 ^ (C.log2 - 52)) := fun C hC => by
    refine ⟨by omega, ?_⟩
    rcases Nat.eq_zero_or_pos C with e | e
    · subst e; exact Or.inl (by decide)
    rcases Nat.lt_or_ge C 9007199254740992 with k | k
    · have := (Nat.log2_lt (by omega : C ≠ 0)).2 (show C < 2 ^ 53 from k)
      exact Or.inl (by omega)
    · have : C = 9007199254740992 := by omega
      subst this
      refine Or.inr ⟨4503599627370496, ?_⟩
      have : (9007199254740992 : Nat).log2 = 53 := log2_at (L := 53) (by decide) (by decide)
      rw [this]
  unfold fM
  by_cases h1 : mg x < 4607182418800017408
  · rw [if_pos h1]
    refine small _ ?_
    split <;> omega
  · rw [if_neg h1]
    by_cases h2 : mg x / 4503599627370496 ≤ 1075
    · rw [if_pos h2]
      refine small _ ?_
      rcases Nat.eq_or_lt_of_le h2 with h3 | h3
      · rw [h3, Nat.sub_self, Nat.pow_zero, Nat.div_one]
        have : ¬ (sg x = true ∧ (4503599627370496 + mg x % 4503599627370496) % 1 ≠ 0) := fun h => h.2 (Nat.mod_one _)
        rw [if_neg this]
        omega
      · have h4 : (4503599627370496 + mg x % 4503599627370496) / 2 ^ (1075 - mg x / 4503599627370496) ≤ (4503599627370496 + mg x % 4503599627370496) / 2 := by
          refine Nat.div_le_div_left ?_ (by omega)
          exact Nat.le_trans (by decide : 2 ≤ 2 ^ 1) (Nat.pow_le_pow_right (by omega) (by omega))
        split <;> omega
    · rw [if_neg h2]
      have h5 : mg x / 4503599627370496 - 1075 ≤ 9 := by omega
      have hp := Nat.pow_le_pow_right (n := 2) (by omega) h5
      have lg : ((4503599627370496 + mg x % 4503599627370496) * 2 ^ (mg x / 4503599627370496 - 1075)).log2 = 52 + (mg x / 4503599627370496 - 1075) := by
        refine log2_at ?_ ?_
        · rw [Nat.pow_add]; exact Nat.mul_le_mul_right _ (show 4503599627370496 ≤ _ by omega)
        · rw [show 52 + (mg x / 4503599627370496 - 1075) + 1 = 53 + (mg x / 4503599627370496 - 1075) by omega, Nat.pow_add]
          exact (Nat.mul_lt_mul_right (Nat.two_pow_pos _)).2 (show _ < 9007199254740992 by omega)
      refine ⟨?_, Or.inr ⟨4503599627370496 + mg x % 4503599627370496, ?_⟩⟩
      · have : (4503599627370496 + mg x % 4503599627370496) * 2 ^ (mg x / 4503599627370496 - 1075) ≤ 9007199254740992 * 2 ^ 9 := Nat.mul_le_mul (by omega) hp
        have e : 9007199254740992 * 2 ^ 9 = 4611686018427387904 := by decide
        omega
      · rw [lg, show 52 + (mg x / 4503599627370496 - 1075) - 52 = mg x / 4503599627370496 - 1075 by omega]
/-- The whole number that is not above a word, as the program makes it. -/
theorem floor_asked {x : Nat} (hx : x < 18446744073709551616) (h : mg x < 4886405595696988160) :
    FloatKind.f64.encode ((FloatKind.f64.decode x).integral .down) = double.nearest (sg x) (fM x) 0 := by
  obtain ⟨m, i, er, -, hc⟩ := read_num hx (by omega)
  have e : FloatKind.f64.decode x = .number (sg x) m ((i : Int) - 1074) := er
  rw [e]
  show double.write _ = _
  simp only [Datum.integral, Format.write, cut_down]
  congr 1
  rw [Nat.shiftLeft_eq]
  unfold fM
  rcases hc with ⟨h1, rfl, rfl⟩ | ⟨h1, rfl, rfl⟩
  · rw [if_pos (show mg x < 4607182418800017408 by omega), show (((0 : Nat) : Int) - 1074).toNat = 0 by omega, Nat.pow_zero, Nat.mul_one]
    obtain ⟨D, hD⟩ : ∃ D, D = (-(((0 : Nat) : Int) - 1074)).toNat := ⟨_, rfl⟩
    rw [← hD]
    have k : mg x < 2 ^ D := lt_pow_of (e := 52) h1 (by omega)
    rw [Nat.div_eq_of_lt k, Nat.mod_eq_of_lt k, Nat.zero_add]
  · by_cases h2 : mg x < 4607182418800017408
    · rw [if_pos h2, show (((mg x / 4503599627370496 - 1 : Nat) : Int) - 1074).toNat = 0 by omega, show (-(((mg x / 4503599627370496 - 1 : Nat) : Int) - 1074)).toNat = 1075 - mg x / 4503599627370496 by omega, Nat.pow_zero, Nat.mul_one]
      have q0 : 4503599627370496 + mg x % 4503599627370496 < 9007199254740992 := by omega
      have k : 4503599627370496 + mg x % 4503599627370496 < 2 ^ (1075 - mg x / 4503599627370496) := lt_pow_of (e := 53) q0 (by omega)
      rw [Nat.div_eq_of_lt k, Nat.mod_eq_of_lt k, Nat.zero_add]
      have q1 : 4503599627370496 + mg x % 4503599627370496 ≠ 0 := by omega
      have q2 : mg x ≠ 0 := by omega
      simp only [q1, q2, ne_eq, not_false_eq_true, and_true]
    · rw [if_neg h2]
      by_cases h3 : mg x / 4503599627370496 ≤ 1075
      · rw [if_pos h3, show (((mg x / 4503599627370496 - 1 : Nat) : Int) - 1074).toNat = 0 by omega, show (-(((mg x / 4503599627370496 - 1 : Nat) : Int) - 1074)).toNat = 1075 - mg x / 4503599627370496 by omega, Nat.pow_zero, Nat.mul_one]
      · rw [if_neg h3, show (((mg x / 4503599627370496 - 1 : Nat) : Int) - 1074).toNat = mg x / 4503599627370496 - 1075 by omega, show (-(((mg x / 4503599627370496 - 1 : Nat) : Int) - 1074)).toNat = 0 by omega, Nat.pow_zero, Nat.div_one]
        have : ¬ (sg x = true ∧ (4503599627370496 + mg x % 4503599627370496) * 2 ^ (mg x / 4503599627370496 - 1075) % 1 ≠ 0) := fun h => h.2 (Nat.mod_one _)
        rw [if_neg this, Nat.add_zero]
theorem int_asked {x : Nat} (h : mg x < 4886405595696988160) : floatToIntVal .f64 (double.nearest (sg x) (fM x) 0) .i64 = some (flr x) := by
  have hM := fM_ok h
  unfold floatToIntVal
  have e : (FloatKind.f64.decode (double.nearest (sg x) (fM x) 0)).toInt .zero = some (signed (sg x) (fM x) 0) := back _ _ (by omega) hM.2
  rw [e]
  have e2 : signed (sg x) (fM x) 0 = flr x := by unfold flr signed; simp only [Nat.shiftLeft_zero]
  simp only [e2]
  have m1 : IntKind.i64.min = -9223372036854775808 := by decide
  have m2 : IntKind.i64.max = 9223372036854775807 := by decide
  have b : -4611686018427387904 ≤ flr x ∧ flr x ≤ 4611686018427387904 := by unfold flr; split <;> omega
  rw [if_pos (by rw [m1, m2]; omega)]

/-- What a number counts as. -/
def cl (n : Int) : Int := min (max n (-9007199254740992)) 9007199254740992
theorem cl_lo (n : Int) : -9007199254740992 ≤ cl n := by unfold cl; omega
theorem cl_hi (n : Int) : cl n ≤ 9007199254740992 := by unfold cl; omega
theorem cl_self {n : Int} (h1 : -9007199254740992 ≤ n) (h2 : n ≤ 9007199254740992) : cl n = n := by unfold cl; omega
def bt (s : Bool) : Nat := if s = true then 9223372036854775808 else 0
/-- The bits of a quotient. -/
def qv (a b : Int) : Nat :=
  if cl a = 0 ∧ cl b = 0 then 9221120237041090560
  else bt (decide (cl a < 0) ^^ decide (cl b < 0)) + (if cl b = 0 then 9218868437227405312 else if cl a = 0 then 0 else pos (cl a).natAbs (cl b).natAbs)
theorem pos_lo {a b : Nat} (ha : 0 < a) (hb : 0 < b) (hb5 : b ≤ 2 ^ 53) : 4355103614800596992 ≤ pos a b := by
  have h := ns_E ha hb
  have h1 := h.rhe_lo hb
  have h2 := h.bound ha hb5
  unfold pos
  have h3 : 969 * 2 ^ 52 ≤ ((lE a b : Int) - (kE a b : Int) + 1022).toNat * 2 ^ 52 := Nat.mul_le_mul_right _ (by omega)
  have e : 970 * 4503599627370496 = 4368491638549381120 := by decide
  have e2 : (969 * 2 ^ 52 : Nat) = 4363988038922010624 := by decide
  have e3 : (2 ^ 52 : Nat) = 4503599627370496 := by decide
  omega
theorem pos_hi {a b : Nat} (ha : 0 < a) (hb : 0 < b) (ha5 : a ≤ 2 ^ 53) : pos a b ≤ 4850376798678024192 := by
  have h := ns_E ha hb
  have h1 := h.rhe_hi hb
  have h2 := h.bound' ha5 hb
  unfold pos
  have h3 : ((lE a b : Int) - (kE a b : Int) + 1022).toNat * 2 ^ 52 ≤ 1075 * 2 ^ 52 := Nat.mul_le_mul_right _ (by omega)
  exact Nat.le_trans (Nat.add_le_add h3 h1) (by decide)
theorem word_bt (s : Bool) (r : Nat) : double.word s r = bt s + r := by
  unfold Format.word bt
  rw [d_sign]
  cases s
  · simp
  · rfl
theorem fl_zero (s : Bool) : fl s 0 = bt s := by
  unfold fl Format.nearest
  rw [if_pos rfl, word_bt, Nat.add_zero]
theorem nat_abs_ok {n : Int} (h1 : -9007199254740992 ≤ n) (h2 : n ≤ 9007199254740992) : n.natAbs ≤ 2 ^ 53 := by
  have e3 : (2 ^ 53 : Nat) = 9007199254740992 := by decide
  omega
theorem of_int (n : Int) : floatOfInt .f64 n = fl (decide (n < 0)) n.natAbs := rfl
theorem of_asked (n : Int) : floatOfInt .f64 (cl n) = qv n 1 := by
  rw [of_int]
  have c1 : cl 1 = 1 := by decide
  have hlo := cl_lo n
  have hhi := cl_hi n
  unfold qv
  rw [c1, if_neg (by omega), if_neg (by omega), show decide ((1 : Int) < 0) = false by decide, Bool.xor_false, show (1 : Int).natAbs = 1 by decide]
  generalize cl n = p at *
  by_cases hp : p = 0
  · subst hp
    rw [if_pos rfl]
    exact fl_zero _
  · rw [if_neg hp]
    have h5 := nat_abs_ok hlo hhi
    have hp' : 0 < p.natAbs := by omega
    obtain ⟨m, m1, m2, m3, m4, e⟩ := fl_word (decide (p < 0)) hp' h5
    rw [e, word_bt]
    have hns : Ns p.natAbs 1 0 p.natAbs.log2 := ⟨by have := log2_lo hp'; omega, by have := log2_hi hp'; rw [Nat.pow_succ] at this; omega⟩
    rw [pos_eq hp' (by omega) hns]
    have er : rhe (p.natAbs * 2 ^ 0 * 2 ^ 52) (1 * 2 ^ p.natAbs.log2) = m := by
      rw [Nat.pow_zero, Nat.mul_one, Nat.one_mul, ← m3]
      exact rhe_mul_self (Nat.two_pow_pos _)
    rw [er]
    congr 2
theorem div_asked {p q : Int} (p1 : -9007199254740992 ≤ p) (p2 : p ≤ 9007199254740992) (q1 : -9007199254740992 ≤ q) (q2 : q ≤ 9007199254740992) :
    floatBits .quo .f64 (floatOfInt .f64 p) (floatOfInt .f64 q) = if p = 0 ∧ q = 0 then none else some (qv p q) := by
  have hp := nat_abs_ok p1 p2
  have hq := nat_abs_ok q1 q2
  show double.div _ _ = _
  rw [of_int, of_int]
  unfold qv
  rw [cl_self p1 p2, cl_self q1 q2]
  by_cases p0 : p = 0
  · by_cases q0 : q = 0
    · subst p0; subst q0
      decide
    · subst p0
      rw [if_neg (by omega), if_neg (by omega), if_neg q0, if_pos rfl, show decide ((0 : Int) < 0) = false by decide, Bool.false_xor, show (0 : Int).natAbs = 0 by decide, fl_zero]
      obtain ⟨n, n1, n2, n3, n4, en⟩ := fl_read (decide (q < 0)) (by omega : 0 < q.natAbs) hq
      unfold Format.div
      rw [en, show double.read (bt false) = .number false 0 (-1074) by decide]
      have e3 : (2 ^ 52 : Nat) = 4503599627370496 := by decide
      have hn : n ≠ 0 := by omega
      simp only [Datum.quotient, if_neg hn, Nat.zero_shiftLeft, Nat.zero_div, Nat.zero_mod, Nat.mul_zero, Bool.false_xor, Option.map_some, Format.write]
      congr 1
  · by_cases q0 : q = 0
    · subst q0
      rw [if_neg (by omega), if_neg (by omega), if_pos rfl, show decide ((0 : Int) < 0) = false by decide, Bool.xor_false, show (0 : Int).natAbs = 0 by decide, fl_zero]
      obtain ⟨n, n1, n2, n3, n4, en⟩ := fl_read (decide (p < 0)) (by omega : 0 < p.natAbs) hp
      unfold Format.div
      rw [en, show double.read (bt false) = .number false 0 (-1074) by decide]
      have e3 : (2 ^ 52 : Nat) = 4503599627370496 := by decide
      have hn : n ≠ 0 := by omega
      simp only [Datum.quotient, if_true, if_neg hn, Bool.xor_false, Option.map_some, Format.write, word_bt, d_inf]
    · rw [if_neg (by omega), if_neg (by omega), if_neg q0, if_neg p0, ← word_bt]
      exact div_fl _ _ (by omega) (by omega) hp hq
theorem qv_lt (a b : Int) : qv a b < 18446744073709551616 := by
  unfold qv
  have h1 := nat_abs_ok (cl_lo a) (cl_hi a)
  have hb : ∀ s, bt s ≤ 9223372036854775808 := fun s => by cases s <;> decide
  have := hb (decide (cl a < 0) ^^ decide (cl b < 0))
  split
  · decide
  · split
    · omega
    · split
      · omega
      · have := pos_hi (a := (cl a).natAbs) (b := (cl b).natAbs) (by omega) (by omega) h1
        omega
theorem qv_cl (a b : Int) : qv (cl a) (cl b) = qv a b := by
  unfold qv
  rw [cl_self (cl_lo a) (cl_hi a), cl_self (cl_lo b) (cl_hi b)]
end Go.Proofs.Ytjcmlelfmnonkaa.Fl
