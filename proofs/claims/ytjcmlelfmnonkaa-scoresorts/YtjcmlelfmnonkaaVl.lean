/-
  The plain theory of the statements without memory: that the order is total, that quotients keep it, what their floors are, their signs. No program's function is walked here.
-/
import Derived.Test.YtjcmlelfmnonkaaVaf
namespace Go.Proofs.Ytjcmlelfmnonkaa.Fl
set_option linter.unusedVariables false

theorem cmp_anti (x y : Nat) : cmp y x = -cmp x y := by unfold cmp; split <;> split <;> omega
theorem cmp_bd (x y : Nat) : -1 ≤ cmp x y ∧ cmp x y ≤ 1 := by unfold cmp; split <;> (try split) <;> omega
theorem cmp_self (x : Nat) : cmp x x = 0 := by unfold cmp; rw [if_neg (by omega), if_neg (by omega)]
theorem cmp_trans {x y z : Nat} (h1 : cmp x y ≤ 0) (h2 : cmp y z ≤ 0) : cmp x z ≤ 0 := by
  unfold cmp at *
  revert h1 h2
  split <;> split <;> split <;> (try split) <;> (try split) <;> (try split) <;> omega
theorem cmp_le {x y : Nat} (h : rank x ≤ rank y) : cmp x y ≤ 0 := by unfold cmp; split <;> (try split) <;> omega
theorem cmp_lt {x y : Nat} (h : rank x < rank y) : cmp x y = -1 := by unfold cmp; rw [if_pos h]
theorem cmp_gt {x y : Nat} (h : rank y < rank x) : cmp x y = 1 := by unfold cmp; rw [if_neg (by omega), if_pos h]

theorem bt_f : bt false = 0 := rfl
theorem bt_t : bt true = 9223372036854775808 := rfl
theorem mg_bt {s : Bool} {P : Nat} (h : P < 9223372036854775808) : mg (bt s + P) = P := by
  cases s
  · rw [bt_f]; unfold mg; omega
  · rw [bt_t]; unfold mg; omega
theorem sg_bt {s : Bool} {P : Nat} (h : P < 9223372036854775808) : sg (bt s + P) = s := by
  cases s
  · rw [bt_f]; unfold sg; rw [decide_eq_false_iff_not]; omega
  · rw [bt_t]; unfold sg; rw [decide_eq_true_eq]; omega

/-- A quotient by a number that is not 0, as a sign and a magnitude. -/
theorem qv_form {a b : Int} (b0 : cl b ≠ 0) : ∃ P, qv a b = bt (decide (cl a < 0) ^^ decide (cl b < 0)) + P ∧ P ≤ 4850376798678024192 ∧ (cl a = 0 → P = 0) ∧ (cl a ≠ 0 → P = pos (cl a).natAbs (cl b).natAbs ∧ 4355103614800596992 ≤ P) := by
  have h1 := nat_abs_ok (cl_lo a) (cl_hi a)
  have h2 := nat_abs_ok (cl_lo b) (cl_hi b)
  unfold qv
  rw [if_neg (fun h => b0 h.2), if_neg b0]
  by_cases h : cl a = 0
  · rw [if_pos h]
    exact ⟨0, rfl, by omega, fun _ => rfl, fun k => absurd h k⟩
  · rw [if_neg h]
    exact ⟨_, rfl, pos_hi (by omega) (by omega) h1, fun k => absurd k h, fun _ => ⟨rfl, pos_lo (by omega) (by omega) h2⟩⟩
theorem rank_form {s : Bool} {P : Nat} (h : P ≤ 9218868437227405312) : rank (bt s + P) = if s = true then 9223372036854775807 - P else 9223372036854775808 + P := by
  cases s
  · have e : bt false = 0 := rfl
    rw [e]
    unfold rank odd mg
    rw [if_neg (by rw [decide_eq_true_eq]; omega), if_neg (by omega), if_neg (by simp)]
    omega
  · have e : bt true = 9223372036854775808 := rfl
    rw [e]
    unfold rank odd mg
    rw [if_neg (by rw [decide_eq_true_eq]; omega), if_pos (by omega), if_pos rfl]
    omega
theorem rank_none : rank 9221120237041090560 = 18446744073709551615 := by decide
theorem rank_le (x : Nat) (hx : x < 18446744073709551616) : rank x ≤ 18446744073709551615 := by
  unfold rank odd mg
  simp only [decide_eq_true_eq]
  split
  · omega
  · split <;> omega

/-- Quotients by one number above 0 rise with what is divided. -/
theorem rise_one {a c b : Int} (ha : -9007199254740992 ≤ a) (hac : a ≤ c) (hc : c ≤ 9007199254740992) (hb : 1 ≤ b) (hb5 : b ≤ 9007199254740992) : rank (qv a b) ≤ rank (qv c b) := by
  have ea := cl_self (n := a) ha (by omega)
  have ec := cl_self (n := c) (by omega) hc
  have eb := cl_self (n := b) (by omega) hb5
  obtain ⟨P, h1, h2, h3, h4⟩ := qv_form (a := a) (b := b) (by omega)
  obtain ⟨Q, k1, k2, k3, k4⟩ := qv_form (a := c) (b := b) (by omega)
  rw [h1, k1, rank_form (by omega), rank_form (by omega), ea, ec, eb]
  rw [ea, eb] at h4
  rw [ea] at h3
  rw [ec, eb] at k4
  rw [ec] at k3
  have e0 : decide (b < 0) = false := decide_eq_false (by omega)
  rw [e0, Bool.xor_false, Bool.xor_false]
  have e2 : (2 : Nat) ^ 53 = 9007199254740992 := by decide
  by_cases s1 : a < 0
  · rw [if_pos (decide_eq_true s1)]
    by_cases s2 : c < 0
    · rw [if_pos (decide_eq_true s2), (h4 (by omega)).1, (k4 (by omega)).1]
      have := pos_mono (a := c.natAbs) (b := b.natAbs) (c := a.natAbs) (d := b.natAbs) (by omega) (by omega) (by omega) (by omega) (by omega) (Nat.mul_le_mul_right _ (by omega))
      omega
    · rw [if_neg (by rw [decide_eq_true_eq]; exact s2)]
      omega
  · rw [if_neg (by rw [decide_eq_true_eq]; exact s1), if_neg (by rw [decide_eq_true_eq]; omega)]
    by_cases z : a = 0
    · rw [h3 z]; omega
    · rw [(h4 z).1, (k4 (by omega)).1]
      have := pos_mono (a := a.natAbs) (b := b.natAbs) (c := c.natAbs) (d := b.natAbs) (by omega) (by omega) (by omega) (by omega) (by omega) (Nat.mul_le_mul_right _ (by omega))
      omega
/-- Those of one number above 0 fall as what divides it rises. -/
theorem rise_two {a b d : Int} (ha : 1 ≤ a) (ha5 : a ≤ 9007199254740992) (hb : 1 ≤ b) (hbd : b ≤ d) (hd : d ≤ 9007199254740992) : rank (qv a d) ≤ rank (qv a b) := by
  have ea := cl_self (n := a) (by omega) (by omega)
  have eb := cl_self (n := b) (by omega) (by omega)
  have ed := cl_self (n := d) (by omega) hd
  obtain ⟨P, h1, h2, h3, h4⟩ := qv_form (a := a) (b := d) (by omega)
  obtain ⟨Q, k1, k2, k3, k4⟩ := qv_form (a := a) (b := b) (by omega)
  rw [h1, k1, rank_form (by omega), rank_form (by omega), ea, eb, ed]
  rw [ea, ed] at h4
  rw [ea, eb] at k4
  have e0 : decide (b < 0) = false := decide_eq_false (by omega)
  have e1 : decide (d < 0) = false := decide_eq_false (by omega)
  have e3 : decide (a < 0) = false := decide_eq_false (by omega)
  rw [e0, e1, e3, Bool.xor_false, if_neg (by simp), if_neg (by simp), (h4 (by omega)).1, (k4 (by omega)).1]
  have e2 : (2 : Nat) ^ 53 = 9007199254740992 := by decide
  have := pos_mono (a := a.natAbs) (b := d.natAbs) (c := a.natAbs) (d := b.natAbs) (by omega) (by omega) (by omega) (by omega) (by omega) (Nat.mul_le_mul_left _ (by omega))
  omega
/-- With both opposite a quotient is the same. -/
theorem both_opp {a b : Int} (a0 : a ≠ 0) (b0 : b ≠ 0) (ha : -9007199254740992 ≤ a) (ha5 : a ≤ 9007199254740992) (hb : -9007199254740992 ≤ b) (hb5 : b ≤ 9007199254740992) : qv (-a) (-b) = qv a b := by
  have ea := cl_self (n := a) ha ha5
  have eb := cl_self (n := b) hb hb5
  have ea' := cl_self (n := -a) (by omega) (by omega)
  have eb' := cl_self (n := -b) (by omega) (by omega)
  unfold qv
  rw [ea, eb, ea', eb', if_neg (by omega), if_neg (by omega), if_neg (by omega), if_neg (by omega), if_neg (by omega), if_neg (by omega), Int.natAbs_neg, Int.natAbs_neg]
  congr 1
  congr 1
  by_cases s1 : a < 0 <;> by_cases s2 : b < 0
  · rw [decide_eq_true s1, decide_eq_true s2, decide_eq_false (by omega), decide_eq_false (by omega)]; rfl
  · rw [decide_eq_true s1, decide_eq_false s2, decide_eq_false (by omega), decide_eq_true (by omega)]; rfl
  · rw [decide_eq_false s1, decide_eq_true s2, decide_eq_true (by omega), decide_eq_false (by omega)]; rfl
  · rw [decide_eq_false s1, decide_eq_false s2, decide_eq_true (by omega), decide_eq_true (by omega)]; rfl
/-- The signs. -/
theorem signs {a b : Int} (a0 : a ≠ 0) (b0 : b ≠ 0) (ha : -9007199254740992 ≤ a) (ha5 : a ≤ 9007199254740992) (hb : -9007199254740992 ≤ b) (hb5 : b ≤ 9007199254740992) :
    ∃ P s, P < 9223372036854775808 ∧ qv a b = bt s + P ∧ qv (-a) b = bt (!s) + P ∧ qv a (-b) = bt (!s) + P ∧ s = (decide (a < 0) != decide (b < 0)) := by
  have ea := cl_self (n := a) ha ha5
  have eb := cl_self (n := b) hb hb5
  have ea' := cl_self (n := -a) (by omega) (by omega)
  have eb' := cl_self (n := -b) (by omega) (by omega)
  have hp := pos_hi (a := a.natAbs) (b := b.natAbs) (by omega) (by omega) (nat_abs_ok ha ha5)
  refine ⟨pos a.natAbs b.natAbs, (decide (a < 0) != decide (b < 0)), by omega, ?_, ?_, ?_, rfl⟩
  · unfold qv
    rw [ea, eb, if_neg (by omega), if_neg (by omega), if_neg (by omega)]
  · unfold qv
    rw [ea', eb, if_neg (by omega), if_neg (by omega), if_neg (by omega), Int.natAbs_neg]
    congr 1
    by_cases s1 : a < 0 <;> by_cases s2 : b < 0
    · rw [decide_eq_true s1, decide_eq_true s2, decide_eq_false (by omega)]; rfl
    · rw [decide_eq_true s1, decide_eq_false s2, decide_eq_false (by omega)]; rfl
    · rw [decide_eq_false s1, decide_eq_true s2, decide_eq_true (by omega)]; rfl
    · rw [decide_eq_false s1, decide_eq_false s2, decide_eq_true (by omega)]; rfl
  · unfold qv
    rw [ea, eb', if_neg (by omega), if_neg (by omega), if_neg (by omega), Int.natAbs_neg]
    congr 1
    by_cases s1 : a < 0 <;> by_cases s2 : b < 0
    · rw [decide_eq_true s1, decide_eq_true s2, decide_eq_false (by omega)]; rfl
    · rw [decide_eq_true s1, decide_eq_false s2, decide_eq_true (by omega)]; rfl
    · rw [decide_eq_false s1, decide_eq_true s2, decide_eq_false (by omega)]; rfl
    · rw [decide_eq_false s1, decide_eq_false s2, decide_eq_true (by omega)]; rfl

/-- The floor of a quotient above or below 0. -/
theorem floor_pos {A B : Nat} (s : Bool) (hA : 0 < A) (hA5 : A ≤ 4503599627370496) (hB : 0 < B) (hB5 : B ≤ 9007199254740992) :
    fM (bt s + pos A B) = A / B + (if s = true ∧ A % B ≠ 0 then 1 else 0) := by
  have e52 : (2 : Nat) ^ 52 = 4503599627370496 := by decide
  have e53 : (2 : Nat) ^ 53 = 9007199254740992 := by decide
  have hh := pos_hi (a := A) (b := B) hA hB (by omega)
  have hlo := pos_lo (a := A) (b := B) hA hB (by omega)
  have hm : mg (bt s + pos A B) = pos A B := mg_bt (by omega)
  have hsg : sg (bt s + pos A B) = s := sg_bt (by omega)
  unfold fM
  rw [hm, hsg]
  have hns := ns_E hA hB
  by_cases hc : B ≤ A
  · have hk : kE A B = 0 := by unfold kE; rw [if_pos hc]
    rw [hk] at hns
    obtain ⟨R, hR, l5, R1, R2, R3, R4⟩ := floor_in hB (by omega) hns
    have hp := pos_eq hA hB hns
    rw [Nat.pow_zero, Nat.mul_one, ← hR] at hp
    generalize lE A B = l at *
    have hz : ((l : Int) - ((0 : Nat) : Int) + 1022).toNat = l + 1022 := by omega
    rw [hz, e52] at hp
    rw [e52] at R1
    rw [e53] at R2
    have c1 : pos A B / 4503599627370496 = l + 1023 := by rw [hp]; omega
    have c2 : 4503599627370496 + pos A B % 4503599627370496 = R := by rw [hp]; omega
    rw [if_neg (by rw [hp]; omega), if_pos (by omega), c2, c1, show 1075 - (l + 1023) = 52 - l by omega, R3]
    congr 1
    have : R % 2 ^ (52 - l) ≠ 0 ↔ A % B ≠ 0 := not_congr R4
    simp only [this]
  · have hl : lE A B = 0 := by unfold lE; rw [if_neg hc]
    rw [hl] at hns
    obtain ⟨f1, f2, f3⟩ := floor_out hA (by omega) (by omega) hns
    have hp := pos_eq hA hB hns
    rw [Nat.pow_zero, Nat.mul_one] at hp
    have hbd := hns.bound hA (by omega)
    generalize kE A B = k at *
    generalize rhe (A * 2 ^ k * 2 ^ 52) B = R at *
    have hz : (((0 : Nat) : Int) - (k : Int) + 1022).toNat = 1022 - k := by omega
    rw [hz, e52] at hp
    rw [e53] at f1 f2
    have hlt : pos A B < 4607182418800017408 := by
      rw [hp]
      by_cases h1 : k = 1
      · have := f2 h1
        subst h1
        omega
      · have : (1022 - k) * 4503599627370496 ≤ 1020 * 4503599627370496 := Nat.mul_le_mul_right _ (by omega)
        omega
    rw [if_pos hlt, Nat.div_eq_of_lt (by omega), Nat.mod_eq_of_lt (by omega), Nat.zero_add]
    have q1 : pos A B ≠ 0 := by omega
    have q2 : A ≠ 0 := by omega
    simp only [q1, q2, ne_eq, not_false_eq_true, and_true]
theorem floors {a b : Int} (ha : -4503599627370496 ≤ a) (ha5 : a ≤ 4503599627370496) (hb : 1 ≤ b) (hb5 : b ≤ 9007199254740992) :
    mg (qv a b) < 4886405595696988160 ∧ flr (qv a b) * b ≤ a ∧ a < (flr (qv a b) + 1) * b := by
  have ea := cl_self (n := a) (by omega) (by omega)
  have eb := cl_self (n := b) (by omega) hb5
  have e0 : decide (b < 0) = false := decide_eq_false (by omega)
  by_cases z : a = 0
  · have e : qv a b = 0 := by
      unfold qv
      rw [ea, eb, if_neg (by omega), if_neg (by omega), if_pos z, e0, z]
      rfl
    have f0 : flr 0 = 0 := by decide
    have m0 : mg 0 = 0 := by decide
    rw [e, f0, m0]
    exact ⟨by omega, by omega, by omega⟩
  · obtain ⟨A, hA⟩ : ∃ A, A = a.natAbs := ⟨_, rfl⟩
    obtain ⟨B, hB⟩ : ∃ B, B = b.natAbs := ⟨_, rfl⟩
    have e : qv a b = bt (decide (a < 0)) + pos A B := by
      unfold qv
      rw [ea, eb, if_neg (by omega), if_neg (by omega), if_neg z, e0, Bool.xor_false, hA, hB]
    have e53 : (2 : Nat) ^ 53 = 9007199254740992 := by decide
    have hp := pos_hi (a := A) (b := B) (by omega) (by omega) (by omega)
    have hf := floor_pos (A := A) (B := B) (decide (a < 0)) (by omega) (by omega) (by omega) (by omega)
    have hm : mg (qv a b) = pos A B := by rw [e]; exact mg_bt (by omega)
    have hsg : sg (qv a b) = decide (a < 0) := by rw [e]; exact sg_bt (by omega)
    refine ⟨by omega, ?_⟩
    have hd := Nat.div_add_mod A B
    have hr := Nat.mod_lt A (show 0 < B by omega)
    unfold flr
    rw [hsg, e, hf]
    have hBb : (B : Int) = b := by omega
    have hd' : b * ((A / B : Nat) : Int) + ((A % B : Nat) : Int) = (A : Int) := by rw [← hBb]; exact_mod_cast hd
    generalize ((A / B : Nat)) = D at *
    generalize hM : A % B = M at *
    have hbD : (D : Int) * b = b * (D : Int) := Int.mul_comm _ _
    by_cases s1 : a < 0
    · rw [if_pos (decide_eq_true s1)]
      by_cases hM0 : M = 0
      · rw [if_neg (fun h => h.2 hM0), Nat.add_zero, Int.neg_mul, Int.add_mul, Int.neg_mul, hbD, Int.one_mul]
        omega
      · rw [if_pos ⟨decide_eq_true s1, hM0⟩, Int.natCast_add, Int.neg_mul, Int.add_mul, Int.add_mul, Int.neg_mul, Int.add_mul, hbD]
        have : ((1 : Nat) : Int) * b = b := by omega
        rw [this, Int.one_mul]
        omega
    · rw [if_neg (by rw [decide_eq_true_eq]; exact s1), if_neg (fun h => s1 (of_decide_eq_true h.1)), Nat.add_zero, Int.add_mul, hbD, Int.one_mul]
      omega
theorem mul_bd {a b : Int} (i1 : -67108864 ≤ a) (i2 : a ≤ 67108864) (i3 : -67108864 ≤ b) (i4 : b ≤ 67108864) : -4503599627370496 ≤ a * b ∧ a * b ≤ 4503599627370496 := by
  have h : (a * b).natAbs ≤ 67108864 * 67108864 := by rw [Int.natAbs_mul]; exact Nat.mul_le_mul (by omega) (by omega)
  omega
theorem rank_inj {x y : Nat} (hx : x < 18446744073709551616) (hy : y < 18446744073709551616) (ox : mg x < 9218868437227405312) (oy : mg y < 9218868437227405312) (h : rank x = rank y) : x = y := by
  unfold rank odd at h
  simp only [decide_eq_true_eq] at h
  rw [if_neg (show ¬ 9218868437227405312 < mg x by omega), if_neg (show ¬ 9218868437227405312 < mg y by omega)] at h
  split at h <;> split at h <;> omega
theorem wholes {a b : Int} (i1 : -67108864 ≤ a) (i2 : a ≤ 67108864) (i3 : -67108864 ≤ b) (i4 : b ≤ 67108864) (i5 : b ≠ 0) :
    mg (qv a 1) < 4886405595696988160 ∧ flr (qv a 1) = a ∧ mg (qv (a * b) b) < 4886405595696988160 ∧ flr (qv (a * b) b) = a ∧ cmp (qv a 1) (qv b 1) = if a < b then -1 else if b < a then 1 else 0 := by
  have one : ∀ c : Int, -67108864 ≤ c → c ≤ 67108864 → mg (qv c 1) < 4886405595696988160 ∧ flr (qv c 1) = c := fun c h1 h2 => by
    obtain ⟨f1, f2, f3⟩ := floors (a := c) (b := 1) (by omega) (by omega) (by omega) (by omega)
    exact ⟨f1, by omega⟩
  have two : ∀ c d : Int, -67108864 ≤ c → c ≤ 67108864 → 1 ≤ d → d ≤ 67108864 → mg (qv (c * d) d) < 4886405595696988160 ∧ flr (qv (c * d) d) = c := fun c d h1 h2 h3 h4 => by
    have hb := mul_bd h1 h2 (by omega : -67108864 ≤ d) h4
    obtain ⟨f1, f2, f3⟩ := floors (a := c * d) (b := d) hb.1 hb.2 h3 (by omega)
    refine ⟨f1, ?_⟩
    have g1 := Int.le_of_mul_le_mul_right f2 (by omega)
    have g2 := Int.lt_of_mul_lt_mul_right f3 (by omega)
    omega
  obtain ⟨o1, o2⟩ := one a i1 i2
  obtain ⟨o3, o4⟩ := one b i3 i4
  refine ⟨o1, o2, ?_⟩
  have third : mg (qv (a * b) b) < 4886405595696988160 ∧ flr (qv (a * b) b) = a := by
    by_cases hb : 1 ≤ b
    · exact two a b i1 i2 hb i4
    · by_cases ha : a = 0
      · subst ha
        rw [Int.zero_mul]
        have eb := cl_self (n := b) (by omega) (by omega)
        have e : qv 0 b = 9223372036854775808 := by
          unfold qv
          have c0 : cl 0 = 0 := by decide
          rw [c0, eb, if_neg (by omega), if_neg (by omega), if_pos rfl, decide_eq_true (show b < 0 by omega)]
          rfl
        rw [e]
        decide
      · have hb' := mul_bd i1 i2 i3 i4
        have e := both_opp (a := a * b) (b := b) (Int.mul_ne_zero ha i5) i5 (by omega) (by omega) (by omega) (by omega)
        rw [← e, ← Int.mul_neg]
        exact two a (-b) i1 i2 (by omega) (by omega)
  refine ⟨third.1, third.2, ?_⟩
  have ne : a ≠ b → rank (qv a 1) ≠ rank (qv b 1) := fun h k => h (by
    have := rank_inj (qv_lt _ _) (qv_lt _ _) (by omega) (by omega) k
    rw [← o2, ← o4, this])
  by_cases h1 : a < b
  · have r := rise_one (a := a) (c := b) (b := 1) (by omega) (by omega) (by omega) (by omega) (by omega)
    have := ne (by omega)
    rw [if_pos h1, cmp_lt (by omega)]
  · rw [if_neg h1]
    by_cases h2 : b < a
    · have r := rise_one (a := b) (c := a) (b := 1) (by omega) (by omega) (by omega) (by omega) (by omega)
      have := ne (by omega)
      rw [if_pos h2, cmp_gt (by omega)]
    · have : a = b := by omega
      subst this
      rw [if_neg h2, cmp_self]
theorem edges (a b c : Int) : ¬ mg (qv a 0) < 4886405595696988160 ∧ (a = 0 → qv a 0 = 9221120237041090560 ∧ 0 ≤ cmp (qv a 0) (qv b c)) ∧ (0 < a → c ≠ 0 → cmp (qv a 0) (qv b c) = 1) ∧ (a < 0 → c ≠ 0 → cmp (qv a 0) (qv b c) = -1) := by
  have c0 : cl 0 = 0 := by decide
  have d0 : decide ((0 : Int) < 0) = false := by decide
  have z : ∀ n : Int, (cl n = 0 ↔ n = 0) ∧ (cl n < 0 ↔ n < 0) := fun n => by unfold cl; omega
  have e0 : a = 0 → qv a 0 = 9221120237041090560 := fun h => by unfold qv; rw [if_pos ⟨(z a).1.2 h, c0⟩]
  have e1 : a ≠ 0 → qv a 0 = bt (decide (cl a < 0)) + 9218868437227405312 := fun h => by
    unfold qv
    rw [if_neg (fun k => h ((z a).1.1 k.1)), c0, if_pos rfl, d0, Bool.xor_false]
  have y : c ≠ 0 → ∃ P s, qv b c = bt s + P ∧ P ≤ 4850376798678024192 := fun h => by
    obtain ⟨P, h1, h2, -, -⟩ := qv_form (a := b) (b := c) (fun k => h ((z c).1.1 k))
    exact ⟨P, _, h1, h2⟩
  refine ⟨?_, ?_, ?_, ?_⟩
  · by_cases h : a = 0
    · rw [e0 h]; decide
    · rw [e1 h, mg_bt (by omega)]; omega
  · intro h
    refine ⟨e0 h, ?_⟩
    rw [e0 h]
    unfold cmp
    rw [rank_none]
    have := rank_le (qv b c) (qv_lt _ _)
    rw [if_neg (by omega)]
    split <;> omega
  · intro h hc
    obtain ⟨P, s, e, hP⟩ := y hc
    have hd : decide (cl a < 0) = false := decide_eq_false (by have := (z a).2; omega)
    rw [e1 (by omega), e, hd]
    refine cmp_gt ?_
    rw [rank_form (by omega), rank_form (by omega), if_neg (show ¬ (false = true) by simp)]
    split <;> omega
  · intro h hc
    obtain ⟨P, s, e, hP⟩ := y hc
    have hd : decide (cl a < 0) = true := decide_eq_true (by have := (z a).2; omega)
    rw [e1 (by omega), e, hd]
    refine cmp_lt ?_
    rw [rank_form (by omega), rank_form (by omega), if_pos (show true = true from rfl)]
    split <;> omega
end Go.Proofs.Ytjcmlelfmnonkaa.Fl
