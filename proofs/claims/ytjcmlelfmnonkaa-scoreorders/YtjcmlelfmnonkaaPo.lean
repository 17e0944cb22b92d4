/-
  The walk of the document's positive: the bits of the quotient of two numbers above 0. Conditions: they are from 1 to 2 ^ 53.
-/
import Derived.Test.YtjcmlelfmnonkaaCm
namespace Go.Proofs.Ytjcmlelfmnonkaa
open Go.RowKit Go.Proofs.Ytjcmlelfmnonkaa.Fl
set_option linter.unusedVariables false
set_option maxRecDepth 100000

theorem exp_le {l B b : Nat} (hb : 0 < b) (hB : B = b * 2 ^ l) (h : B ≤ 9007199254740992) : l ≤ 53 := by
  have h1 : 2 ^ l ≤ b * 2 ^ l := Nat.le_mul_of_pos_left _ hb
  have h2 : 2 ^ l ≤ 2 ^ 53 := by
    have e : (2 : Nat) ^ 53 = 9007199254740992 := by decide
    omega
  exact (Nat.pow_le_pow_iff_right (by omega)).1 h2
theorem exp_lt {l B b : Nat} (hb : 0 < b) (hB : B = b * 2 ^ l) (h : B < 18014398509481984) : l ≤ 53 := by
  have h1 : 2 ^ l ≤ b * 2 ^ l := Nat.le_mul_of_pos_left _ hb
  have h2 : 2 ^ l < 2 ^ 54 := by
    have e : (2 : Nat) ^ 54 = 18014398509481984 := by decide
    omega
  have := (Nat.pow_lt_pow_iff_right (by omega)).1 h2
  omega
theorem long_div {m A B X : Nat} (h : 2 * (m * B) + A = 2 * X) (hA : A < 2 * B) : X / B = m ∧ A = 2 * (X % B) := by
  have hB : 0 < B := by omega
  obtain ⟨t, rfl⟩ : ∃ t, A = 2 * t := ⟨X - m * B, by omega⟩
  have hX : X = B * m + t := by rw [Nat.mul_comm]; omega
  have h1 : X / B = m := by rw [hX, Nat.mul_add_div hB, Nat.div_eq_of_lt (by omega)]; omega
  have h2 : X % B = t := by rw [hX, Nat.mul_add_mod, Nat.mod_eq_of_lt (by omega)]
  exact ⟨h1, by rw [h2]⟩
theorem twice_pow (A : Nat) : A * 2 ^ 53 = 2 * (A * 2 ^ 52) := by
  rw [show (53 : Nat) = 52 + 1 from rfl, Nat.pow_succ, ← Nat.mul_assoc, Nat.mul_comm]

theorem step_c {m B C A i : Nat} (h : 2 * (m * B) + C = A * 2 ^ i) (hC : B ≤ C) : 2 * ((2 * m + 1) * B) + 2 * (C - B) = A * 2 ^ (i + 1) := by
  rw [Nat.pow_succ, ← Nat.mul_assoc A, ← h, Nat.add_mul, Nat.one_mul, Nat.mul_assoc 2 m B]
  omega
theorem step_d {m B C A i : Nat} (h : 2 * (m * B) + C = A * 2 ^ i) : 2 * (2 * m * B) + 2 * C = A * 2 ^ (i + 1) := by
  rw [Nat.pow_succ, ← Nat.mul_assoc A, ← h, Nat.mul_assoc 2 m B]
  omega
theorem rpos_any (a b : Nat) (w : World) (ha : 0 < a) (hb : 0 < b) (ha5 : a ≤ 9007199254740992) (hb5 : b ≤ 9007199254740992) :
    Hid (Calls Try.prog 28 #[.int .i64 (a : Int), .int .i64 (b : Int)] w fun e w' => e = .returned (.int .u64 (pos a b : Nat)) ∧ w' = w) := by
  refine Lib.hid ?_
  obtain ⟨r, hr⟩ : ∃ r : Int, r = ((pos a b : Nat) : Int) := ⟨_, rfl⟩
  rw [← hr]
  have HR := Lib.hid hr
  clear hr
  go_enter Try.func28, Try.ntmps28
  go_wp2
  go_loop [1, 5] (fun x y => ∃ l B : Nat, x = .int .i64 (B : Int) ∧ y = .int .i64 (l : Int) ∧ Hid (B = b * 2 ^ l) ∧ 0 < B ∧ B ≤ 9007199254740992 ∧ l ≤ 53) (fun x _ => 18014398509481984 - (intOf x).toNat)
  case atStart => exact ⟨0, b, rfl, rfl, Lib.hid (by simp), hb, hb5, by omega⟩
  case round =>
    obtain ⟨l, B, rfl, rfl, HB, B0, B5, l5⟩ := hrel
    by_cases hc : 2 * B ≤ a
    · have HB2 : Hid (2 * B = b * 2 ^ (l + 1)) := Lib.hid (by rw [Nat.pow_succ, HB.out, Nat.mul_comm 2, Nat.mul_assoc])
      have l6 := exp_le hb HB2.out (by omega)
      go_wp2
      go_round
      case rel => exact ⟨l + 1, 2 * B, by go_num, by go_num, HB2, by omega, by omega, l6⟩
      case measure => simp [intOf]; omega
    · go_wp2
      go_loop [0, 5] (fun x y => ∃ k A : Nat, x = .int .i64 (A : Int) ∧ y = .int .i64 ((l : Int) - k) ∧ Hid (A = a * 2 ^ k) ∧ 0 < A ∧ A < 2 * B ∧ k ≤ 53) (fun x _ => 36028797018963968 - (intOf x).toNat)
      case atStart => exact ⟨0, a, rfl, by simp, Lib.hid (by simp), ha, by omega, by omega⟩
      case round =>
        obtain ⟨k, A, rfl, rfl, HA, A0, A5, k5⟩ := hrel
        by_cases hd : A < B
        · have HA2 : Hid (2 * A = a * 2 ^ (k + 1)) := Lib.hid (by rw [Nat.pow_succ, HA.out, Nat.mul_comm 2, Nat.mul_assoc])
          have k6 := exp_lt ha HA2.out (by omega)
          go_wp2
          go_round
          case rel => exact ⟨k + 1, 2 * A, by go_num, by go_num, HA2, by omega, by omega, k6⟩
          case measure => simp [intOf]; omega
        · have HN : Hid (Ns a b k l) := Lib.hid ⟨by rw [← HA.out, ← HB.out]; omega, by rw [← HA.out, ← HB.out]; exact A5⟩
          have HP : Hid (r = (((l : Int) - k + 1022).toNat : Int) * 4503599627370496 + (rhe (A * 2 ^ 52) B : Nat)) := Lib.hid (by
            rw [HR.out, pos_eq ha hb HN.out, ← HA.out, ← HB.out, Int.natCast_add, Int.natCast_mul]
            rfl)
          have RL : Hid (4503599627370496 ≤ rhe (A * 2 ^ 52) B) := Lib.hid (by
            have := HN.out.rhe_lo hb
            rw [← HA.out, ← HB.out] at this
            exact this)
          have RH : Hid (rhe (A * 2 ^ 52) B ≤ 9007199254740992) := Lib.hid (by
            have := HN.out.rhe_hi hb
            rw [← HA.out, ← HB.out] at this
            exact this)
          clear HR HN HA HB
          go_wp2
          go_loop [0, 6, 7] (fun x y z => ∃ i m C : Nat, x = .int .i64 (C : Int) ∧ y = .int .i64 (m : Int) ∧ z = .int .i64 (i : Int) ∧ Hid (2 * (m * B) + C = A * 2 ^ i) ∧ Hid (m < 2 ^ i) ∧ m ≤ 9007199254740992 ∧ C < 2 * B ∧ i ≤ 53) (fun _ _ z => 53 - (intOf z).toNat)
          case atStart => exact ⟨0, 0, A, rfl, rfl, rfl, Lib.hid (by simp), Lib.hid (by simp), by omega, A5, by omega⟩
          case round =>
            obtain ⟨i, m, C, rfl, rfl, rfl, HC, HM, m5, C5, i5⟩ := hrel
            by_cases hi : i < 53
            · have hm2 : m < 4503599627370496 := by
                have h1 := HM.out
                have h2 : (2 : Nat) ^ i ≤ 2 ^ 52 := Nat.pow_le_pow_right (by omega) (by omega)
                exact Nat.lt_of_lt_of_le h1 h2
              by_cases hg : B ≤ C
              · have HC2 : Hid (2 * ((2 * m + 1) * B) + 2 * (C - B) = A * 2 ^ (i + 1)) := Lib.hid (step_c HC.out hg)
                have HM2 : Hid (2 * m + 1 < 2 ^ (i + 1)) := Lib.hid (by have := HM.out; rw [Nat.pow_succ]; omega)
                go_wp2
                go_round
                case rel => exact ⟨i + 1, 2 * m + 1, 2 * (C - B), by go_num, by go_num, by go_num, HC2, HM2, by omega, by omega, by omega⟩
                case measure => simp [intOf]; omega
              · have HC2 : Hid (2 * (2 * m * B) + 2 * C = A * 2 ^ (i + 1)) := Lib.hid (step_d HC.out)
                have HM2 : Hid (2 * m < 2 ^ (i + 1)) := Lib.hid (by have := HM.out; rw [Nat.pow_succ]; omega)
                go_wp2
                go_round
                case rel => exact ⟨i + 1, 2 * m, 2 * C, by go_num, by go_num, by go_num, HC2, HM2, by omega, by omega, by omega⟩
                case measure => simp [intOf]; omega
            · have hi' : i = 53 := by omega
              subst hi'
              obtain ⟨d1, d2⟩ := long_div (HC.out.trans (twice_pow A)) C5
              have RE : rhe (A * 2 ^ 52) B = m + (if B < C ∨ (B = C ∧ m % 2 = 1) then 1 else 0) := by
                unfold rhe
                rw [d1, ← d2]
              clear HC HM d1 d2
              generalize rhe (A * 2 ^ 52) B = R at *
              have RL' := RL.out
              have RH' := RH.out
              have up : (B < C ∨ (B = C ∧ m % 2 = 1)) → R = m + 1 := fun h => by rw [RE, if_pos h]
              have dn : ¬ (B < C ∨ (B = C ∧ m % 2 = 1)) → R = m := fun h => by rw [RE, if_neg h]; omega
              have HP' : r = ((((l : Int) - k + 1022).toNat : Int) * 4503599627370496) + (R : Int) := HP.out
              have hE : (((l : Int) - k + 1022).toNat : Int) = (l : Int) - k + 1022 := by omega
              rw [hE] at HP'
              have HPP := Lib.hid HP'
              clear RE RL RH HP HP' hE
              by_cases h1 : B < C
              · have e1 := up (Or.inl h1)
                clear up dn
                go_wp2
                all_goals first | (exfalso; omega) | (go_ret; exact ⟨ret_int (by have := HPP.out; rename_i q1 q2; simp only [beq_iff_eq, beq_eq_false_iff_ne, ne_eq] at q1; first | omega | (simp only [IntKind.wrap_u64]; omega)), rfl⟩)
              · by_cases h2 : B = C
                · by_cases h3 : m % 2 = 1
                  · have e1 := up (Or.inr ⟨h2, h3⟩)
                    clear up dn
                    subst h2
                    go_wp2
                    all_goals first | (exfalso; omega) | (go_ret; exact ⟨ret_int (by have := HPP.out; rename_i q1 q2; simp only [beq_iff_eq, beq_eq_false_iff_ne, ne_eq] at q1; first | omega | (simp only [IntKind.wrap_u64]; omega)), rfl⟩)
                  · have e1 := dn (fun h => by omega)
                    clear up dn
                    subst h2
                    go_wp2
                    all_goals first | (exfalso; omega) | (go_ret; exact ⟨ret_int (by have := HPP.out; rename_i q1 q2; simp only [beq_iff_eq, beq_eq_false_iff_ne, ne_eq] at q1; first | omega | (simp only [IntKind.wrap_u64]; omega)), rfl⟩)
                · have e1 := dn (fun h => by omega)
                  clear up dn
                  go_wp2
                  all_goals first | (exfalso; omega) | (go_ret; exact ⟨ret_int (by have := HPP.out; rename_i q1 q2; simp only [beq_iff_eq, beq_eq_false_iff_ne, ne_eq] at q1; first | omega | (simp only [IntKind.wrap_u64]; omega)), rfl⟩)
end Go.Proofs.Ytjcmlelfmnonkaa
