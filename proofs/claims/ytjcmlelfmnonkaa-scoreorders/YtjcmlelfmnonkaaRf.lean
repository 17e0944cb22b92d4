/-
  The walk of the document's Floor: what it gives, as the plain theory has it. No conditions but that the argument is of its kind.
-/
import Derived.Test.YtjcmlelfmnonkaaRq
namespace Go.Proofs.Ytjcmlelfmnonkaa
open Go.RowKit Go.Proofs.Ytjcmlelfmnonkaa.Fl
set_option linter.unusedVariables false
set_option maxRecDepth 100000

theorem mod_step (m j : Nat) : m % 2 ^ (j + 1) = m % 2 ^ j + 2 ^ j * (m / 2 ^ j % 2) := by rw [Nat.pow_succ, Nat.mod_mul]
theorem div_step (m j : Nat) : m / 2 ^ (j + 1) = m / 2 ^ j / 2 := by rw [Nat.pow_succ, Nat.div_div_eq_div_mul]
theorem cut_step (m j : Nat) : decide (m % 2 ^ (j + 1) ≠ 0) = (decide (m % 2 ^ j ≠ 0) || decide (m / 2 ^ j % 2 = 1)) := by
  rw [mod_step]
  have hp := Nat.two_pow_pos j
  generalize 2 ^ j = p at *
  rcases (by omega : m / p % 2 = 0 ∨ m / p % 2 = 1) with h | h <;> rw [h]
  · simp
  · simp; omega

theorem rfloor_any (x : Nat) (hx : x < 18446744073709551616) (w : World) : Hid (Calls Try.prog 18 #[.int .u64 (x : Int)] w fun e w' => e = .returned (.tuple #[.int .i64 (fv x), .bool (fi x)]) ∧ w' = w) := by
  refine Lib.hid ?_
  have hm := mg_lt x
  have b1 := bits_mg hx
  have b2 := bits_fr (x := mg x) (by omega)
  have hs : sg x = decide ((9223372036854775808 : Int) ≤ (x : Int)) := by unfold sg; rw [decide_eq_decide]; omega
  by_cases hf : mg x < 4886405595696988160
  · have e2 : fi x = true := decide_eq_true hf
    obtain ⟨r, hr⟩ : ∃ r, r = fv x := ⟨_, rfl⟩
    have hr2 : r = flr x := by rw [hr]; unfold fv; rw [e2, if_pos rfl]
    rw [← hr, e2]
    clear hr e2
    obtain ⟨q, hq⟩ : ∃ q, q = mg x / 4503599627370496 := ⟨_, rfl⟩
    obtain ⟨f, hfr⟩ : ∃ f, f = mg x % 4503599627370496 := ⟨_, rfl⟩
    have hV : ((mg x : Nat) : Int) / 4503599627370496 = (q : Int) := by omega
    have q4 : q ≤ 1084 := by omega
    have f4 : f < 4503599627370496 := by omega
    rw [← hfr] at b2
    by_cases h1 : mg x < 4607182418800017408
    · -- below 1
      have q3 : q ≤ 1022 := by omega
      have hV2 : ((mg x : Nat) : Int) < 4886405595696988160 := by omega
      have hV0 : (0 : Int) ≤ ((mg x : Nat) : Int) := by omega
      have hr3 : r = if sg x = true ∧ 0 < ((mg x : Nat) : Int) then -1 else 0 := by
        rw [hr2]; unfold flr fM; rw [if_pos h1]
        by_cases k : mg x = 0
        · have k' : ¬ 0 < ((mg x : Nat) : Int) := by omega
          rw [if_neg (show ¬ (sg x = true ∧ 0 < ((mg x : Nat) : Int)) from fun h => k' h.2)]
          cases sg x <;> simp [k]
        · have k' : 0 < mg x := by omega
          cases sg x <;> simp [k, k']
      clear hr2 h1 hf hq hfr
      rw [hs] at hr3
      clear hs hm
      generalize ((mg x : Nat) : Int) = V at *
      generalize (x : Int) = X at *
      by_cases h2 : (9223372036854775808 : Int) ≤ X
      · rw [decide_eq_true h2] at hr3
        by_cases h3 : 0 < V
        · rw [if_pos ⟨rfl, h3⟩] at hr3
          go_enter Try.func18, Try.ntmps18
          go_wp2
          all_goals first | (exfalso; omega) | (go_ret2; exact ⟨by first | rfl | (rw [hr3]; rfl), rfl⟩)
        · rw [if_neg (fun h => h3 h.2)] at hr3
          go_enter Try.func18, Try.ntmps18
          go_wp2
          all_goals first | (exfalso; omega) | (go_ret2; exact ⟨by first | rfl | (rw [hr3]; rfl), rfl⟩)
      · rw [decide_eq_false h2, if_neg (fun h => by cases h.1)] at hr3
        go_enter Try.func18, Try.ntmps18
        go_wp2
        all_goals first | (exfalso; omega) | (go_ret2; exact ⟨by first | rfl | (rw [hr3]; rfl), rfl⟩)
    · have q3 : 1023 ≤ q := by omega
      have hV2 : ((mg x : Nat) : Int) < 4886405595696988160 := by omega
      have hV0 : (0 : Int) ≤ ((mg x : Nat) : Int) := by omega
      have hr3 : r = if sg x = true then -(if q ≤ 1075 then ((4503599627370496 + f) / 2 ^ (1075 - q) : Nat) + (if (4503599627370496 + f) % 2 ^ (1075 - q) ≠ 0 then 1 else 0) else ((4503599627370496 + f) * 2 ^ (q - 1075) : Nat) : Int)
          else if q ≤ 1075 then ((4503599627370496 + f) / 2 ^ (1075 - q) : Nat) else ((4503599627370496 + f) * 2 ^ (q - 1075) : Nat) := by
        rw [hr2]; unfold flr fM; rw [if_neg h1, ← hq, ← hfr]
        cases sg x
        · simp only [Bool.false_eq_true, if_false, false_and]
          by_cases k : q ≤ 1075
          · rw [if_pos k, if_pos k]; rfl
          · rw [if_neg k, if_neg k]
        · simp only [if_true, true_and]
          by_cases k : q ≤ 1075
          · rw [if_pos k, if_pos k]
            split <;> rfl
          · rw [if_neg k, if_neg k]
      have HR := Lib.hid hr3
      rw [hs] at HR
      clear hr3 hr2 h1 hf hq hfr hs hm
      generalize ((mg x : Nat) : Int) = V at *
      generalize (x : Int) = X at *
      obtain ⟨m, hm⟩ : ∃ m : Nat, m = 4503599627370496 + f := ⟨_, rfl⟩
      have m1 : 4503599627370496 ≤ m := by omega
      have m2 : m < 9007199254740992 := by omega
      rw [← hm] at HR
      have hm' : (f : Int) + 4503599627370496 = (m : Int) := by omega
      go_enter Try.func18, Try.ntmps18
      go_wp2
      go_loop [5, 6] (fun a b => ∃ j M : Nat, a = .int .i64 ((q : Int) - 1023 - j) ∧ b = .int .i64 (M : Int) ∧ Hid (M = m * 2 ^ j) ∧ M ≤ 4611686018427387904 ∧ (j = 0 ∨ j + 1075 ≤ q)) (fun a _ => (intOf a).toNat)
      case atStart => exact ⟨0, m, by go_num, by first | rfl | (congr 1; omega), Lib.hid (by simp), by omega, Or.inl rfl⟩
      case round =>
        obtain ⟨j, M, rfl, rfl, HM, M5, hj⟩ := hrel
        by_cases hc : j + 1075 < q
        · have HM2 : Hid (2 * M = m * 2 ^ (j + 1)) := Lib.hid (by rw [Nat.pow_succ, HM.out, Nat.mul_comm 2, Nat.mul_assoc])
          have M6 : 2 * M ≤ 4611686018427387904 := by
            rw [HM2.out]
            have h1 : 2 ^ (j + 1) ≤ 2 ^ 9 := Nat.pow_le_pow_right (by omega) (by omega)
            exact Nat.le_trans (Nat.mul_le_mul (show m ≤ 9007199254740992 by omega) h1) (by decide)
          go_wp2
          go_round
          case rel => exact ⟨j + 1, 2 * M, by go_num, by go_num, HM2, M6, Or.inr (by omega)⟩
          case measure => simp [intOf]; omega
        · have hj2 : q ≤ j + 1075 := by omega
          go_wp2
          go_loop [5, 6, 7] (fun a b c => ∃ i : Nat, a = .int .i64 ((q : Int) - 1023 - j + i) ∧ b = .int .i64 ((M / 2 ^ i : Nat) : Int) ∧ c = .bool (decide (M % 2 ^ i ≠ 0)) ∧ (i = 0 ∨ q + i ≤ j + 1075)) (fun a _ _ => 53 - (intOf a).toNat)
          case atStart => exact ⟨0, by go_num, by simp, by simp [Nat.mod_one], Or.inl rfl⟩
          case round =>
            obtain ⟨i, rfl, rfl, rfl, hi⟩ := hrel
            have L5 : M / 2 ^ i ≤ M := Nat.div_le_self _ _
            by_cases hd : q + i < j + 1075
            · have HC := Lib.hid (cut_step M i)
              have HD := Lib.hid (div_step M i)
              obtain ⟨c, hc0⟩ : ∃ c, c = decide (M % 2 ^ i ≠ 0) := ⟨_, rfl⟩
              obtain ⟨L, hL⟩ : ∃ L, L = M / 2 ^ i := ⟨_, rfl⟩
              rw [← hc0]
              rw [← hL] at L5 ⊢
              have HC' : Hid (decide (M % 2 ^ (i + 1) ≠ 0) = (c || decide (L % 2 = 1))) := Lib.hid (by rw [HC.out, ← hc0, ← hL])
              have HD' : Hid (M / 2 ^ (i + 1) = L / 2) := Lib.hid (by rw [HD.out, ← hL])
              clear HC HD hc0 hL
              have hme : ((L : Int) % 2 == 1) = decide (L % 2 = 1) := by
                by_cases k : L % 2 = 1
                · rw [decide_eq_true k, beq_iff_eq]; omega
                · rw [decide_eq_false k, beq_eq_false_iff_ne]; omega
              cases hcv : c
              · go_wp2
                all_goals
                  go_round
                  case rel => exact ⟨i + 1, by go_num, by rw [HD'.out]; go_num, by rw [HC'.out, hcv, Bool.false_or, ← hme], Or.inr (by omega)⟩
                  case measure => simp [intOf]; omega
              · go_wp2
                all_goals
                  go_round
                  case rel => exact ⟨i + 1, by go_num, by rw [HD'.out]; go_num, by rw [HC'.out, hcv]; rfl, Or.inr (by omega)⟩
                  case measure => simp [intOf]; omega
            · have HF : Hid (r = if decide (9223372036854775808 ≤ X) = true then -((M / 2 ^ i : Nat) + (if M % 2 ^ i ≠ 0 then 1 else 0) : Int) else (M / 2 ^ i : Nat)) := Lib.hid (by
                rw [HR.out]
                by_cases k : q ≤ 1075
                · have e1 : j = 0 := by omega
                  have e2 : 1075 - q = i := by omega
                  have e3 : M = m := by have := HM.out; rw [e1, Nat.pow_zero, Nat.mul_one] at this; exact this
                  rw [if_pos k, if_pos k, e2, e3]
                · have e1 : j = q - 1075 := by omega
                  have e2 : i = 0 := by omega
                  rw [if_neg k, if_neg k, e2, ← e1, ← HM.out, Nat.pow_zero, Nat.div_one, Nat.mod_one]
                  simp)
              clear HR HM
              obtain ⟨c, hc0⟩ : ∃ c, c = decide (M % 2 ^ i ≠ 0) := ⟨_, rfl⟩
              obtain ⟨L, hL⟩ : ∃ L, L = M / 2 ^ i := ⟨_, rfl⟩
              have HF' : Hid (r = if decide (9223372036854775808 ≤ X) = true then -((L : Int) + (if c = true then 1 else 0)) else (L : Int)) := Lib.hid (by rw [HF.out, hc0, ← hL]; simp only [decide_eq_true_eq])
              clear HF
              rw [← hc0, ← hL]
              rw [← hL] at L5
              clear hc0 hL
              by_cases h2 : (9223372036854775808 : Int) ≤ X
              · have HG := HF'.out
                rw [decide_eq_true h2, if_pos rfl] at HG
                cases hcv : c
                · have HH : Hid (r = -(L : Int)) := Lib.hid (by rw [HG, hcv, if_neg (by simp)]; omega)
                  clear HG HF'
                  go_wp2
                  go_ret2
                  exact ⟨by rw [HH.out]; rfl, rfl⟩
                · have HH : Hid (r = -(L : Int) - 1) := Lib.hid (by rw [HG, hcv, if_pos rfl]; omega)
                  clear HG HF'
                  go_wp2
                  go_ret2
                  exact ⟨by rw [HH.out]; rfl, rfl⟩
              · have HG := HF'.out
                rw [decide_eq_false h2, if_neg (by simp)] at HG
                have HH := Lib.hid HG
                clear HG HF'
                go_wp2
                go_ret2
                exact ⟨by rw [HH.out]; rfl, rfl⟩
  · have e2 : fi x = false := decide_eq_false hf
    have e1 : fv x = 0 := by unfold fv; rw [e2]; rfl
    rw [e1, e2]
    have hV2 : (4886405595696988160 : Int) ≤ ((mg x : Nat) : Int) := by omega
    clear hf hm e1 e2 hs
    generalize ((mg x : Nat) : Int) = V at *
    generalize (x : Int) = X at *
    go_enter Try.func18, Try.ntmps18
    go_wp2
    go_ret2
    exact ⟨rfl, rfl⟩
end Go.Proofs.Ytjcmlelfmnonkaa
