/-
  The walks of the small functions: fits, isUser, the document's user and has, cmp.Less, the library's binary search, areMembers, has. Conditions: of lists, at most 1000 members; of the search, that they rise.
-/
import Derived.Test.YtpelopfbdfnmeaaMem
import Derived.Deep.LoopGhost
import Derived.Deep.Draws
namespace Go.Proofs.Ytpelopfbdfnmeaa
open Go.RowKit

theorem fits_any (n m : Int) (w : World) : Calls Try.prog 26 #[.int .i64 n, .int .i64 m] w fun e w' => e = .returned (.bool (fit n m)) ∧ w = w' := by
  by_cases h1 : n < 1
  · rw [fit_low h1]
    have h1' : ¬ 1 ≤ n := by omega
    go_enter Try.func26, Try.ntmps26
    go_wp2
    go_ret
    exact ⟨rfl, rfl⟩
  · have h1' : 1 ≤ n := by omega
    by_cases h2 : n ≤ m
    · rw [fit_yes h1' h2]
      go_enter Try.func26, Try.ntmps26
      go_wp2
      go_ret
      exact ⟨rfl, rfl⟩
    · rw [fit_high (by omega)]
      go_enter Try.func26, Try.ntmps26
      go_wp2
      go_ret
      exact ⟨rfl, rfl⟩

theorem isuser_any (n : Int) (w : World) : Calls Try.prog 20 #[.int .i64 n] w fun e w' => e = .returned (.bool (usr n)) ∧ w = w' := by
  have HF : ∀ W, Hid (Calls Try.prog 26 #[.int .i64 n, .int .i64 1048576] W fun e w' => e = .returned (.bool (usr n)) ∧ W = w') := fun W => fits_any n 1048576 W
  generalize usr n = b at *
  go_enter Try.func20, Try.ntmps20
  go_wp2_with (refine (HF _).out.mono ?_; rintro e w' ⟨rfl, rfl⟩)
  go_ret
  exact ⟨rfl, rfl⟩

theorem ruser_any (n : Int) (w : World) : Calls Try.prog 23 #[.int .i64 n] w fun e w' => e = .returned (.bool (usr n)) ∧ w = w' := by
  rw [usr_fit]
  by_cases h1 : n < 1
  · rw [fit_low h1]
    have h1' : ¬ 1 ≤ n := by omega
    go_enter Try.func23, Try.ntmps23
    go_wp2
    go_ret
    exact ⟨rfl, rfl⟩
  · have h1' : 1 ≤ n := by omega
    by_cases h2 : n ≤ 1048576
    · rw [fit_yes h1' h2]
      go_enter Try.func23, Try.ntmps23
      go_wp2
      go_ret
      exact ⟨rfl, rfl⟩
    · rw [fit_high (by omega)]
      go_enter Try.func23, Try.ntmps23
      go_wp2
      go_ret
      exact ⟨rfl, rfl⟩

theorem nan30 (x : Int) (w : World) : Calls Try.prog 30 #[.int .i64 x] w fun e w' => e = .returned (.bool false) ∧ w = w' := by
  go_enter Try.func30, Try.ntmps30
  go_wp2
  go_ret
  exact ⟨by simp, rfl⟩
theorem nan31 (x : Int) (w : World) : Calls Try.prog 31 #[.int .i64 x] w fun e w' => e = .returned (.bool false) ∧ w = w' := by
  go_enter Try.func31, Try.ntmps31
  go_wp2
  go_ret
  exact ⟨by simp, rfl⟩
theorem less_any (x y : Int) (w : World) : Calls Try.prog 29 #[.int .i64 x, .int .i64 y] w fun e w' => e = .returned (.bool (decide (x < y))) ∧ w = w' := by
  go_enter Try.func29, Try.ntmps29
  go_wp2_with (refine (nan31 _ _).mono ?_; rintro e w' ⟨rfl, rfl⟩)
  go_ret
  exact ⟨rfl, rfl⟩

set_option maxHeartbeats 1000000 in
/-- The library's binary search, of a list that rises. -/
theorem search_any (A : Option Addr) (c B : Nat) (l : List Int) (n : Int) (w : World) (hl : l.length ≤ 1000) (hr : rise l) (hs : Sl w B .i64 A l) :
    Calls Try.prog 21 #[.slice A l.length c, .int .i64 n] w fun e w' => e = .returned (.tuple #[.int .i64 (pos n l : Int), .bool (decide (n ∈ l))]) ∧ w = w' := by
  have HR := Lib.hid hr
  clear hr
  generalize hN : l.length = N
  have HN := Lib.hid hN
  rw [hN] at hl
  clear hN
  have HS : Hid (∀ k, k < N → ∃ b off, A = some ⟨b, off, none⟩ ∧ b < B ∧ w.cell? ⟨b, off + k, none⟩ = some (.int .i64 (l.getD k 0))) := fun k hk => hs.at_ (by rw [HN.out]; exact hk)
  clear hs
  go_enter Try.func21, Try.ntmps21
  go_wp2
  go_loopg [7, 8] N (fun g s7 s8 wr => ∃ lo hi : Nat, s7 = .int .i64 (lo : Int) ∧ s8 = .int .i64 (hi : Int) ∧ lo ≤ hi ∧ hi ≤ N ∧ hi - lo ≤ g ∧ wr = w ∧ Hid ((∀ t, t < lo → l.getD t 0 < n) ∧ (∀ t, hi ≤ t → t < N → n ≤ l.getD t 0)))
  case atStart => exact ⟨0, N, rfl, rfl, Nat.zero_le _, Nat.le_refl _, by omega, rfl, fun t ht => absurd ht (Nat.not_lt_zero _), fun t h1 h2 => by omega⟩
  case round =>
    obtain ⟨lo, hi, rfl, rfl, hlh, hin, hg, rfl, I⟩ := hrel
    by_cases hlt : lo < hi
    · obtain ⟨b, off, rfl, hb, cm⟩ := HS.out ((lo + hi) / 2) (by omega)
      have Y : Hid (∀ y, l.getD ((lo + hi) / 2) 0 = y → (y < n → ∀ t, t < (lo + hi) / 2 + 1 → l.getD t 0 < n) ∧ (¬ y < n → ∀ t, (lo + hi) / 2 ≤ t → t < N → n ≤ l.getD t 0)) := fun y hy => by
        refine ⟨fun h t ht => ?_, fun h t ht htn => ?_⟩
        · have := rise_le HR.out (i := t) (j := (lo + hi) / 2) (by omega) (by rw [HN.out]; omega)
          omega
        · have := rise_le HR.out (i := (lo + hi) / 2) (j := t) ht (by rw [HN.out]; omega)
          omega
      have Y2 := Lib.hid (Y.out _ rfl)
      clear Y
      generalize l.getD ((lo + hi) / 2) 0 = y at cm Y2
      by_cases hyx : y < n
      · go_wp2_with (refine (less_any _ _ _).mono ?_; rintro e w' ⟨rfl, rfl⟩)
        go_roundg (hi - ((lo + hi) / 2 + 1))
        case measure => omega
        case rel => exact ⟨(lo + hi) / 2 + 1, hi, by rw [show ((lo : Int) + (hi : Int)) / 2 + 1 = (((lo + hi) / 2 + 1 : Nat) : Int) by omega], rfl, by omega, hin, Nat.le_refl _, rfl, Y2.out.1 hyx, I.out.2⟩
      · go_wp2_with (refine (less_any _ _ _).mono ?_; rintro e w' ⟨rfl, rfl⟩)
        go_roundg ((lo + hi) / 2 - lo)
        case measure => omega
        case rel => exact ⟨lo, (lo + hi) / 2, rfl, by rw [show ((lo : Int) + (hi : Int)) / 2 = (((lo + hi) / 2 : Nat) : Int) by omega], by omega, by omega, Nat.le_refl _, rfl, I.out.1, Y2.out.2 hyx⟩
    · obtain rfl : hi = lo := by omega
      have E : Hid (hi = pos n l) := pos_get HR.out (by rw [HN.out]; exact hin) I.out.1 (fun i h1 h2 => I.out.2 i h1 (by rw [← HN.out]; exact h2))
      clear I
      by_cases hn : hi < N
      · obtain ⟨b, off, rfl, hb, cm⟩ := HS.out hi hn
        have D : Hid (∀ y, l.getD hi 0 = y → decide (n ∈ l) = (y == n)) := fun y hy => by
          rw [in_get HR.out (by rw [← E.out, HN.out]; exact hn), ← E.out, hy]
        have D2 := Lib.hid (D.out _ rfl)
        clear D
        generalize l.getD hi 0 = y at cm D2
        by_cases hyx : y = n
        · go_wp2_with (refine (nan30 _ _).mono ?_; rintro e w' ⟨rfl, rfl⟩)
          go_ret2
          refine ⟨?_, rfl⟩
          rw [D2.out, ← E.out]
          first | rfl | simp [*]
        · go_wp2_with (refine (nan30 _ _).mono ?_; rintro e w' ⟨rfl, rfl⟩)
          go_ret2
          refine ⟨?_, rfl⟩
          rw [D2.out, ← E.out]
          first | rfl | simp [*]
      · have D : Hid (decide (n ∈ l) = false) := in_out HR.out (by rw [← E.out, HN.out]; exact hn)
        go_wp2_with (refine (nan30 _ _).mono ?_; rintro e w' ⟨rfl, rfl⟩)
        go_ret2
        refine ⟨?_, rfl⟩
        rw [D.out, ← E.out]
        first | rfl | simp [*]

theorem has_any (A : Option Addr) (c B : Nat) (l : List Int) (n : Int) (w : World) (hl : l.length ≤ 1000) (hr : rise l) (hs : Sl w B .i64 A l) :
    Calls Try.prog 28 #[.slice A l.length c, .int .i64 n] w fun e w' => e = .returned (.bool (decide (n ∈ l))) ∧ w = w' := by
  have HS := Lib.hid (search_any A c B l n w hl hr hs)
  clear hs hr
  generalize decide (n ∈ l) = q at *
  generalize pos n l = p at *
  go_enter Try.func28, Try.ntmps28
  go_wp2_with (refine HS.out.mono ?_; rintro e w' ⟨rfl, rfl⟩)
  go_ret
  exact ⟨rfl, rfl⟩

theorem rhas_any (A : Option Addr) (c B : Nat) (l : List Int) (n : Int) (w : World) (hl : l.length ≤ 1000) (hs : Sl w B .i64 A l) :
    Calls Try.prog 24 #[.slice A l.length c, .int .i64 n] w fun e w' => e = .returned (.bool (decide (n ∈ l))) ∧ w = w' := by
  have HX : Hid ((∀ i, i < l.length → l.getD i 0 ≠ n) → decide (n ∈ l) = false) := has_none
  have HY : Hid (∀ k, k < l.length → l.getD k 0 = n → decide (n ∈ l) = true) := fun k => has_one
  generalize decide (n ∈ l) = q at *
  go_enter Try.func24, Try.ntmps24
  go_wp2
  go_loopw [5] (fun i wr => ∃ k : Nat, k ≤ l.length ∧ i = .int .i64 (k : Int) ∧ wr = w ∧ Hid (∀ i, i < k → l.getD i 0 ≠ n)) (fun i _ => l.length - (intOf i).toNat)
  case atStart => exact ⟨0, by omega, rfl, rfl, fun i hi => by omega⟩
  case round =>
    obtain ⟨k, hk, rfl, rfl, HA⟩ := hrel
    by_cases hlt : k < l.length
    · obtain ⟨b, off, rfl, hb, hcell⟩ := hs.at_ hlt
      have HN : Hid (∀ x, l.getD k 0 = x → x ≠ n → ∀ i, i < k + 1 → l.getD i 0 ≠ n) := fun x hx h => has_next HA.out (by rw [hx]; exact h)
      have HN2 := Lib.hid (HN.out _ rfl)
      have HY2 := Lib.hid (HY.out k hlt)
      clear HN HX HY
      generalize l.getD k 0 = x at *
      by_cases hx : x = n
      · have hq := HY2.out hx
        subst hx
        subst hq
        clear HN2 HY2
        go_wp2
        go_ret
        exact ⟨rfl, rfl⟩
      · go_wp2
        go_roundw
        case rel => exact ⟨k + 1, by omega, by go_num, trivial, HN2.out hx⟩
        case measure => simp [intOf]; omega
    · obtain rfl : k = l.length := by omega
      have HX2 := Lib.hid (HX.out HA.out)
      clear HX HY
      go_wp2
      go_ret
      exact ⟨by rw [HX2.out]; rfl, rfl⟩
end Go.Proofs.Ytpelopfbdfnmeaa
