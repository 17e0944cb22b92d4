/-
  The walks of the small functions: the dep of a replica (the program's and the document's), Few, May (both), longest. Conditions: of longest, at most 1000 attributes.
-/
import Derived.Test.YtdeaaeejkpghaaaDoorAtMem
namespace Go.Proofs.YtdeaaeejkpghaaaDoor.At
open Go.RowKit

theorem of_any (A : Option Addr) (c B : Nat) (xs : List Int) (k : Int) (w : World) (hs : Sl w B .i64 A xs) (hk : k ≤ 9223372036854775807) : Calls Tryd.prog 51 #[.slice A xs.length c, .int .i64 k] w fun e w' => e = .returned (.int .i64 (dp xs k)) ∧ w = w' := by
  by_cases h1 : k < 1
  · rw [dp_out (.inl h1)]
    go_enter Tryd.func51, Tryd.ntmps51
    go_wp2
    go_ret
    exact ⟨rfl, rfl⟩
  · by_cases h2 : (xs.length : Int) < k
    · rw [dp_out (.inr h2)]
      go_enter Tryd.func51, Tryd.ntmps51
      go_wp2
      go_ret
      exact ⟨rfl, rfl⟩
    · obtain ⟨i, rfl⟩ : ∃ i : Nat, k = (i : Int) + 1 := ⟨(k - 1).toNat, by omega⟩
      rw [dp_at]
      obtain ⟨b, off, rfl, hb, hc⟩ := hs.at_ (j := i) (by omega)
      have hi : (i : Int) + 1 - 1 = (i : Int) := by omega
      have hi' : i < xs.length := by omega
      generalize xs.getD i 0 = x at *
      go_enter Tryd.func51, Tryd.ntmps51
      go_wp2
      go_ret
      exact ⟨rfl, rfl⟩

theorem dep_any (a : Int) (A : Option Addr) (c B : Nat) (xs : List Int) (k : Int) (w : World) (hB : B ≤ w.heap.size) (hs : Sl w B .i64 A xs) (hk : k ≤ 9223372036854775807) : Calls Tryd.prog 49 #[.agg #[.int .i64 a, .slice A xs.length c], .int .i64 k] w (IntPost w (dp xs k)) := by
  by_cases h1 : k < 1
  · rw [dp_out (.inl h1)]
    go_enter Tryd.func49, Tryd.ntmps49
    go_wp2
    go_ret
    exact ⟨rfl, (Below.refl _ _).alloc (Nat.le_refl _) _⟩
  · by_cases h2 : (xs.length : Int) < k
    · rw [dp_out (.inr h2)]
      go_enter Tryd.func49, Tryd.ntmps49
      go_wp2
      go_ret
      exact ⟨rfl, (Below.refl _ _).alloc (Nat.le_refl _) _⟩
    · obtain ⟨i, rfl⟩ : ∃ i : Nat, k = (i : Int) + 1 := ⟨(k - 1).toNat, by omega⟩
      rw [dp_at]
      obtain ⟨b, off, rfl, hb, hc⟩ := hs.at_ (j := i) (by omega)
      have hi : (i : Int) + 1 - 1 = (i : Int) := by omega
      have hi' : i < xs.length := by omega
      have hb' : b < w.heap.size := by omega
      generalize xs.getD i 0 = x at *
      go_enter Tryd.func49, Tryd.ntmps49
      go_wp2
      go_ret
      exact ⟨rfl, (Below.refl _ _).alloc (Nat.le_refl _) _⟩

theorem few_any (a : Int) (A : Option Addr) (n c : Nat) (w : World) : Calls Tryd.prog 7 #[.agg #[.int .i64 a, .slice A n c]] w (BoolPost w (decide ((n : Int) ≤ 50))) := by
  go_enter Tryd.func7, Tryd.ntmps7
  go_wp2
  go_ret
  exact ⟨rfl, (Below.refl _ _).alloc (Nat.le_refl _) _⟩

theorem may_any (a : Int) (A : Option Addr) (c : Nat) (xs : List Int) (n : Int) (w : World) (hs : Sl w w.heap.size .i64 A xs) : Calls Tryd.prog 28 #[.agg #[.int .i64 a, .slice A xs.length c], .int .i64 n] w (BoolPost w (my a xs n)) := by
  by_cases h1 : n < 1
  · rw [my_no (.inl h1)]
    go_enter Tryd.func28, Tryd.ntmps28
    go_wp2
    go_ret
    exact ⟨rfl, (Below.refl _ _).alloc (Nat.le_refl _) _⟩
  by_cases h2 : 7 < n
  · rw [my_no (.inr (.inl h2))]
    go_enter Tryd.func28, Tryd.ntmps28
    go_wp2
    go_ret
    exact ⟨rfl, (Below.refl _ _).alloc (Nat.le_refl _) _⟩
  by_cases h3 : (xs.length : Int) = n
  · have HM : Hid (∀ h : ∀ i, i < xs.length → 0 ≤ xs.getD i 0 ∧ xs.getD i 0 ≤ 1048576, my a xs n = (decide (0 ≤ a) && decide (a ≤ 1073741824))) := fun h => by
      by_cases ha : a < 0
      · rw [my_no (.inr (.inr (.inr (.inl ha)))), decide_eq_false (by omega)]; rfl
      · by_cases hb : 1073741824 < a
        · rw [my_no (.inr (.inr (.inr (.inr hb)))), decide_eq_false (p := a ≤ 1073741824) (by omega)]; simp
        · rw [my_yes (by omega) (by omega) h3 h (by omega) (by omega), decide_eq_true (by omega), decide_eq_true (by omega)]; rfl
    have HN : Hid (∀ i, i < xs.length → (xs.getD i 0 < 0 ∨ 1048576 < xs.getD i 0) → my a xs n = false) := fun i hi h => my_not hi h
    have h7 : xs.length ≤ 7 := by omega
    have hne : ((xs.length : Int) == n) = true := by rw [beq_iff_eq]; exact h3
    subst h3
    generalize hr : my a xs (xs.length : Int) = r at *
    clear hr
    go_enter Tryd.func28, Tryd.ntmps28
    go_wp2
    have BW : Below w.heap.size w (w.alloc (.cells #[.int .i64 a, .slice A xs.length c] 28)) := (Below.refl _ _).alloc (Nat.le_refl _) _
    have S0 := hs.below BW
    have RB := rb_new w a A xs.length c
    go_loopw [23] (fun i wr => ∃ k : Nat, k ≤ xs.length ∧ i = .int .i64 (k : Int) ∧ wr = w.alloc (.cells #[.int .i64 a, .slice A xs.length c] 28) ∧ ∀ i, i < k → 0 ≤ xs.getD i 0 ∧ xs.getD i 0 ≤ 1048576) (fun i _ => xs.length - (intOf i).toNat)
    case atStart => exact ⟨0, by omega, rfl, rfl, fun i hi => by omega⟩
    case round =>
      obtain ⟨k, hk, rfl, rfl, hall⟩ := hrel
      have HA := Lib.hid hall
      clear hall
      by_cases hlt : k < xs.length
      · obtain ⟨b, off, rfl, hb, hcell⟩ := S0.at_ hlt
        have HNk := Lib.hid (HN.out k hlt)
        have HX : Hid (∀ x, xs.getD k 0 = x → ¬ x < 0 → ¬ 1048576 < x → ∀ i, i < k + 1 → 0 ≤ xs.getD i 0 ∧ xs.getD i 0 ≤ 1048576) := fun x hx q1 q2 i hi => by
          rcases Nat.lt_or_ge i k with h | h
          · exact HA.out i h
          · obtain rfl : i = k := by omega
            rw [hx]; omega
        have HX' := Lib.hid (HX.out _ rfl)
        clear HX HN
        generalize xs.getD k 0 = x at *
        by_cases x1 : x < 0
        · go_wp2
          go_ret
          exact ⟨by rw [HNk.out (.inl x1)]; rfl, BW⟩
        · by_cases x2 : 1048576 < x
          · go_wp2
            go_ret
            exact ⟨by rw [HNk.out (.inr x2)]; rfl, BW⟩
          · go_wp2
            go_roundw
            case rel => exact ⟨k + 1, by omega, by go_num, trivial, HX'.out (by omega) (by omega)⟩
            case measure => simp [intOf]; omega
      · obtain rfl : k = xs.length := by omega
        have HM' := Lib.hid (HM.out HA.out)
        clear HM HA HN
        by_cases a1 : 0 ≤ a
        · go_wp2
          go_ret
          exact ⟨by rw [HM'.out, decide_eq_true (p := 0 ≤ a) (by omega)]; rfl, BW⟩
        · go_wp2
          go_ret
          exact ⟨by rw [HM'.out, decide_eq_false (p := 0 ≤ a) (by omega)]; rfl, BW⟩
  · rw [my_no (.inr (.inr (.inl h3)))]
    have hne : ((xs.length : Int) == n) = false := by rw [beq_eq_false_iff_ne]; exact h3
    go_enter Tryd.func28, Tryd.ntmps28
    go_wp2
    go_ret
    exact ⟨rfl, (Below.refl _ _).alloc (Nat.le_refl _) _⟩

set_option maxHeartbeats 400000 in
theorem rmay_any (a : Int) (A : Option Addr) (c : Nat) (xs : List Int) (n : Int) (w : World) (hs : Sl w w.heap.size .i64 A xs) : Calls Tryd.prog 32 #[.agg #[.int .i64 a, .slice A xs.length c], .int .i64 n] w (BoolPost w (my a xs n)) := by
  have BN : Below w.heap.size w (w.alloc (.cells #[.int .i64 a, .slice A xs.length c] 28)) := (Below.refl _ _).alloc (Nat.le_refl _) _
  by_cases h1 : n < 1
  · rw [my_no (.inl h1)]
    go_enter Tryd.func32, Tryd.ntmps32
    go_wp2
    go_ret
    exact ⟨rfl, BN⟩
  by_cases h2 : 7 < n
  · rw [my_no (.inr (.inl h2))]
    go_enter Tryd.func32, Tryd.ntmps32
    go_wp2
    go_ret
    exact ⟨rfl, BN⟩
  by_cases h3 : (xs.length : Int) = n
  · have hne : ((xs.length : Int) == n) = true := by rw [beq_iff_eq]; exact h3
    by_cases ha : a < 0
    · rw [my_no (.inr (.inr (.inr (.inl ha))))]
      subst h3
      go_enter Tryd.func32, Tryd.ntmps32
      go_wp2
      go_ret
      exact ⟨rfl, BN⟩
    by_cases hb : 1073741824 < a
    · rw [my_no (.inr (.inr (.inr (.inr hb))))]
      subst h3
      go_enter Tryd.func32, Tryd.ntmps32
      go_wp2
      go_ret
      exact ⟨rfl, BN⟩
    have HM : Hid (∀ h : ∀ i, i < xs.length → 0 ≤ xs.getD i 0 ∧ xs.getD i 0 ≤ 1048576, my a xs n = true) := fun h => my_yes (by omega) (by omega) h3 h (by omega) (by omega)
    have HN : Hid (∀ i, i < xs.length → (xs.getD i 0 < 0 ∨ 1048576 < xs.getD i 0) → my a xs n = false) := fun i hi h => my_not hi h
    have h7 : xs.length ≤ 7 := by omega
    subst h3
    generalize hr : my a xs (xs.length : Int) = r at *
    clear hr
    go_enter Tryd.func32, Tryd.ntmps32
    go_wp2
    have S0 := hs.below BN
    have RB := rb_new w a A xs.length c
    go_loopw [5] (fun i wr => ∃ k : Nat, k ≤ xs.length ∧ i = .int .i64 (k : Int) ∧ wr = w.alloc (.cells #[.int .i64 a, .slice A xs.length c] 28) ∧ ∀ i, i < k → 0 ≤ xs.getD i 0 ∧ xs.getD i 0 ≤ 1048576) (fun i _ => xs.length - (intOf i).toNat)
    case atStart => exact ⟨0, by omega, rfl, rfl, fun i hi => by omega⟩
    case round =>
      obtain ⟨k, hk, rfl, rfl, hall⟩ := hrel
      have HA := Lib.hid hall
      clear hall
      by_cases hlt : k < xs.length
      · obtain ⟨b, off, rfl, hb, hcell⟩ := S0.at_ hlt
        have HNk := Lib.hid (HN.out k hlt)
        have HX : Hid (∀ x, xs.getD k 0 = x → ¬ x < 0 → ¬ 1048576 < x → ∀ i, i < k + 1 → 0 ≤ xs.getD i 0 ∧ xs.getD i 0 ≤ 1048576) := fun x hx q1 q2 i hi => by
          rcases Nat.lt_or_ge i k with h | h
          · exact HA.out i h
          · obtain rfl : i = k := by omega
            rw [hx]; omega
        have HX' := Lib.hid (HX.out _ rfl)
        clear HX HN
        generalize xs.getD k 0 = x at *
        by_cases x1 : x < 0
        · go_wp2
          go_ret
          exact ⟨by rw [HNk.out (.inl x1)]; rfl, BN⟩
        · by_cases x2 : 1048576 < x
          · go_wp2
            go_ret
            exact ⟨by rw [HNk.out (.inr x2)]; rfl, BN⟩
          · go_wp2
            go_roundw
            case rel => exact ⟨k + 1, by omega, by go_num, trivial, HX'.out (by omega) (by omega)⟩
            case measure => simp [intOf]; omega
      · obtain rfl : k = xs.length := by omega
        have HM' := Lib.hid (HM.out HA.out)
        clear HM HA HN
        go_wp2
        go_ret
        exact ⟨by rw [HM'.out]; rfl, BN⟩
  · rw [my_no (.inr (.inr (.inl h3)))]
    have hne : ((xs.length : Int) == n) = false := by rw [beq_eq_false_iff_ne]; exact h3
    go_enter Tryd.func32, Tryd.ntmps32
    go_wp2
    go_ret
    exact ⟨rfl, BN⟩

set_option maxHeartbeats 400000 in
theorem long_any (A : Option Addr) (c : Nat) (l : List (Int × List Int)) (w : World) (hl : l.length ≤ 1000) (hs : Rc w w.heap.size A l) : Calls Tryd.prog 52 #[.slice A l.length c] w (IntPost w (lg l)) := by
  go_enter Tryd.func52, Tryd.ntmps52
  go_wp2
  go_loopw [3, 8] (fun n i wr => ∃ k : Nat, k ≤ l.length ∧ n = .int .i64 (lg (l.take k) : Int) ∧ i = .int .i64 (k : Int) ∧ Below w.heap.size w wr) (fun _ i _ => l.length - (intOf i).toNat)
  case atStart => exact ⟨0, by omega, rfl, rfl, Below.refl _ _⟩
  case round =>
    obtain ⟨k, hk, rfl, rfl, hbel⟩ := hrel
    have hsz := hbel.size
    by_cases hlt : k < l.length
    · obtain ⟨b, off, A', c', rfl, hb, x0, x1, _⟩ := (hs.below hbel).at_ hlt
      have HL := Lib.hid (lg_take l k hlt)
      have hki : (k : Int) < (l.length : Int) := by omega
      generalize l[k] = r at *
      obtain ⟨a, xs⟩ := r
      simp only at x0 x1 HL
      generalize lg (l.take k) = m at *
      go_wp2
      go_roundw
      case rel => exact ⟨k + 1, by omega, by rw [HL.out]; congr 1; omega, by go_num, hbel.alloc hsz _⟩
      case measure => simp [intOf]; omega
    · obtain rfl : k = l.length := by omega
      rw [List.take_length]
      go_wp2
      go_ret
      exact ⟨rfl, hbel⟩

end Go.Proofs.YtdeaaeejkpghaaaDoor.At
