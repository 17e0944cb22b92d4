/-
  The walks of the small functions: the dep of a replica (the program's and the document's), Few, May (both), longest. Conditions: of longest, at most 1000 attributes.
-/
import Derived.Test.YtgmfjoegfbaebaaAtMem
namespace Go.Proofs.Ytgmfjoegfbaebaa.At
open Go.RowKit

theorem of_any (A : Option Addr) (c B : Nat) (xs : List Int) (k : Int) (w : World) (hs : Sl w B .i64 A xs) (hk : k ≤ 9223372036854775807) : Calls Try.prog 49 #[.slice A xs.length c, .int .i64 k] w fun e w' => e = .returned (.int .i64 (dp xs k)) ∧ w = w' := by
  by_cases h1 : k < 1
  · rw [dp_out (.inl h1)]
    go_enter Try.func49, Try.ntmps49
    go_wp2
    go_ret
    exact ⟨rfl, rfl⟩
  · by_cases h2 : (xs.length : Int) < k
    · rw [dp_out (.inr h2)]
      go_enter Try.func49, Try.ntmps49
      go_wp2
      go_ret
      exact ⟨rfl, rfl⟩
    · obtain ⟨i, rfl⟩ : ∃ i : Nat, k = (i : Int) + 1 := ⟨(k - 1).toNat, by omega⟩
      rw [dp_at]
      obtain ⟨b, off, rfl, hb, hc⟩ := hs.at_ (j := i) (by omega)
      have hi : (i : Int) + 1 - 1 = (i : Int) := by omega
      have hi' : i < xs.length := by omega
      generalize xs.getD i 0 = x at *
      go_enter Try.func49, Try.ntmps49
      go_wp2
      go_ret
      exact ⟨rfl, rfl⟩

theorem dep_any (a : Int) (A : Option Addr) (c B : Nat) (xs : List Int) (k : Int) (w : World) (hB : B ≤ w.heap.size) (hs : Sl w B .i64 A xs) (hk : k ≤ 9223372036854775807) : Calls Try.prog 39 #[.agg #[.int .i64 a, .slice A xs.length c], .int .i64 k] w (IntPost w (dp xs k)) := by
  by_cases h1 : k < 1
  · rw [dp_out (.inl h1)]
    go_enter Try.func39, Try.ntmps39
    go_wp2
    go_ret
    exact ⟨rfl, (Below.refl _ _).alloc (Nat.le_refl _) _⟩
  · by_cases h2 : (xs.length : Int) < k
    · rw [dp_out (.inr h2)]
      go_enter Try.func39, Try.ntmps39
      go_wp2
      go_ret
      exact ⟨rfl, (Below.refl _ _).alloc (Nat.le_refl _) _⟩
    · obtain ⟨i, rfl⟩ : ∃ i : Nat, k = (i : Int) + 1 := ⟨(k - 1).toNat, by omega⟩
      rw [dp_at]
      obtain ⟨b, off, rfl, hb, hc⟩ := hs.at_ (j := i) (by omega)
      have hi : (i : Int) + 1 - 1 = (i : Int) := by omega
      have hi' : i < xs.length := by omega
      have hb' : b < w.heap.size := by omega
      generalize xs.getD i 0 = x at *
      go_enter Try.func39, Try.ntmps39
      go_wp2
      go_ret
      exact ⟨rfl, (Below.refl _ _).alloc (Nat.le_refl _) _⟩

set_option maxHeartbeats 400000 in
theorem long_any (A : Option Addr) (c : Nat) (l : List (Int × List Int)) (w : World) (hl : l.length ≤ 1000) (hs : Rc w w.heap.size A l) : Calls Try.prog 50 #[.slice A l.length c] w (IntPost w (lg l)) := by
  go_enter Try.func50, Try.ntmps50
  go_wp2
  go_loopw [3, 8] (fun n i wr => ∃ k : Nat, k ≤ l.length ∧ n = .int .i64 (lg (l.take k) : Int) ∧ i = .int .i64 (k : Int) ∧ Below w.heap.size w wr) (fun _ i _ => l.length - (intOf i).toNat)
  case atStart => exact ⟨0, by omega, rfl, rfl, Below.refl _ _⟩
  case round =>
    obtain ⟨k, hk, rfl, rfl, hbel⟩ := hrel
    have hsz := hbel.size
    by_cases hlt : k < l.length
    · obtain ⟨b, off, A', c', rfl, hb, x0, x1, _⟩ := (hs.below hbel).at_ hlt
      have HL := Lib.hid (lg_take l k hlt)
      have hki : (k : Int) < (l.length : Int) := by omega
      generalize l[k] = r at *
      obtain ⟨a, xs⟩ := r
      simp only at x0 x1 HL
      generalize lg (l.take k) = m at *
      go_wp2
      go_roundw
      case rel => exact ⟨k + 1, by omega, by rw [HL.out]; congr 1; omega, by go_num, hbel.alloc hsz _⟩
      case measure => simp [intOf]; omega
    · obtain rfl : k = l.length := by omega
      rw [List.take_length]
      go_wp2
      go_ret
      exact ⟨rfl, hbel⟩

end Go.Proofs.Ytgmfjoegfbaebaa.At
