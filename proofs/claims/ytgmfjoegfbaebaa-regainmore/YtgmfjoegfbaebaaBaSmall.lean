/-
  The walks of the small functions: who is a replica, which ballot is above which, the first one, which may be (the program's and the document's), how two compare (the document's), the next one (both). No conditions.
-/
import Derived.Test.YtgmfjoegfbaebaaBaMem
namespace Go.Proofs.Ytgmfjoegfbaebaa.Ba
open Go.RowKit
attribute [local go_sem ↓ high] eq23 guard23 neq23 guard23n

theorem two_below (w : World) (x y u v : Int) : Below w.heap.size w ((w.alloc (.cells #[.int .i64 x, .int .i64 y] 40)).alloc (.cells #[.int .i64 u, .int .i64 v] 40)) := ((Below.refl _ _).alloc (Nat.le_refl _) _).alloc (by simp) _

theorem ab_any (x y u v : Int) (w : World) : Calls Try.prog 47 #[.agg #[.int .i64 x, .int .i64 y], .agg #[.int .i64 u, .int .i64 v]] w (BoolPost w (ab x y u v)) := by
  by_cases h1 : x = u
  · subst h1
    have H : Hid (ab x y x v = decide (v < y)) := by
      show _ = _
      rw [Bool.eq_iff_iff, ab_iff, decide_eq_true_iff]; omega
    generalize ab x y x v = r at *
    go_enter Try.func47, Try.ntmps47
    go_wp2
    go_ret
    exact ⟨by rw [H.out]; rfl, two_below ..⟩
  · have H : Hid (ab x y u v = decide (u < x)) := by
      show _ = _
      rw [Bool.eq_iff_iff, ab_iff, decide_eq_true_iff]; omega
    have hne : (x == u) = false := by rw [beq_eq_false_iff_ne]; exact h1
    generalize ab x y u v = r at *
    go_enter Try.func47, Try.ntmps47
    go_wp2
    go_ret
    exact ⟨by rw [H.out]; rfl, two_below ..⟩

theorem run_res17 {V : World} {tm : Array Value} {B : Nat} {x y : Int} (h2 : tm[2]?.getD undef = .pointer (some ⟨B, 0, none⟩)) (hb : Bb V B x y) :
    (results Try.f45 tm).run Try.prog V = .ok (.agg #[.int .i64 x, .int .i64 y]) V := by
  obtain ⟨c0, c1⟩ := hb
  simp [results, Try.results45, h2, go_sem, c0, c1]

theorem one_below (w : World) (x y : Int) : Below w.heap.size w (w.alloc (.cells #[.int .i64 x, .int .i64 y] 40)) := (Below.refl _ _).alloc (Nat.le_refl _) _

theorem first_any (y : Int) (w : World) : Calls Try.prog 45 #[.int .i64 y] w (BalPost w 0 y) := by
  go_enter Try.func45, Try.ntmps45
  go_wp2
  exact bodyPost_ret (run_res17 (B := w.heap.size) rfl (bx_new w 0 y).bb) rfl ⟨rfl, one_below ..⟩

theorem not_none {x y : Int} (h : ¬ (x = 0 ∧ y = 0)) : ((x == 0) && (y == 0)) = false := by
  rw [Bool.and_eq_false_iff, beq_eq_false_iff_ne, beq_eq_false_iff_ne]; omega

theorem not_same {x y u v : Int} (h : ¬ (x = u ∧ y = v)) : ((x == u) && (y == v)) = false := by
  rw [Bool.and_eq_false_iff, beq_eq_false_iff_ne, beq_eq_false_iff_ne]; omega

theorem rcmp_any (x y u v : Int) (w : World) : Calls Try.prog 27 #[.agg #[.int .i64 x, .int .i64 y], .agg #[.int .i64 u, .int .i64 v]] w (IntPost w (cm x y u v)) := by
  by_cases h1 : x < u
  · have H := Lib.hid (cm_less.2 (.inl h1 : x < u ∨ (x = u ∧ y < v)))
    go_enter Try.func27, Try.ntmps27
    go_wp2
    go_ret
    exact ⟨by rw [H.out]; rfl, two_below ..⟩
  by_cases h2 : x = u
  · subst h2
    by_cases h3 : y < v
    · have H := Lib.hid (cm_less.2 (.inr ⟨rfl, h3⟩ : x < x ∨ (x = x ∧ y < v)))
      go_enter Try.func27, Try.ntmps27
      go_wp2
      go_ret
      exact ⟨by rw [H.out]; rfl, two_below ..⟩
    · by_cases h4 : y = v
      · subst h4
        have H := Lib.hid (cm_eq x y)
        go_enter Try.func27, Try.ntmps27
        go_wp2
        go_ret
        exact ⟨by rw [H.out]; rfl, two_below ..⟩
      · have H := Lib.hid (cm_one.2 (.inr ⟨rfl, by omega⟩ : x < x ∨ (x = x ∧ v < y)))
        have hy : (y == v) = false := by rw [beq_eq_false_iff_ne]; exact h4
        go_enter Try.func27, Try.ntmps27
        go_wp2
        go_ret
        exact ⟨by rw [H.out]; rfl, two_below ..⟩
  · have H := Lib.hid (cm_one.2 (.inl (by omega) : u < x ∨ (x = u ∧ v < y)))
    have hx : (x == u) = false := by rw [beq_eq_false_iff_ne]; exact h2
    go_enter Try.func27, Try.ntmps27
    go_wp2
    go_ret
    exact ⟨by rw [H.out]; rfl, two_below ..⟩

theorem nx_none {x z : Int} (h : ¬ (1 ≤ z ∧ z ≤ 7 ∧ 0 ≤ x ∧ x < 1073741824)) : nn x z = 0 ∧ ny x z = 0 ∧ nb x z = false := by
  have : nb x z = false := by rw [← Bool.not_eq_true, nb_iff]; exact h
  simp [nn, ny, this]
theorem nx_some {x z : Int} (h : 1 ≤ z ∧ z ≤ 7 ∧ 0 ≤ x ∧ x < 1073741824) : nn x z = x + 1 ∧ ny x z = z ∧ nb x z = true := by
  have : nb x z = true := nb_iff.2 h
  simp [nn, ny, this]

end Go.Proofs.Ytgmfjoegfbaebaa.Ba
