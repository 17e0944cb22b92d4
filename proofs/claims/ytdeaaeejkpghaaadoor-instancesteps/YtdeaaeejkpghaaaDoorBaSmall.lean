/-
  The walks of the small functions: who is a replica, which ballot is above which, the first one, which may be (the program's and the document's), how two compare (the document's), the next one (both). No conditions.
-/
import Derived.Test.YtdeaaeejkpghaaaDoorBaMem
namespace Go.Proofs.YtdeaaeejkpghaaaDoor.Ba
open Go.RowKit
attribute [local go_sem ↓ high] eq23 guard23 neq23 guard23n

theorem ir_any (y : Int) (w : World) : Calls Tryd.prog 40 #[.int .i64 y] w fun e w' => e = .returned (.bool (ir y)) ∧ w = w' := by
  by_cases h1 : 1 ≤ y
  · by_cases h2 : y ≤ 7
    · have H := Lib.hid (ir_iff.2 ⟨h1, h2⟩)
      go_enter Tryd.func40, Tryd.ntmps40
      go_wp2
      go_ret
      exact ⟨by rw [H.out]; rfl, rfl⟩
    · have H := Lib.hid ((ir_not (y := y)).2 (by omega))
      go_enter Tryd.func40, Tryd.ntmps40
      go_wp2
      go_ret
      exact ⟨by rw [H.out]; rfl, rfl⟩
  · have H := Lib.hid ((ir_not (y := y)).2 (by omega))
    go_enter Tryd.func40, Tryd.ntmps40
    go_wp2
    go_ret
    exact ⟨by rw [H.out]; rfl, rfl⟩

theorem two_below (w : World) (x y u v : Int) : Below w.heap.size w ((w.alloc (.cells #[.int .i64 x, .int .i64 y] 23)).alloc (.cells #[.int .i64 u, .int .i64 v] 23)) := ((Below.refl _ _).alloc (Nat.le_refl _) _).alloc (by simp) _

theorem ab_any (x y u v : Int) (w : World) : Calls Tryd.prog 50 #[.agg #[.int .i64 x, .int .i64 y], .agg #[.int .i64 u, .int .i64 v]] w (BoolPost w (ab x y u v)) := by
  by_cases h1 : x = u
  · subst h1
    have H : Hid (ab x y x v = decide (v < y)) := by
      show _ = _
      rw [Bool.eq_iff_iff, ab_iff, decide_eq_true_iff]; omega
    generalize ab x y x v = r at *
    go_enter Tryd.func50, Tryd.ntmps50
    go_wp2
    go_ret
    exact ⟨by rw [H.out]; rfl, two_below ..⟩
  · have H : Hid (ab x y u v = decide (u < x)) := by
      show _ = _
      rw [Bool.eq_iff_iff, ab_iff, decide_eq_true_iff]; omega
    have hne : (x == u) = false := by rw [beq_eq_false_iff_ne]; exact h1
    generalize ab x y u v = r at *
    go_enter Tryd.func50, Tryd.ntmps50
    go_wp2
    go_ret
    exact ⟨by rw [H.out]; rfl, two_below ..⟩

theorem one_below (w : World) (x y : Int) : Below w.heap.size w (w.alloc (.cells #[.int .i64 x, .int .i64 y] 23)) := (Below.refl _ _).alloc (Nat.le_refl _) _

theorem not_none {x y : Int} (h : ¬ (x = 0 ∧ y = 0)) : ((x == 0) && (y == 0)) = false := by
  rw [Bool.and_eq_false_iff, beq_eq_false_iff_ne, beq_eq_false_iff_ne]; omega

theorem may_any (x y : Int) (w : World) : Calls Tryd.prog 23 #[.agg #[.int .i64 x, .int .i64 y]] w (BoolPost w (my x y)) := by
  have HI : ∀ W, Hid (Calls Tryd.prog 40 #[.int .i64 y] W fun e w' => e = .returned (.bool (ir y)) ∧ W = w') := fun W => ir_any y W
  by_cases h0 : x = 0 ∧ y = 0
  · obtain ⟨rfl, rfl⟩ := h0
    clear HI
    go_enter Tryd.func23, Tryd.ntmps23
    go_wp2
    go_ret
    exact ⟨rfl, one_below ..⟩
  have hn := not_none h0
  by_cases h1 : 0 ≤ x
  · by_cases h2 : x ≤ 1073741824
    · have H : Hid (my x y = ir y) := by
        show _ = _
        rw [Bool.eq_iff_iff, my_iff, ir_iff]; omega
      generalize my x y = m at *
      generalize ir y = r at *
      go_enter Tryd.func23, Tryd.ntmps23
      go_wp2_with (refine (HI _).out.mono ?_; rintro e w' ⟨rfl, rfl⟩)
      go_ret
      exact ⟨by rw [H.out]; rfl, one_below ..⟩
    · have H : Hid (my x y = false) := by
        show _ = _
        rw [← Bool.not_eq_true, my_iff]; omega
      go_enter Tryd.func23, Tryd.ntmps23
      go_wp2
      go_ret
      exact ⟨by rw [H.out]; rfl, one_below ..⟩
  · have H : Hid (my x y = false) := by
      show _ = _
      rw [← Bool.not_eq_true, my_iff]; omega
    go_enter Tryd.func23, Tryd.ntmps23
    go_wp2
    go_ret
    exact ⟨by rw [H.out]; rfl, one_below ..⟩

theorem rmay_any (x y : Int) (w : World) : Calls Tryd.prog 29 #[.agg #[.int .i64 x, .int .i64 y]] w (BoolPost w (my x y)) := by
  by_cases h0 : x = 0
  · subst h0
    by_cases h1 : y = 0
    · subst h1
      go_enter Tryd.func29, Tryd.ntmps29
      go_wp2
      go_ret
      exact ⟨rfl, one_below ..⟩
    · have hy : (y == 0) = false := by rw [beq_eq_false_iff_ne]; exact h1
      have H : Hid (my 0 y = (decide (1 ≤ y) && decide (y ≤ 7))) := by
        show _ = _
        rw [Bool.eq_iff_iff, my_iff]; simp; omega
      by_cases h2 : 1 ≤ y
      · go_enter Tryd.func29, Tryd.ntmps29
        go_wp2
        go_ret
        exact ⟨by rw [H.out, decide_eq_true (p := 1 ≤ y) (by omega)]; rfl, one_below ..⟩
      · go_enter Tryd.func29, Tryd.ntmps29
        go_wp2
        go_ret
        exact ⟨by rw [H.out, decide_eq_false (p := 1 ≤ y) (by omega)]; rfl, one_below ..⟩
  · have hx : (x == 0) = false := by rw [beq_eq_false_iff_ne]; exact h0
    by_cases h1 : 0 ≤ x
    · by_cases h2 : x ≤ 1073741824
      · have H : Hid (my x y = (decide (1 ≤ y) && decide (y ≤ 7))) := by
          show _ = _
          rw [Bool.eq_iff_iff, my_iff]; simp; omega
        by_cases h3 : 1 ≤ y
        · go_enter Tryd.func29, Tryd.ntmps29
          go_wp2
          go_ret
          exact ⟨by rw [H.out, decide_eq_true (p := 1 ≤ y) (by omega)]; rfl, one_below ..⟩
        · go_enter Tryd.func29, Tryd.ntmps29
          go_wp2
          go_ret
          exact ⟨by rw [H.out, decide_eq_false (p := 1 ≤ y) (by omega)]; rfl, one_below ..⟩
      · have H : Hid (my x y = false) := by
          show _ = _
          rw [← Bool.not_eq_true, my_iff]; omega
        go_enter Tryd.func29, Tryd.ntmps29
        go_wp2
        go_ret
        exact ⟨by rw [H.out]; rfl, one_below ..⟩
    · have H : Hid (my x y = false) := by
        show _ = _
        rw [← Bool.not_eq_true, my_iff]; omega
      go_enter Tryd.func29, Tryd.ntmps29
      go_wp2
      go_ret
      exact ⟨by rw [H.out]; rfl, one_below ..⟩

theorem not_same {x y u v : Int} (h : ¬ (x = u ∧ y = v)) : ((x == u) && (y == v)) = false := by
  rw [Bool.and_eq_false_iff, beq_eq_false_iff_ne, beq_eq_false_iff_ne]; omega

theorem rcmp_any (x y u v : Int) (w : World) : Calls Tryd.prog 30 #[.agg #[.int .i64 x, .int .i64 y], .agg #[.int .i64 u, .int .i64 v]] w (IntPost w (cm x y u v)) := by
  by_cases h1 : x < u
  · have H := Lib.hid (cm_less.2 (.inl h1 : x < u ∨ (x = u ∧ y < v)))
    go_enter Tryd.func30, Tryd.ntmps30
    go_wp2
    go_ret
    exact ⟨by rw [H.out]; rfl, two_below ..⟩
  by_cases h2 : x = u
  · subst h2
    by_cases h3 : y < v
    · have H := Lib.hid (cm_less.2 (.inr ⟨rfl, h3⟩ : x < x ∨ (x = x ∧ y < v)))
      go_enter Tryd.func30, Tryd.ntmps30
      go_wp2
      go_ret
      exact ⟨by rw [H.out]; rfl, two_below ..⟩
    · by_cases h4 : y = v
      · subst h4
        have H := Lib.hid (cm_eq x y)
        go_enter Tryd.func30, Tryd.ntmps30
        go_wp2
        go_ret
        exact ⟨by rw [H.out]; rfl, two_below ..⟩
      · have H := Lib.hid (cm_one.2 (.inr ⟨rfl, by omega⟩ : x < x ∨ (x = x ∧ v < y)))
        have hy : (y == v) = false := by rw [beq_eq_false_iff_ne]; exact h4
        go_enter Tryd.func30, Tryd.ntmps30
        go_wp2
        go_ret
        exact ⟨by rw [H.out]; rfl, two_below ..⟩
  · have H := Lib.hid (cm_one.2 (.inl (by omega) : u < x ∨ (x = u ∧ v < y)))
    have hx : (x == u) = false := by rw [beq_eq_false_iff_ne]; exact h2
    go_enter Tryd.func30, Tryd.ntmps30
    go_wp2
    go_ret
    exact ⟨by rw [H.out]; rfl, two_below ..⟩

theorem nx_none {x z : Int} (h : ¬ (1 ≤ z ∧ z ≤ 7 ∧ 0 ≤ x ∧ x < 1073741824)) : nn x z = 0 ∧ ny x z = 0 ∧ nb x z = false := by
  have : nb x z = false := by rw [← Bool.not_eq_true, nb_iff]; exact h
  simp [nn, ny, this]
theorem nx_some {x z : Int} (h : 1 ≤ z ∧ z ≤ 7 ∧ 0 ≤ x ∧ x < 1073741824) : nn x z = x + 1 ∧ ny x z = z ∧ nb x z = true := by
  have : nb x z = true := nb_iff.2 h
  simp [nn, ny, this]

end Go.Proofs.YtdeaaeejkpghaaaDoor.Ba
