/-
  The walks of the document's numbered, worded and Bare. Conditions: the kind is not negative.
-/
import Derived.Test.YtpeieagfndggbaaDoorAwk
namespace Go.Proofs.YtpeieagfndggbaaDoor
open Go.RowKit Tx

theorem rnumb_any (K : Nat) (w : World) : Calls Tryd.prog 28 #[.int .i64 K] w fun e w' => e = .returned (.bool (numbered K)) ∧ w' = w := by
  by_cases h5 : (K : Int) = 5
  · obtain rfl : K = 5 := by omega
    go_enter Tryd.func28, Tryd.ntmps28
    go_wp2
    go_ret
    exact ⟨rfl, rfl⟩
  · by_cases h6 : (K : Int) = 6
    · obtain rfl : K = 6 := by omega
      go_enter Tryd.func28, Tryd.ntmps28
      go_wp2
      go_ret
      exact ⟨rfl, rfl⟩
    · by_cases h7 : (K : Int) = 7
      · obtain rfl : K = 7 := by omega
        go_enter Tryd.func28, Tryd.ntmps28
        go_wp2
        go_ret
        exact ⟨rfl, rfl⟩
      · have e : Hid (numbered K = false) := by
          show numbered K = false
          unfold numbered
          rw [← Bool.not_eq_true, Bool.and_eq_true, decide_eq_true_eq, decide_eq_true_eq]
          omega
        have q5 : ((K : Int) == 5) = false := beq_eq_false_iff_ne.2 h5
        have q6 : ((K : Int) == 6) = false := beq_eq_false_iff_ne.2 h6
        have q7 : ((K : Int) == 7) = false := beq_eq_false_iff_ne.2 h7
        go_enter Tryd.func28, Tryd.ntmps28
        go_wp2
        go_ret
        exact ⟨by rw [e.out]; rfl, rfl⟩
theorem rword_any (K : Nat) (w : World) : Calls Tryd.prog 29 #[.int .i64 K] w fun e w' => e = .returned (.bool (worded K)) ∧ w' = w := by
  by_cases h5 : (K : Int) = 4
  · obtain rfl : K = 4 := by omega
    go_enter Tryd.func29, Tryd.ntmps29
    go_wp2
    go_ret
    exact ⟨rfl, rfl⟩
  · by_cases h6 : (K : Int) = 5
    · obtain rfl : K = 5 := by omega
      go_enter Tryd.func29, Tryd.ntmps29
      go_wp2
      go_ret
      exact ⟨rfl, rfl⟩
    · have e : Hid (worded K = false) := by
        show worded K = false
        unfold worded
        rw [← Bool.not_eq_true, Bool.and_eq_true, decide_eq_true_eq, decide_eq_true_eq]
        omega
      have q5 : ((K : Int) == 4) = false := beq_eq_false_iff_ne.2 h5
      have q6 : ((K : Int) == 5) = false := beq_eq_false_iff_ne.2 h6
      go_enter Tryd.func29, Tryd.ntmps29
      go_wp2
      go_ret
      exact ⟨by rw [e.out]; rfl, rfl⟩
theorem bare_any (u s ch n : Int) (K : Nat) (t : ByteArray) (w : World) : Calls Tryd.prog 18 #[cv u s K ch n t] w fun e w' => e = .returned (cv 0 0 K ch (if numbered K then n else 0) (if worded K then t else ⟨#[]⟩)) ∧ Below w.heap.size w w' := by
  have HN := fun W => Lib.hid (rnumb_any K W)
  have HW := fun W => Lib.hid (rword_any K W)
  cases hn : numbered K
  · rw [hn] at HN
    cases hw : worded K
    · rw [hw] at HW
      go_enter Tryd.func18, Tryd.ntmps18
      go_wp2_with (first
        | (go_at_call 28; refine (HN _).out.mono ?_; rintro e w' ⟨rfl, rfl⟩)
        | (go_at_call 29; refine (HW _).out.mono ?_; rintro e w' ⟨rfl, rfl⟩))
      refine bodyPost_ret (v := cv 0 0 K ch 0 ⟨#[]⟩) ?_ rfl ⟨rfl, ?_⟩
      · simp [results, Tryd.results18, go_sem]
      · exact (((Below.refl _ _).alloc (Nat.le_refl _) _).alloc (by simp) _).alloc (by simp; omega) _
    · rw [hw] at HW
      go_enter Tryd.func18, Tryd.ntmps18
      go_wp2_with (first
        | (go_at_call 28; refine (HN _).out.mono ?_; rintro e w' ⟨rfl, rfl⟩)
        | (go_at_call 29; refine (HW _).out.mono ?_; rintro e w' ⟨rfl, rfl⟩))
      refine bodyPost_ret (v := cv 0 0 K ch 0 t) ?_ rfl ⟨rfl, ?_⟩
      · simp [results, Tryd.results18, go_sem]
      · exact (((Below.refl _ _).alloc (Nat.le_refl _) _).alloc (by simp) _).alloc (by simp; omega) _
  · rw [hn] at HN
    cases hw : worded K
    · rw [hw] at HW
      go_enter Tryd.func18, Tryd.ntmps18
      go_wp2_with (first
        | (go_at_call 28; refine (HN _).out.mono ?_; rintro e w' ⟨rfl, rfl⟩)
        | (go_at_call 29; refine (HW _).out.mono ?_; rintro e w' ⟨rfl, rfl⟩))
      refine bodyPost_ret (v := cv 0 0 K ch n ⟨#[]⟩) ?_ rfl ⟨rfl, ?_⟩
      · simp [results, Tryd.results18, go_sem]
      · exact (((Below.refl _ _).alloc (Nat.le_refl _) _).alloc (by simp) _).alloc (by simp; omega) _
    · rw [hw] at HW
      go_enter Tryd.func18, Tryd.ntmps18
      go_wp2_with (first
        | (go_at_call 28; refine (HN _).out.mono ?_; rintro e w' ⟨rfl, rfl⟩)
        | (go_at_call 29; refine (HW _).out.mono ?_; rintro e w' ⟨rfl, rfl⟩))
      refine bodyPost_ret (v := cv 0 0 K ch n t) ?_ rfl ⟨rfl, ?_⟩
      · simp [results, Tryd.results18, go_sem]
      · exact (((Below.refl _ _).alloc (Nat.le_refl _) _).alloc (by simp) _).alloc (by simp; omega) _
end Go.Proofs.YtpeieagfndggbaaDoor
