/-
  The walk of the document's May: it answers what 'mayB' says. No conditions.
-/
import Derived.Test.YtdeaaeejkpghaaaDoorMay
namespace Go.Proofs.YtdeaaeejkpghaaaDoor
open Go.RowKit
attribute [local go_sem ↓ high] eq23 guard23

theorem rmay_nop (u s h n : Int) (t : ByteArray) (w : World) : Calls Tryd.prog 31 #[cv u s 0 h n t] w (BoolPost w (mayB u s 0 h n t.size)) := by
  go_enter Tryd.func31, Tryd.ntmps31
  go_wp2
  go_ret
  refine ⟨?_, (Below.refl _ _).alloc (Nat.le_refl _) _⟩
  show Ending.returned (.bool (u == 0 && s == 0 && h == 0 && n == 0 && decide (t = { data := #[] }))) = _
  rw [size_eq, mayB, if_pos rfl]
  congr 2
  rw [Bool.eq_iff_iff]
  simp only [Bool.and_eq_true, beq_iff_eq, decide_eq_true_eq, and_assoc]

theorem rmay_none (u s k h n : Int) (t : ByteArray) (w : World) (hk : k < 0 ∨ 8 ≤ k) : Calls Tryd.prog 31 #[cv u s k h n t] w (BoolPost w false) := by
  have hk0 : (k == 0) = false := by rw [beq_eq_false_iff_ne]; omega
  by_cases hn : k < 0
  · clear hk
    go_enter Tryd.func31, Tryd.ntmps31
    go_wp2
    go_ret
    exact ⟨rfl, (Below.refl _ _).alloc (Nat.le_refl _) _⟩
  · have h8 : 8 ≤ k := by omega
    clear hk
    go_enter Tryd.func31, Tryd.ntmps31
    go_wp2
    go_ret
    exact ⟨rfl, (Below.refl _ _).alloc (Nat.le_refl _) _⟩

/-- What the document's May makes of its parts. -/
def fin4 (bu bs bh q r bk bt z zt : Bool) : Bool := if !bu || !bs || !bh || q && !bk || !q && !z then false else r && bt || !r && zt

set_option maxHeartbeats 1000000 in
theorem rmay_core (bu bs bh q r bk bt z : Bool) (u s k h n : Int) (t : ByteArray) (w : World) (hk0 : (k == 0) = false) (k0 : 0 ≤ k) (k8 : k < 8) (hz : (n == 0) = z)
    (H1 : ∀ W, Hid (Calls Tryd.prog 44 #[.int .i64 u, .int .i64 1048576] W fun e w' => e = .returned (.bool bu) ∧ W = w'))
    (H2 : ∀ W, Hid (Calls Tryd.prog 44 #[.int .i64 s, .int .i64 1073741824] W fun e w' => e = .returned (.bool bs) ∧ W = w'))
    (H3 : ∀ W, Hid (Calls Tryd.prog 44 #[.int .i64 h, .int .i64 1048576] W fun e w' => e = .returned (.bool bh) ∧ W = w'))
    (H4 : ∀ W, Hid (Calls Tryd.prog 44 #[.int .i64 n, .int .i64 1073741824] W fun e w' => e = .returned (.bool bk) ∧ W = w'))
    (H5 : ∀ W, Hid (Calls Tryd.prog 44 #[.int .i64 (t.size : Int), .int .i64 64] W fun e w' => e = .returned (.bool bt) ∧ W = w'))
    (H6 : ∀ W, Hid (Calls Tryd.prog 45 #[.int .i64 k] W fun e w' => e = .returned (.bool q) ∧ W = w'))
    (H7 : ∀ W, Hid (Calls Tryd.prog 46 #[.int .i64 k] W fun e w' => e = .returned (.bool r) ∧ W = w')) :
    Calls Tryd.prog 31 #[cv u s k h n t] w (BoolPost w (fin4 bu bs bh q r bk bt z ((t.size : Int) == 0))) := by
  cases bu
  · go_enter Tryd.func31, Tryd.ntmps31
    go_wp2_with (first | (go_at_call 44; with_reducible refine (H1 _).out.mono ?_; rintro e w1 ⟨rfl, rfl⟩) | (go_at_call 44; with_reducible refine (H2 _).out.mono ?_; rintro e w1 ⟨rfl, rfl⟩) | (go_at_call 44; with_reducible refine (H3 _).out.mono ?_; rintro e w1 ⟨rfl, rfl⟩) | (go_at_call 44; with_reducible refine (H4 _).out.mono ?_; rintro e w1 ⟨rfl, rfl⟩) | (go_at_call 44; with_reducible refine (H5 _).out.mono ?_; rintro e w1 ⟨rfl, rfl⟩) | (go_at_call 45; with_reducible refine (H6 _).out.mono ?_; rintro e w1 ⟨rfl, rfl⟩) | (go_at_call 46; with_reducible refine (H7 _).out.mono ?_; rintro e w1 ⟨rfl, rfl⟩))
    go_ret
    exact ⟨rfl, (Below.refl _ _).alloc (Nat.le_refl _) _⟩
  cases bs
  · go_enter Tryd.func31, Tryd.ntmps31
    go_wp2_with (first | (go_at_call 44; with_reducible refine (H1 _).out.mono ?_; rintro e w1 ⟨rfl, rfl⟩) | (go_at_call 44; with_reducible refine (H2 _).out.mono ?_; rintro e w1 ⟨rfl, rfl⟩) | (go_at_call 44; with_reducible refine (H3 _).out.mono ?_; rintro e w1 ⟨rfl, rfl⟩) | (go_at_call 44; with_reducible refine (H4 _).out.mono ?_; rintro e w1 ⟨rfl, rfl⟩) | (go_at_call 44; with_reducible refine (H5 _).out.mono ?_; rintro e w1 ⟨rfl, rfl⟩) | (go_at_call 45; with_reducible refine (H6 _).out.mono ?_; rintro e w1 ⟨rfl, rfl⟩) | (go_at_call 46; with_reducible refine (H7 _).out.mono ?_; rintro e w1 ⟨rfl, rfl⟩))
    go_ret
    exact ⟨rfl, (Below.refl _ _).alloc (Nat.le_refl _) _⟩
  cases bh
  · go_enter Tryd.func31, Tryd.ntmps31
    go_wp2_with (first | (go_at_call 44; with_reducible refine (H1 _).out.mono ?_; rintro e w1 ⟨rfl, rfl⟩) | (go_at_call 44; with_reducible refine (H2 _).out.mono ?_; rintro e w1 ⟨rfl, rfl⟩) | (go_at_call 44; with_reducible refine (H3 _).out.mono ?_; rintro e w1 ⟨rfl, rfl⟩) | (go_at_call 44; with_reducible refine (H4 _).out.mono ?_; rintro e w1 ⟨rfl, rfl⟩) | (go_at_call 44; with_reducible refine (H5 _).out.mono ?_; rintro e w1 ⟨rfl, rfl⟩) | (go_at_call 45; with_reducible refine (H6 _).out.mono ?_; rintro e w1 ⟨rfl, rfl⟩) | (go_at_call 46; with_reducible refine (H7 _).out.mono ?_; rintro e w1 ⟨rfl, rfl⟩))
    go_ret
    exact ⟨rfl, (Below.refl _ _).alloc (Nat.le_refl _) _⟩
  cases q
  · cases z
    · go_enter Tryd.func31, Tryd.ntmps31
      go_wp2_with (first | (go_at_call 44; with_reducible refine (H1 _).out.mono ?_; rintro e w1 ⟨rfl, rfl⟩) | (go_at_call 44; with_reducible refine (H2 _).out.mono ?_; rintro e w1 ⟨rfl, rfl⟩) | (go_at_call 44; with_reducible refine (H3 _).out.mono ?_; rintro e w1 ⟨rfl, rfl⟩) | (go_at_call 44; with_reducible refine (H4 _).out.mono ?_; rintro e w1 ⟨rfl, rfl⟩) | (go_at_call 44; with_reducible refine (H5 _).out.mono ?_; rintro e w1 ⟨rfl, rfl⟩) | (go_at_call 45; with_reducible refine (H6 _).out.mono ?_; rintro e w1 ⟨rfl, rfl⟩) | (go_at_call 46; with_reducible refine (H7 _).out.mono ?_; rintro e w1 ⟨rfl, rfl⟩))
      go_ret
      exact ⟨rfl, (Below.refl _ _).alloc (Nat.le_refl _) _⟩
    · cases r
      · go_enter Tryd.func31, Tryd.ntmps31
        go_wp2_with (first | (go_at_call 44; with_reducible refine (H1 _).out.mono ?_; rintro e w1 ⟨rfl, rfl⟩) | (go_at_call 44; with_reducible refine (H2 _).out.mono ?_; rintro e w1 ⟨rfl, rfl⟩) | (go_at_call 44; with_reducible refine (H3 _).out.mono ?_; rintro e w1 ⟨rfl, rfl⟩) | (go_at_call 44; with_reducible refine (H4 _).out.mono ?_; rintro e w1 ⟨rfl, rfl⟩) | (go_at_call 44; with_reducible refine (H5 _).out.mono ?_; rintro e w1 ⟨rfl, rfl⟩) | (go_at_call 45; with_reducible refine (H6 _).out.mono ?_; rintro e w1 ⟨rfl, rfl⟩) | (go_at_call 46; with_reducible refine (H7 _).out.mono ?_; rintro e w1 ⟨rfl, rfl⟩))
        go_ret
        exact ⟨rfl, (Below.refl _ _).alloc (Nat.le_refl _) _⟩
      · cases bt
        · go_enter Tryd.func31, Tryd.ntmps31
          go_wp2_with (first | (go_at_call 44; with_reducible refine (H1 _).out.mono ?_; rintro e w1 ⟨rfl, rfl⟩) | (go_at_call 44; with_reducible refine (H2 _).out.mono ?_; rintro e w1 ⟨rfl, rfl⟩) | (go_at_call 44; with_reducible refine (H3 _).out.mono ?_; rintro e w1 ⟨rfl, rfl⟩) | (go_at_call 44; with_reducible refine (H4 _).out.mono ?_; rintro e w1 ⟨rfl, rfl⟩) | (go_at_call 44; with_reducible refine (H5 _).out.mono ?_; rintro e w1 ⟨rfl, rfl⟩) | (go_at_call 45; with_reducible refine (H6 _).out.mono ?_; rintro e w1 ⟨rfl, rfl⟩) | (go_at_call 46; with_reducible refine (H7 _).out.mono ?_; rintro e w1 ⟨rfl, rfl⟩))
          go_ret
          exact ⟨rfl, (Below.refl _ _).alloc (Nat.le_refl _) _⟩
        · go_enter Tryd.func31, Tryd.ntmps31
          go_wp2_with (first | (go_at_call 44; with_reducible refine (H1 _).out.mono ?_; rintro e w1 ⟨rfl, rfl⟩) | (go_at_call 44; with_reducible refine (H2 _).out.mono ?_; rintro e w1 ⟨rfl, rfl⟩) | (go_at_call 44; with_reducible refine (H3 _).out.mono ?_; rintro e w1 ⟨rfl, rfl⟩) | (go_at_call 44; with_reducible refine (H4 _).out.mono ?_; rintro e w1 ⟨rfl, rfl⟩) | (go_at_call 44; with_reducible refine (H5 _).out.mono ?_; rintro e w1 ⟨rfl, rfl⟩) | (go_at_call 45; with_reducible refine (H6 _).out.mono ?_; rintro e w1 ⟨rfl, rfl⟩) | (go_at_call 46; with_reducible refine (H7 _).out.mono ?_; rintro e w1 ⟨rfl, rfl⟩))
          go_ret
          exact ⟨rfl, (Below.refl _ _).alloc (Nat.le_refl _) _⟩
  · cases bk
    · go_enter Tryd.func31, Tryd.ntmps31
      go_wp2_with (first | (go_at_call 44; with_reducible refine (H1 _).out.mono ?_; rintro e w1 ⟨rfl, rfl⟩) | (go_at_call 44; with_reducible refine (H2 _).out.mono ?_; rintro e w1 ⟨rfl, rfl⟩) | (go_at_call 44; with_reducible refine (H3 _).out.mono ?_; rintro e w1 ⟨rfl, rfl⟩) | (go_at_call 44; with_reducible refine (H4 _).out.mono ?_; rintro e w1 ⟨rfl, rfl⟩) | (go_at_call 44; with_reducible refine (H5 _).out.mono ?_; rintro e w1 ⟨rfl, rfl⟩) | (go_at_call 45; with_reducible refine (H6 _).out.mono ?_; rintro e w1 ⟨rfl, rfl⟩) | (go_at_call 46; with_reducible refine (H7 _).out.mono ?_; rintro e w1 ⟨rfl, rfl⟩))
      go_ret
      exact ⟨rfl, (Below.refl _ _).alloc (Nat.le_refl _) _⟩
    · cases r
      · go_enter Tryd.func31, Tryd.ntmps31
        go_wp2_with (first | (go_at_call 44; with_reducible refine (H1 _).out.mono ?_; rintro e w1 ⟨rfl, rfl⟩) | (go_at_call 44; with_reducible refine (H2 _).out.mono ?_; rintro e w1 ⟨rfl, rfl⟩) | (go_at_call 44; with_reducible refine (H3 _).out.mono ?_; rintro e w1 ⟨rfl, rfl⟩) | (go_at_call 44; with_reducible refine (H4 _).out.mono ?_; rintro e w1 ⟨rfl, rfl⟩) | (go_at_call 44; with_reducible refine (H5 _).out.mono ?_; rintro e w1 ⟨rfl, rfl⟩) | (go_at_call 45; with_reducible refine (H6 _).out.mono ?_; rintro e w1 ⟨rfl, rfl⟩) | (go_at_call 46; with_reducible refine (H7 _).out.mono ?_; rintro e w1 ⟨rfl, rfl⟩))
        go_ret
        exact ⟨rfl, (Below.refl _ _).alloc (Nat.le_refl _) _⟩
      · cases bt
        · go_enter Tryd.func31, Tryd.ntmps31
          go_wp2_with (first | (go_at_call 44; with_reducible refine (H1 _).out.mono ?_; rintro e w1 ⟨rfl, rfl⟩) | (go_at_call 44; with_reducible refine (H2 _).out.mono ?_; rintro e w1 ⟨rfl, rfl⟩) | (go_at_call 44; with_reducible refine (H3 _).out.mono ?_; rintro e w1 ⟨rfl, rfl⟩) | (go_at_call 44; with_reducible refine (H4 _).out.mono ?_; rintro e w1 ⟨rfl, rfl⟩) | (go_at_call 44; with_reducible refine (H5 _).out.mono ?_; rintro e w1 ⟨rfl, rfl⟩) | (go_at_call 45; with_reducible refine (H6 _).out.mono ?_; rintro e w1 ⟨rfl, rfl⟩) | (go_at_call 46; with_reducible refine (H7 _).out.mono ?_; rintro e w1 ⟨rfl, rfl⟩))
          go_ret
          exact ⟨rfl, (Below.refl _ _).alloc (Nat.le_refl _) _⟩
        · go_enter Tryd.func31, Tryd.ntmps31
          go_wp2_with (first | (go_at_call 44; with_reducible refine (H1 _).out.mono ?_; rintro e w1 ⟨rfl, rfl⟩) | (go_at_call 44; with_reducible refine (H2 _).out.mono ?_; rintro e w1 ⟨rfl, rfl⟩) | (go_at_call 44; with_reducible refine (H3 _).out.mono ?_; rintro e w1 ⟨rfl, rfl⟩) | (go_at_call 44; with_reducible refine (H4 _).out.mono ?_; rintro e w1 ⟨rfl, rfl⟩) | (go_at_call 44; with_reducible refine (H5 _).out.mono ?_; rintro e w1 ⟨rfl, rfl⟩) | (go_at_call 45; with_reducible refine (H6 _).out.mono ?_; rintro e w1 ⟨rfl, rfl⟩) | (go_at_call 46; with_reducible refine (H7 _).out.mono ?_; rintro e w1 ⟨rfl, rfl⟩))
          go_ret
          exact ⟨rfl, (Below.refl _ _).alloc (Nat.le_refl _) _⟩

theorem rmay_any (u s k h n : Int) (t : ByteArray) (w : World) : Calls Tryd.prog 31 #[cv u s k h n t] w (BoolPost w (mayB u s k h n t.size)) := by
  by_cases h0 : k = 0
  · subst h0; exact rmay_nop u s h n t w
  · by_cases hk : k < 0 ∨ 8 ≤ k
    · have : mayB u s k h n t.size = false := by rw [mayB, if_neg h0, decide_eq_false (by omega)]; rfl
      rw [this]; exact rmay_none u s k h n t w hk
    · have := rmay_core _ _ _ _ _ _ _ _ u s k h n t w (by rw [beq_eq_false_iff_ne]; exact h0) (by omega) (by omega) rfl (fun W => in_any u _ W) (fun W => in_any s _ W) (fun W => in_any h _ W) (fun W => in_any n _ W) (fun W => in_any _ _ W) (fun W => numbered_any k W) (fun W => worded_any k W)
      have e : mayB u s k h n t.size = fin4 (fitB u true 1048576) (fitB s true 1073741824) (fitB h true 1048576) (ndN k) (ndT k) (fitB n true 1073741824) (fitB (t.size : Int) true 64) (n == 0) ((t.size : Int) == 0) := by
        rw [mayB, if_neg h0, decide_eq_true (by omega), Bool.true_and, fin4]
        have e1 : fitB n false 1073741824 = (n == 0) := by rw [Bool.eq_iff_iff]; simp [fitB]
        have e2 : fitB (t.size : Int) false 64 = ((t.size : Int) == 0) := by rw [Bool.eq_iff_iff]; simp [fitB]
        cases ndN k <;> cases ndT k <;> (try simp only [e1, e2]) <;> cases fitB u true 1048576 <;> cases fitB s true 1073741824 <;> cases fitB h true 1048576 <;> cases fitB n true 1073741824 <;> cases (n == 0) <;> simp
      rw [e]; exact this

end Go.Proofs.YtdeaaeejkpghaaaDoor
