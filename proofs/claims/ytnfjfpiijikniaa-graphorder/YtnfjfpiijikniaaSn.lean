/-
  The walk of slices.SortFunc at a slice of none. No conditions.
-/
import Derived.Test.YtnfjfpiijikniaaSf
namespace Go.Proofs.Ytnfjfpiijikniaa.Gp
open Go.RowKit Go.Shelf
set_option linter.unusedVariables false

theorem len64_zero (w : World) : Calls Try.prog 55 #[.int .u64 0] w (fun e w' => e = .returned (.int .i64 0) ∧ w' = w) := by
  go_enter Try.func55, Try.ntmps55
  go_wp2
  go_ret
  refine ⟨?_, rfl⟩
  have e : wrap64 (wrap64 (Lib.len8 0)) = 0 := by decide +kernel
  show Ending.returned (Value.int .i64 (wrap64 (wrap64 (Lib.len8 0)))) = _
  rw [e]

theorem len_zero (w : World) : Calls Try.prog 40 #[.int .u64 0] w (fun e w' => e = .returned (.int .i64 0) ∧ w' = w) := by
  have H := Lib.hid (len64_zero w)
  go_enter Try.func40, Try.ntmps40
  go_wp2_with fail
  refine H.out.mono ?_
  rintro e w' ⟨rfl, rfl⟩
  go_wp2
  go_ret
  exact ⟨rfl, rfl⟩

theorem ins_none (f : Value) (w : World) : Calls Try.prog 56 #[.slice none 0 0, .int .i64 0, .int .i64 0, f] w (fun e w' => e = .returned (.tuple #[]) ∧ w' = w) := by
  go_enter Try.func56, Try.ntmps56
  go_wp2
  go_loopg [8] 0 (fun g t W => t = .int .i64 1 ∧ W = w)
  case atStart => exact ⟨rfl, rfl⟩
  case round =>
    obtain ⟨rfl, rfl⟩ := hrel
    go_wp2
    go_end0
    exact ⟨rfl, rfl⟩

set_option maxRecDepth 100000 in
set_option maxHeartbeats 1000000 in
theorem pdq_none (f : Value) (w : World) : Calls Try.prog 43 #[.slice none 0 0, .int .i64 0, .int .i64 0, .int .i64 0, f] w (fun e w' => e = .returned (.tuple #[]) ∧ w' = w) := by
  have H := Lib.hid (ins_none f w)
  go_enter Try.func43, Try.ntmps43
  go_wp2
  go_loopg [1, 2] 0 (fun g a b W => a = .int .i64 0 ∧ b = .int .i64 0 ∧ W = w)
  case atStart => exact ⟨rfl, rfl, rfl⟩
  case round =>
    obtain ⟨rfl, rfl, rfl⟩ := hrel
    go_wp2_with fail
    refine H.out.mono ?_
    rintro e w' ⟨rfl, rfl⟩
    go_wp2
    refine bodyPost_ret (results_none rfl _ _ _) rfl ?_
    exact ⟨rfl, rfl⟩

theorem sortnone_any (f : Value) (w : World) : Calls Try.prog 36 #[.slice none 0 0, f] w (fun e w' => e = .returned (.tuple #[]) ∧ w' = w) := by
  have H1 := Lib.hid (len_zero w)
  have H2 := Lib.hid (pdq_none f w)
  go_enter Try.func36, Try.ntmps36
  go_wp2_with fail
  refine H1.out.mono ?_
  rintro e w' ⟨rfl, rfl⟩
  go_wp2_with fail
  refine H2.out.mono ?_
  rintro e w' ⟨rfl, rfl⟩
  go_wp2
  go_end0
  exact ⟨rfl, rfl⟩

end Go.Proofs.Ytnfjfpiijikniaa.Gp
