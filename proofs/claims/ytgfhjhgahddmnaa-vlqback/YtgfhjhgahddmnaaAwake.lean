/-
  The walk of the statements' own first step ('awake'): the chapter's two examples come out as they should. No conditions.
-/
import Derived.Test.YtgfhjhgahddmnaaGet
namespace Go.Proofs.Ytgfhjhgahddmnaa
open Go.RowKit

theorem vb300 : vb 300 0 = [130, 44] := by
  rw [vb_hi (by decide), vb_lo (by decide)]; decide
theorem gt2 : gt 0 0 [129, 0] = (128, 2, 0) := by decide

def UpPost (w : World) (e : Ending) (w' : World) : Prop := e = .returned (.bool true) ∧ Below w.heap.size w w'

set_option maxHeartbeats 400000 in
theorem awake_any (w : World) : Calls Try.prog 11 #[] w (UpPost w) := by
  have HP := Lib.hid (put_yes 300 w (by decide) (by decide))
  rw [vb300] at HP
  have HG : ∀ W : World, Hid (Calls Try.prog 18 #[.slice (some ⟨W.heap.size, 0, none⟩) 2 2] (W.alloc (.cells #[.int .u8 129, .int .u8 0] 5))
      (fun e w' => e = .returned (.tuple #[.int .i64 128, .int .i64 2, .int .i64 0]) ∧ W.alloc (.cells #[.int .u8 129, .int .u8 0] 5) = w')) := fun W =>
    (get_any _ 2 [129, 0] _ (W.heap.size + 1) (by decide) (.inr ⟨W.heap.size, 0, rfl, by omega, fun j x hx => by
      match j, hx with
      | 0, hx => simp at hx; subst hx; simp
      | 1, hx => simp at hx; subst hx; simp⟩) (by decide)).mono fun _ _ ⟨he, hw⟩ => ⟨by rw [he, gt2]; rfl, hw⟩
  have HS : ∀ (W : World) (A : Option Addr) (c : Nat), Sl W W.heap.size .u8 A [130, 44] → (convert 24 9 (.slice A 2 c)).run Try.prog (W.alloc (.cells #[.int .u8 129, .int .u8 0] 5)) =
      .ok (.string ⟨#[130, 44]⟩) (W.alloc (.cells #[.int .u8 129, .int .u8 0] 5)) := fun W A c hsl => str_of hsl c _ (fun p hp => World.cell?_alloc_lt W _ p hp)
  go_enter Try.func11, Try.ntmps11
  go_wp2_with (first | (go_at_call 12; refine HP.out.mono ?_; rintro e w1 ⟨A, c, rfl, ⟨hsl, hcap⟩, hbel⟩; have hcv := HS w1 A c hsl; have hbel2 := hbel.alloc hbel.size (.cells #[.int .u8 129, .int .u8 0] 5); clear hsl hbel) | (go_at_call 18; refine (HG _).out.mono ?_; rintro e w' ⟨rfl, rfl⟩))
  go_ret
  exact ⟨rfl, hbel2⟩

end Go.Proofs.Ytgfhjhgahddmnaa
