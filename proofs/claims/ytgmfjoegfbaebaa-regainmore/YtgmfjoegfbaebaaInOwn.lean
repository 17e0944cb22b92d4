/-
  The walks of Clone (of a slice of ints) and of own: a record with deps of its own. Conditions: at most 1000 deps.
-/
import Derived.Test.YtgmfjoegfbaebaaInMem
namespace Go.Proofs.Ytgmfjoegfbaebaa.In
open Go.RowKit
set_option linter.unusedVariables false

theorem nil_yes (n c : Nat) (w : World) : (binOp .eql 28 (.slice none n c) (.slice none 0 0)).run Try.prog w = .ok (.bool true) w := by kernel_rfl
theorem nil_no (ad : Addr) (n c : Nat) (w : World) : (binOp .eql 28 (.slice (some ad) n c) (.slice none 0 0)).run Try.prog w = .ok (.bool false) w := by kernel_rfl
attribute [local go_sem ↓ high] nil_yes nil_no

theorem clone_any (A : Option Addr) (c : Nat) (xs : List Int) (w : World) (hs : At.Sl w w.heap.size .i64 A xs) (hl : xs.length ≤ 1000) :
    Calls Try.prog 43 #[.slice A xs.length c] w fun e w' => ∃ A' c', e = .returned (.slice A' xs.length c') ∧ Fr w.heap.size w' A' xs ∧ Below w.heap.size w w' := by
  rcases A with _ | ad
  · have hn : xs = [] := by
      rcases hs with h | ⟨b, off, h, _⟩
      · exact h
      · cases h
    subst hn
    go_enter Try.func43, Try.ntmps43
    go_wp2
    go_ret
    exact ⟨none, 0, rfl, .inl rfl, Below.refl _ _⟩
  · obtain ⟨i0, hi, hz0, hz1, hz2⟩ : ∃ i, Try.prog.info? 3 = some i ∧ i.zero = some (.int .i64 0) ∧ i.size = 1 ∧ i.bytes = 8 := by
      have := info3
      rcases h : Try.prog.info? 3 with _ | i
      · rw [h] at this; cases this
      · rw [h] at this; simp at this; exact ⟨i, rfl, this.1, this.2.1, this.2.2⟩
    have own0 : (w.alloc (.cells #[] 3)).ownsRow w.heap.size 3 1 (.slice (some ⟨w.heap.size, 0, none⟩) 0 0) 0 [] := World.ownsRow_lit w #[] 0 (Nat.le_refl _) (by unfold maxLen; omega) rfl
    have B0 : Below w.heap.size w (w.alloc (.cells #[] 3)) := (Below.refl _ _).alloc (Nat.le_refl _) _
    have S0 := hs.to B0 B0.size
    have HL := Lib.hid hl
    clear hl
    go_enter Try.func43, Try.ntmps43
    go_wp2_with (at_builtin; refine wpList_app rfl (.tmp 5) (.tmp 6) 28 rfl w.heap.size 3 i0 (.int .i64 0) 8 Try.underlying28 hi hz0 hz1 hz2 rfl _ 0 [] rfl own0 _ ad c xs rfl S0 (by have := HL.out; unfold maxLen; omega) (by have := HL.out; omega) B0.size ?_; intro v6 w6 own6 grow6)
    go_ret
    have own7 : w6.ownsRow w.heap.size 3 1 v6 xs.length (xs.map (Value.int .i64)) := by simpa using own6
    obtain ⟨A7, c7, rfl, f7⟩ := own_fr own7
    exact ⟨A7, c7, rfl, f7, B0.grown grow6 B0.size (fun q hq => by have := (own0.lt q hq).1; omega)⟩

end Go.Proofs.Ytgmfjoegfbaebaa.In
