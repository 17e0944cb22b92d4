/-
  What 's[:k]' and 's[l:h]' are, each as one slice, whatever the capacity. No conditions beyond bounds.
-/
import Derived.Test.YteajbcngimccmaaDoorApp
namespace Go.Proofs.YteajbcngimccmaaDoor
open Go.RowKit

theorem elem_size (W : World) : (sizeOf (Tryd.prog.elem 25)).run Tryd.prog W = .ok 1 W := by
  have : Tryd.prog.elem 25 = 5 := by kernel_rfl
  rw [this]
  simp [go_sem]
theorem elem_under : Tryd.prog.underlying 25 = some (.slice (Tryd.prog.elem 25)) := by kernel_rfl

theorem Sl.at_add {w : World} {B : Nat} {A : Option Addr} {xs : List Int} (h : Sl w B .u8 A xs) (c k : Nat) (hk : k ≤ xs.length) (hc : xs.length ≤ c) : Sl w B .u8 (if c = k then A else A.map (·.add (k * 1))) (xs.drop k) := by
  by_cases hck : c = k
  · rw [List.drop_of_length_le (by omega)]; exact Sl.nil
  · rw [if_neg hck]
    rcases h with rfl | ⟨b, off, rfl, hb, hcell⟩
    · simp; exact Sl.nil
    · have : Sl w B .u8 (some ⟨b, off, none⟩) xs := .inr ⟨b, off, rfl, hb, hcell⟩
      simp only [Option.map_some, Nat.mul_one, Addr.add_lit]
      exact this.drop k

/-- What 's[:k]' is. -/
theorem head_run {w : World} {B : Nat} {A : Option Addr} {xs : List Int} (h : Sl w B .u8 A xs) (c k : Nat) (l : Int) (hl : l = (k : Int)) (hk : k ≤ xs.length) (hc : xs.length ≤ c) :
    ∃ A', (∀ W, (Instr.sliceAt 25 (.slice A xs.length c) none (some (.int .i64 l)) none).run Tryd.prog W = .ok (.slice A' k c) W) ∧
      (∀ W, (Instr.slice 25 (.slice A xs.length c) none (some (.int .i64 l)) none).run Tryd.prog W = .ok (.slice A' k c) W) ∧ Sl w B .u8 A' (xs.take k) := by
  subst hl
  have h2 : ∀ W, (Instr.slice 25 (.slice A xs.length c) none (some (.int .i64 (k : Int))) none).run Tryd.prog W = .ok (.slice (if c = 0 then A else A.map (·.add (0 * 1))) k c) W := fun W => by
    rw [run_slice_h W 25 A xs.length c elem_under .i64 k (by omega) (by omega), elem_size]
    simp [sliced]
  refine ⟨if c = 0 then A else A.map (·.add (0 * 1)), fun W => by rw [run_sliceAt_slice W 25 _ _ _ _ elem_under]; exact h2 W, h2, ?_⟩
  have := (h.at_add c 0 (Nat.zero_le _) hc)
  rw [List.drop_zero] at this
  exact this.take k

/-- What 's[l:h]' is. -/
theorem part_run {w : World} {B : Nat} {A : Option Addr} {xs : List Int} (h : Sl w B .u8 A xs) (c i j : Nat) (a b : Int) (ha : a = (i : Int)) (hb : b = (j : Int)) (hij : i ≤ j) (hj : j ≤ xs.length) (hc : xs.length ≤ c) :
    ∃ A', (∀ W, (Instr.sliceAt 25 (.slice A xs.length c) (some (.int .i64 a)) (some (.int .i64 b)) none).run Tryd.prog W = .ok (.slice A' (j - i) (c - i)) W) ∧
      (∀ W, (Instr.slice 25 (.slice A xs.length c) (some (.int .i64 a)) (some (.int .i64 b)) none).run Tryd.prog W = .ok (.slice A' (j - i) (c - i)) W) ∧ Sl w B .u8 A' ((xs.drop i).take (j - i)) := by
  subst ha hb
  have h2 : ∀ W, (Instr.slice 25 (.slice A xs.length c) (some (.int .i64 (i : Int))) (some (.int .i64 (j : Int))) none).run Tryd.prog W = .ok (.slice (if c = i then A else A.map (·.add (i * 1))) (j - i) (c - i)) W := fun W => by
    rw [run_slice_lh W 25 A xs.length c elem_under .i64 .i64 i j (by omega) (by omega) (by omega), elem_size]
    simp [sliced]
  exact ⟨_, fun W => by rw [run_sliceAt_slice W 25 _ _ _ _ elem_under]; exact h2 W, h2, (h.at_add c i (by omega) hc).take (j - i)⟩

end Go.Proofs.YteajbcngimccmaaDoor
