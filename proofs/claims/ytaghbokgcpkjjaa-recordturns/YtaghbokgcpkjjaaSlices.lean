/-
  What 's[:k]' and 's[l:h]' are, each as one slice, whatever the capacity; a record in a box of the call's own. No conditions beyond bounds.
-/
import Derived.Test.YtaghbokgcpkjjaaOpen
namespace Go.Proofs.Ytaghbokgcpkjjaa
open Go.RowKit

theorem elem_size (W : World) : (sizeOf (Try.prog.elem 22)).run Try.prog W = .ok 1 W := by
  have : Try.prog.elem 22 = 5 := by kernel_rfl
  rw [this]
  simp [go_sem]
theorem elem_under : Try.prog.underlying 22 = some (.slice (Try.prog.elem 22)) := by kernel_rfl

theorem Sl.at_add {w : World} {B : Nat} {A : Option Addr} {xs : List Int} (h : Sl w B .u8 A xs) (c k : Nat) (hk : k ≤ xs.length) (hc : xs.length ≤ c) : Sl w B .u8 (if c = k then A else A.map (·.add (k * 1))) (xs.drop k) := by
  by_cases hck : c = k
  · rw [List.drop_of_length_le (by omega)]; exact Sl.nil
  · rw [if_neg hck]
    rcases h with rfl | ⟨b, off, rfl, hb, hcell⟩
    · simp; exact Sl.nil
    · have : Sl w B .u8 (some ⟨b, off, none⟩) xs := .inr ⟨b, off, rfl, hb, hcell⟩
      simp only [Option.map_some, Nat.mul_one, Addr.add_lit]
      exact this.drop k

/-- What 's[:k]' is. -/
theorem head_run {w : World} {B : Nat} {A : Option Addr} {xs : List Int} (h : Sl w B .u8 A xs) (c k : Nat) (l : Int) (hl : l = (k : Int)) (hk : k ≤ xs.length) (hc : xs.length ≤ c) :
    ∃ A', (∀ W, (Instr.sliceAt 22 (.slice A xs.length c) none (some (.int .i64 l)) none).run Try.prog W = .ok (.slice A' k c) W) ∧
      (∀ W, (Instr.slice 22 (.slice A xs.length c) none (some (.int .i64 l)) none).run Try.prog W = .ok (.slice A' k c) W) ∧ Sl w B .u8 A' (xs.take k) := by
  subst hl
  have h2 : ∀ W, (Instr.slice 22 (.slice A xs.length c) none (some (.int .i64 (k : Int))) none).run Try.prog W = .ok (.slice (if c = 0 then A else A.map (·.add (0 * 1))) k c) W := fun W => by
    rw [run_slice_h W 22 A xs.length c elem_under .i64 k (by omega) (by omega), elem_size]
    simp [sliced]
  refine ⟨if c = 0 then A else A.map (·.add (0 * 1)), fun W => by rw [run_sliceAt_slice W 22 _ _ _ _ elem_under]; exact h2 W, h2, ?_⟩
  have := (h.at_add c 0 (Nat.zero_le _) hc)
  rw [List.drop_zero] at this
  exact this.take k

/-- What 's[l:h]' is. -/
theorem part_run {w : World} {B : Nat} {A : Option Addr} {xs : List Int} (h : Sl w B .u8 A xs) (c i j : Nat) (a b : Int) (ha : a = (i : Int)) (hb : b = (j : Int)) (hij : i ≤ j) (hj : j ≤ xs.length) (hc : xs.length ≤ c) :
    ∃ A', (∀ W, (Instr.sliceAt 22 (.slice A xs.length c) (some (.int .i64 a)) (some (.int .i64 b)) none).run Try.prog W = .ok (.slice A' (j - i) (c - i)) W) ∧
      (∀ W, (Instr.slice 22 (.slice A xs.length c) (some (.int .i64 a)) (some (.int .i64 b)) none).run Try.prog W = .ok (.slice A' (j - i) (c - i)) W) ∧ Sl w B .u8 A' ((xs.drop i).take (j - i)) := by
  subst ha hb
  have h2 : ∀ W, (Instr.slice 22 (.slice A xs.length c) (some (.int .i64 (i : Int))) (some (.int .i64 (j : Int))) none).run Try.prog W = .ok (.slice (if c = i then A else A.map (·.add (i * 1))) (j - i) (c - i)) W := fun W => by
    rw [run_slice_lh W 22 A xs.length c elem_under .i64 .i64 i j (by omega) (by omega) (by omega), elem_size]
    simp [sliced]
  exact ⟨_, fun W => by rw [run_sliceAt_slice W 22 _ _ _ _ elem_under]; exact h2 W, h2, (h.at_add c i (by omega) hc).take (j - i)⟩

/-- A record in a block of the call's own. -/
def Rbox (w : World) (B : Nat) (k : Int) (A : Option Addr) (n c : Nat) : Prop := w.cell? ⟨B, 0, none⟩ = some (.int .i64 k) ∧ w.cell? ⟨B, 1, none⟩ = some (.slice A n c) ∧ B < w.heap.size
theorem rbox_new (w : World) (k : Int) (A : Option Addr) (n c : Nat) : Rbox (w.alloc (.cells #[.int .i64 k, .slice A n c] 24)) w.heap.size k A n c := ⟨by simp, by simp, by simp⟩
theorem rbox_on {w w' : World} {B : Nat} {k : Int} {A : Option Addr} {n c : Nat} (h : Rbox w B k A n c) (hb : Below w.heap.size w w') : Rbox w' B k A n c :=
  ⟨(hb.cell (p := ⟨B, 0, none⟩) h.2.2).trans h.1, (hb.cell (p := ⟨B, 1, none⟩) h.2.2).trans h.2.1, Nat.lt_of_lt_of_le h.2.2 hb.size⟩

theorem pu_cases {k : Int} {xs : List Int} {r : List Int × Int} (hr : pu k xs = r) : (0 ≤ k ∧ k ≤ 1048576 ∧ xs.length ≤ 1024 ∧ r = (rb k xs, 0)) ∨ ∃ e, e ≠ 0 ∧ r = ([], e) := by
  subst hr
  by_cases h : k < 0 ∨ 1048576 < k
  · rw [pu_arg h]; exact .inr ⟨1, by decide, rfl⟩
  · by_cases hl : 1024 < xs.length
    · rw [pu_full h hl]; exact .inr ⟨7, by decide, rfl⟩
    · rw [pu_ok h hl]; exact .inl ⟨by omega, by omega, by omega, rfl⟩

theorem rb_byte {k : Int} {xs : List Int} (hx : ∀ x ∈ xs, 0 ≤ x ∧ x ≤ 255) : ∀ x ∈ rb k xs, 0 ≤ x ∧ x ≤ 255 := by
  intro x h
  rw [rb, List.mem_append, List.mem_append, List.mem_append] at h
  rcases h with h | h | h | h
  · exact vb_byte _ _ (by omega) (by omega) x h
  · exact vb_byte _ _ (by omega) (by omega) x h
  · exact su_byte (sm_bd xs).1 (sm_bd xs).2 x h
  · exact hx x h

end Go.Proofs.Ytaghbokgcpkjjaa
