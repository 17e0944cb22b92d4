/-
  Ballots as numbers: which one is above which, the greatest of some, how two compare, the next one, which may be. No program's function is walked here. No conditions.
-/
import Derived.WalkKit
namespace Go.Proofs.Ytgmfjoegfbaebaa.Ba

/-- (x, y) is above (u, v). -/
def ab (x y u v : Int) : Bool := decide (u < x ∨ (x = u ∧ v < y))
theorem ab_iff {x y u v : Int} : ab x y u v = true ↔ u < x ∨ (x = u ∧ v < y) := by simp [ab]
theorem ab_not {x y u v : Int} : ab x y u v = false ↔ ¬ (u < x ∨ (x = u ∧ v < y)) := by simp [ab]
/-- The greater one of two; the first one if they are the same. -/
def gr (m b : Int × Int) : Int × Int := if ab b.1 b.2 m.1 m.2 = true then b else m
/-- The greatest one of some. -/
def mo (a : Int × Int) (l : List (Int × Int)) : Int × Int := l.foldl gr a
def ms : List (Int × Int) → Int × Int
  | [] => (0, 0)
  | a :: l => mo a l
theorem mo_take (a : Int × Int) (l : List (Int × Int)) (k : Nat) (h : k < l.length) : mo a (l.take (k + 1)) = gr (mo a (l.take k)) l[k] := by
  unfold mo
  rw [List.take_succ_eq_append_getElem h, List.foldl_append]
  rfl

/-- How two compare. -/
def cm (x y u v : Int) : Int := if x = u ∧ y = v then 0 else if ab x y u v = true then 1 else -1
theorem cm_eq (x y : Int) : cm x y x y = 0 := by simp [cm]
theorem cm_zero {x y u v : Int} : cm x y u v = 0 ↔ x = u ∧ y = v := by
  unfold cm
  by_cases h : x = u ∧ y = v
  · rw [if_pos h]; exact ⟨fun _ => h, fun _ => rfl⟩
  · rw [if_neg h]
    refine ⟨fun e => ?_, fun k => absurd k h⟩
    split at e <;> omega
theorem cm_one {x y u v : Int} : cm x y u v = 1 ↔ u < x ∨ (x = u ∧ v < y) := by
  unfold cm
  by_cases h : x = u ∧ y = v
  · rw [if_pos h]; exact ⟨fun e => by omega, fun k => by omega⟩
  · rw [if_neg h]
    by_cases k : ab x y u v = true
    · rw [if_pos k]; exact ⟨fun _ => ab_iff.1 k, fun _ => rfl⟩
    · rw [if_neg k]; exact ⟨fun e => by omega, fun e => absurd (ab_iff.2 e) k⟩
theorem cm_less {x y u v : Int} : cm x y u v = -1 ↔ x < u ∨ (x = u ∧ y < v) := by
  unfold cm
  by_cases h : x = u ∧ y = v
  · rw [if_pos h]; exact ⟨fun e => by omega, fun k => by omega⟩
  · rw [if_neg h]
    by_cases k : ab x y u v = true
    · rw [if_pos k]; exact ⟨fun e => by omega, fun e => by have := ab_iff.1 k; omega⟩
    · rw [if_neg k]; exact ⟨fun _ => by have : ¬ _ := fun e => k (ab_iff.2 e); omega, fun _ => rfl⟩
theorem cm_cases (x y u v : Int) : (cm x y u v = 0 ∧ x = u ∧ y = v) ∨ (cm x y u v = 1 ∧ (u < x ∨ (x = u ∧ v < y))) ∨ (cm x y u v = -1 ∧ (x < u ∨ (x = u ∧ y < v))) := by
  by_cases h0 : x = u ∧ y = v
  · exact .inl ⟨cm_zero.2 h0, h0⟩
  · by_cases h1 : u < x ∨ (x = u ∧ v < y)
    · exact .inr (.inl ⟨cm_one.2 h1, h1⟩)
    · have h2 : x < u ∨ (x = u ∧ y < v) := by omega
      exact .inr (.inr ⟨cm_less.2 h2, h2⟩)

/-- What is greatest is above, or the same as, each one; and is one of them. -/
def le (a b : Int × Int) : Prop := a.1 < b.1 ∨ (a.1 = b.1 ∧ a.2 ≤ b.2)
theorem le_refl (a : Int × Int) : le a a := .inr ⟨rfl, Int.le_refl _⟩
theorem le_trans {a b c : Int × Int} (h : le a b) (k : le b c) : le a c := by unfold le at *; omega
theorem le_gr (m b : Int × Int) : le m (gr m b) ∧ le b (gr m b) := by
  unfold gr
  split
  · rename_i h
    rw [ab_iff] at h
    exact ⟨by unfold le; omega, le_refl _⟩
  · rename_i h
    rw [ab_iff] at h
    exact ⟨le_refl _, by unfold le; omega⟩
theorem le_mo (l : List (Int × Int)) : ∀ a, le a (mo a l) ∧ ∀ b ∈ l, le b (mo a l) := by
  induction l with
  | nil => exact fun a => ⟨le_refl _, fun b hb => by simp at hb⟩
  | cons c l ih =>
    intro a
    obtain ⟨h1, h2⟩ := ih (gr a c)
    have e : mo a (c :: l) = mo (gr a c) l := rfl
    rw [e]
    refine ⟨le_trans (le_gr a c).1 h1, fun b hb => ?_⟩
    rcases List.mem_cons.1 hb with rfl | hb
    · exact le_trans (le_gr a b).2 h1
    · exact h2 b hb
theorem mem_mo (l : List (Int × Int)) : ∀ a, mo a l = a ∨ mo a l ∈ l := by
  induction l with
  | nil => exact fun a => .inl rfl
  | cons c l ih =>
    intro a
    have e : mo a (c :: l) = mo (gr a c) l := rfl
    rw [e]
    rcases ih (gr a c) with h | h
    · rw [h]
      unfold gr
      split
      · exact .inr (by simp)
      · exact .inl rfl
    · exact .inr (List.mem_cons_of_mem _ h)
theorem le_ms {l : List (Int × Int)} {b : Int × Int} (h : b ∈ l) : le b (ms l) := by
  cases l with
  | nil => simp at h
  | cons a l =>
    rcases List.mem_cons.1 h with rfl | h
    · exact (le_mo l b).1
    · exact (le_mo l a).2 b h
theorem mem_ms {l : List (Int × Int)} (h : 0 < l.length) : ms l ∈ l := by
  cases l with
  | nil => simp at h
  | cons a l =>
    rcases mem_mo l a with h | h
    · show mo a l ∈ _; rw [h]; simp
    · exact List.mem_cons_of_mem _ h
theorem cm_le {x y u v : Int} (h : le (x, y) (u, v)) : cm x y u v ≤ 0 := by
  unfold le at h
  rcases cm_cases x y u v with ⟨e, _⟩ | ⟨_, h'⟩ | ⟨e, _⟩
  · omega
  · simp only at h; omega
  · omega

/-- Of two, the greater one is the first one just if that is not below the other. -/
theorem ms_two (x y u v : Int) : ms [(x, y), (u, v)] = if ab u v x y = true then (u, v) else (x, y) := rfl

/-- Who may be a replica. -/
def ir (y : Int) : Bool := decide (1 ≤ y) && decide (y ≤ 7)
theorem ir_iff {y : Int} : ir y = true ↔ 1 ≤ y ∧ y ≤ 7 := by simp [ir]
theorem ir_not {y : Int} : ir y = false ↔ ¬ (1 ≤ y ∧ y ≤ 7) := by
  rw [← ir_iff]; cases ir y <;> simp
/-- Which ballot may be. -/
def my (x y : Int) : Bool := (decide (x = 0) && decide (y = 0)) || (decide (0 ≤ x) && decide (x ≤ 1073741824) && ir y)
theorem my_iff {x y : Int} : my x y = true ↔ (x = 0 ∧ y = 0) ∨ (0 ≤ x ∧ x ≤ 1073741824 ∧ 1 ≤ y ∧ y ≤ 7) := by
  simp [my, ir_iff, and_assoc]
/-- There is a next one; which it is. -/
def nb (x z : Int) : Bool := ir z && decide (0 ≤ x) && decide (x < 1073741824)
theorem nb_iff {x z : Int} : nb x z = true ↔ 1 ≤ z ∧ z ≤ 7 ∧ 0 ≤ x ∧ x < 1073741824 := by
  simp [nb, ir_iff, and_assoc]
def nn (x z : Int) : Int := if nb x z = true then x + 1 else 0
def ny (x z : Int) : Int := if nb x z = true then z else 0

end Go.Proofs.Ytgmfjoegfbaebaa.Ba
