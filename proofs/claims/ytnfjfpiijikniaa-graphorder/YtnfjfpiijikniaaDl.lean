/-
  slices.Delete of one part, in the words of this seat's memory. No conditions.
-/
import Derived.Test.YtnfjfpiijikniaaCo
namespace Go.Proofs.Ytnfjfpiijikniaa.Gp
open Go.RowKit Go.Shelf Go.Sort
set_option linter.unusedVariables false

/-- A value of one cell. -/
abbrev Oc := {v : Value // v.oneCell' = true}
def zo : Oc := ⟨.slice none 0 0, rfl⟩
instance : Inhabited Oc := ⟨zo⟩
theorem ir_oc {w : World} {h : Value} {p : List Nat} (hi : Ir w h p) : h.oneCell' = true := by
  obtain ⟨_, _, _, rfl, _⟩ := hi
  rfl

theorem delete_any (base g c : Nat) (A C : List (List Nat)) (p : List Nat) (w : World) (h : Pr w base (.slice (some ⟨g, 0, none⟩) (A ++ p :: C).length c) (A ++ p :: C)) :
    Calls Try.prog 33 #[.slice (some ⟨g, 0, none⟩) (A ++ p :: C).length c, .int .i64 (A.length : Int), .int .i64 ((A.length : Int) + 1)] w (fun e w' => e = .returned (.slice (some ⟨g, 0, none⟩) (A ++ C).length c) ∧ Pr w' base (.slice (some ⟨g, 0, none⟩) (A ++ C).length c) (A ++ C) ∧ Off (· = g) w w') := by
  obtain ⟨cs, hcs⟩ := h.row
  obtain ⟨hs, ho, hi⟩ := h
  have hhl : hs.length = (A ++ p :: C).length := by have := ho.1; omega
  have hoc : ∀ u, u ∈ hs → u.oneCell' = true := fun u hu => by
    obtain ⟨i, hiu⟩ := List.getElem?_of_mem hu
    have hil : i < (A ++ p :: C).length := by rw [← hhl]; exact (List.getElem?_eq_some_iff.1 hiu).1
    obtain ⟨x, h1, h2⟩ := hi i _ (List.getElem?_eq_getElem hil)
    rw [hiu] at h1
    cases h1
    exact ir_oc h2
  obtain ⟨l, hl⟩ : ∃ l : List Oc, l.map (·.1) = hs := ⟨hs.pmap (fun x h => ⟨x, h⟩) hoc, by
    apply List.ext_getElem
    · simp
    · intro i h1 h2
      simp⟩
  have hll : l.length = (A ++ p :: C).length := by rw [← hhl, ← hl]; simp
  have hll2 : l.length = A.length + 1 + C.length := by rw [hll]; simp; omega
  obtain ⟨i0, hi0, hz0, hz1, hz2⟩ := info_parts info29
  rw [← hl] at ho
  have hcap : (A ++ p :: C).length ≤ c ∧ c ≤ maxLen := by
    rcases ho.2 with ⟨h0, _⟩ | ⟨g', cap, cur, hv, _, _, h1, h2, _⟩
    · cases h0
    · simp only [Value.slice.injEq] at hv
      obtain ⟨_, _, rfl⟩ := hv
      exact ⟨h1, h2⟩
  have hcon := slices_Delete (fun x : Oc => x.1) (fun x => x.2) zo (fun w => Try.zeroValue29 w) i0 hi0 hz1 g 0 c A.length (A.length + 1) l.toArray w (holds_own ho) (by simp; omega) (by have := hcap.2; unfold maxLen at this; omega) (by omega) (by simp; omega)
  rw [show l.toArray.size = (A ++ p :: C).length by simpa using hll] at hcon
  refine hcon.mono ?_
  rintro e w' ⟨rfl, q, rfl⟩
  have e1 : (A ++ p :: C).length - (A.length + 1 - A.length) = (A ++ C).length := by simp
  obtain ⟨D, hD⟩ : ∃ D : Array Oc, (l.toArray.toList.take A.length ++ l.toArray.toList.drop (A.length + 1) ++ List.replicate (A.length + 1 - A.length) zo).toArray = D := ⟨_, rfl⟩
  have hDl : D.size = (A ++ p :: C).length := by rw [← hD]; simp; omega
  have e2 : D.toList.map (fun x : Oc => x.1) = (hs.take A.length ++ hs.drop (A.length + 1)) ++ [.slice none 0 0] := by
    rw [← hD, ← hl, Nat.add_sub_cancel_left]
    simp [zo]
  rw [hD, e1]
  have hoff : Off (· = g) w (putRow (fun x : Oc => x.1) (Sort.ahead w q) g 0 D) := by
    have := put_off (enc := fun x : Oc => x.1) (w := w) (g := g) (k := q) (os := #[]) D
    rwa [grow_empty] at this
  have hput := put_own (enc := fun x : Oc => x.1) (k := q) (os := #[]) ho D hDl
  rw [grow_empty, e2, show (A ++ p :: C).length = (A ++ C).length + 1 by simp; omega] at hput
  have hu : Ut 3 w (putRow (fun x : Oc => x.1) (Sort.ahead w q) g 0 D) := Ut.of_off hoff hcs (by decide)
  refine ⟨rfl, ?_, hoff⟩
  refine ⟨hs.take A.length ++ hs.drop (A.length + 1), own_cut hput, fun i r hr => ?_⟩
  rcases Nat.lt_or_ge i A.length with hlt | hge
  · rw [List.getElem?_append_left hlt] at hr
    obtain ⟨x, h1, h2⟩ := hi i r (by rw [List.getElem?_append_left hlt]; exact hr)
    refine ⟨x, ?_, h2.ut hu⟩
    rw [List.getElem?_append_left (by rw [List.length_take]; omega), List.getElem?_take_of_lt hlt]
    exact h1
  · rw [List.getElem?_append_right hge] at hr
    obtain ⟨x, h1, h2⟩ := hi (i + 1) r (by rw [List.getElem?_append_right (by omega), show i + 1 - A.length = (i - A.length) + 1 by omega, List.getElem?_cons_succ]; exact hr)
    refine ⟨x, ?_, h2.ut hu⟩
    rw [List.getElem?_append_right (by rw [List.length_take]; omega), List.length_take, List.getElem?_drop]
    rw [show A.length + 1 + (i - min A.length hs.length) = i + 1 by simp at hhl; omega]
    exact h1

end Go.Proofs.Ytnfjfpiijikniaa.Gp
