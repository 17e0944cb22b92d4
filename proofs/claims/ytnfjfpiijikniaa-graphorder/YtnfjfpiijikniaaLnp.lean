/-
  The line and the ring of things: in what order their components are told. No program's function is walked here. No conditions.
-/
import Derived.Test.YtnfjfpiijikniaaLpa
namespace Go.Proofs.Ytnfjfpiijikniaa.Gp
set_option linter.unusedVariables false

/-- Each waits for the next one. -/
def ln (k : Nat) : List (Int × Int) := (List.range k).map fun (i : Nat) => ((i : Int), (i : Int) + 1)
theorem ln_succ (k : Nat) : ln (k + 1) = ln k ++ [((k : Int), (k : Int) + 1)] := by simp [ln, List.range_succ]
theorem ln_len (k : Nat) : (ln k).length = k := by simp [ln]
theorem mem_ln {k a b : Nat} : ((a : Int), (b : Int)) ∈ ln k ↔ a < k ∧ b = a + 1 := by
  unfold ln
  simp only [List.mem_map, List.mem_range, Prod.mk.injEq]
  constructor
  · rintro ⟨i, hi, h1, h2⟩
    omega
  · rintro ⟨h1, h2⟩
    exact ⟨a, h1, rfl, by omega⟩
/-- The things from the last one down. -/
def dn : Nat → List (List Nat)
  | 0 => []
  | k + 1 => [k] :: dn k
theorem dn_len (k : Nat) : (dn k).length = k := by induction k with | zero => rfl | succ k ih => simp [dn, ih]
theorem dn_get : ∀ (m i : Nat), i < m → (dn m)[i]? = some [m - 1 - i]
  | 0, i, h => by omega
  | m + 1, 0, h => by simp [dn]
  | m + 1, i + 1, h => by
    rw [dn, List.getElem?_cons_succ, dn_get m i (by omega)]
    congr 2
    omega

section
variable {E : Nat → Nat → Prop} {m : Nat}
theorem up_only (h : ∀ a b, E a b → b = a + 1) {a b : Nat} (r : Rt E a b) : a ≤ b := r.stays (a ≤ ·) (Nat.le_refl _) fun x y hx e => by have := h x y e; omega
theorem up_to (h : ∀ a, a + 1 < m → E a (a + 1)) {a : Nat} : ∀ d, a + d < m → Rt E a (a + d)
  | 0, _ => .refl
  | d + 1, hd => (up_to h d (by omega)).step (h (a + d) (by omega))
theorem line_out (h1 : ∀ a b, E a b → b = a + 1) (h2 : ∀ a, a + 1 < m → E a (a + 1)) : ∀ k, k ≤ m → Out E m (fun x => k ≤ x) (dn k)
  | 0, _ => .done fun k _ => Nat.zero_le _
  | k + 1, hk => by
    have hc : cmp E m k = [k] := by
      refine rises_same (cmp_rises k) (by simp) fun x => ?_
      rw [mem_cmp]
      constructor
      · rintro ⟨a, b, c⟩
        have := up_only h1 b
        have := up_only h1 c
        have : x = k := by omega
        simp [this]
      · intro hx
        obtain rfl : x = k := by simpa using hx
        exact ⟨by omega, .refl, .refl⟩
    refine step_as hc ⟨by omega, by omega, fun j hj r => ?_, fun j hj hn hf => ?_⟩ (line_out h1 h2 k (by omega)) fun x hx => ?_
    · have := up_only h1 r
      rcases Nat.lt_or_ge k j with h | h
      · exact .inr h
      · obtain rfl : k = j := by omega
        exact .inl .refl
    · have hr : Rt E j k := by
        have := up_to h2 (a := j) (k - j) (by omega)
        rwa [show j + (k - j) = k by omega] at this
      rcases hf k (by omega) hr with r | t
      · have := up_only h1 r
        omega
      · omega
    · simp
      omega
theorem ring_out (hm : 0 < m) (h2 : ∀ a, a + 1 < m → E a (a + 1)) (h3 : E (m - 1) 0) : Out E m (fun _ => False) [List.range m] := by
  have all : ∀ a b, a < m → b < m → Rt E a b := fun a b ha hb => by
    have u : ∀ a b, a ≤ b → b < m → Rt E a b := fun a b h hb => by
      have := up_to h2 (a := a) (b - a) (by omega)
      rwa [show a + (b - a) = b by omega] at this
    exact ((u a (m - 1) (by omega) (by omega)).step h3).trans (u 0 b (by omega) hb)
  have hc : cmp E m 0 = List.range m := rises_same (cmp_rises 0) (range_lt m) fun x => by
    rw [mem_cmp, List.mem_range]
    exact ⟨fun h => h.1, fun h => ⟨h, all 0 x hm h, all x 0 h hm⟩⟩
  have := Out.step (E := E) (m := m) (T := fun _ => False) (k := 0) (r := []) ⟨hm, fun f => f, fun j hj r => .inl (all j 0 hj hm), fun j hj => by omega⟩ (.done fun k hk => .inr (by rw [hc]; exact List.mem_range.2 hk))
  rwa [hc] at this
end
theorem line_ed (m : Nat) (hm : 0 < m) : Out (Ed m (ln (m - 1))) m (fun _ => False) (dn m) := by
  have := line_out (E := Ed m (ln (m - 1))) (m := m) (fun a b h => (mem_ln.1 h.2.2).2) (fun a h => ⟨by omega, h, mem_ln.2 ⟨by omega, rfl⟩⟩) m (Nat.le_refl _)
  exact this.congr fun x hx => ⟨fun h => by omega, fun f => f.elim⟩
theorem ring_ed (m : Nat) (hm : 0 < m) : Out (Ed m (ln (m - 1) ++ [((m : Int) - 1, 0)])) m (fun _ => False) [List.range m] :=
  ring_out hm (fun a h => ⟨by omega, h, List.mem_append_left _ (mem_ln.2 ⟨by omega, rfl⟩)⟩) ⟨by omega, hm, List.mem_append_right _ (by simp; omega)⟩

end Go.Proofs.Ytnfjfpiijikniaa.Gp
