/-
  The components in the order in which they are told: each thing stands in one of them, and what it waits for in that one or in an earlier one. No program's function is walked here. No conditions.
-/
import Derived.Test.YtnfjfpiijikniaaLpa
namespace Go.Proofs.Ytnfjfpiijikniaa.Gp
set_option linter.unusedVariables false

section
variable {E : Nat → Nat → Prop} {m : Nat}
/-- What holds of what is left to tell, T having been told. -/
structure Ot (E : Nat → Nat → Prop) (m : Nat) (T : Nat → Prop) (out : List (List Nat)) : Prop where
  new : ∀ p ∈ out, ∀ x ∈ p, x < m ∧ ¬ T x
  dis : out.Pairwise fun p q => ∀ x, x ∈ p → x ∉ q
  all : ∀ x, x < m → ¬ T x → ∃ p, p ∈ out ∧ x ∈ p
  ord : ∀ (i : Nat) (p : List Nat) (x y : Nat), out[i]? = some p → x ∈ p → E x y → T y ∨ ∃ (j : Nat) (q : List Nat), j ≤ i ∧ out[j]? = some q ∧ y ∈ q
theorem Out.ot (hE : ∀ x y, E x y → x < m ∧ y < m) {T : Nat → Prop} {out : List (List Nat)} (h : Out E m T out) : Cs E T → Ot E m T out := by
  induction h with
  | done h => exact fun _ => ⟨fun p hp => by simp at hp, List.Pairwise.nil, fun x hx hn => absurd (h x hx) hn, fun i p x y hp => by simp at hp⟩
  | @step T k r hl _ ih =>
    intro hc
    have hi := ih (hc.add hE hl.2.2.1)
    have hk : ∀ x, x ∈ cmp E m k → ¬ T x := fun x hx t => hl.2.1 (hc.rt t (mem_cmp.1 hx).2.2)
    refine ⟨fun p hp x hx => ?_, ?_, fun x hx hn => ?_, fun i p x y hp hx e => ?_⟩
    · rcases List.mem_cons.1 hp with rfl | hp
      · exact ⟨(mem_cmp.1 hx).1, hk x hx⟩
      · exact ⟨(hi.new p hp x hx).1, fun t => (hi.new p hp x hx).2 (.inl t)⟩
    · rw [List.pairwise_cons]
      exact ⟨fun q hq x hx hxq => (hi.new q hq x hxq).2 (.inr hx), hi.dis⟩
    · by_cases hxk : x ∈ cmp E m k
      · exact ⟨_, List.mem_cons_self, hxk⟩
      · obtain ⟨p, hp, hxp⟩ := hi.all x hx (fun h => h.elim hn hxk)
        exact ⟨p, List.mem_cons_of_mem _ hp, hxp⟩
    · rcases i with _ | i
      · simp only [List.getElem?_cons_zero, Option.some.injEq] at hp
        subst hp
        rcases (hc.add hE hl.2.2.1) x y (.inr hx) e with t | t
        · exact .inl t
        · exact .inr ⟨0, _, Nat.le_refl _, rfl, t⟩
      · rw [List.getElem?_cons_succ] at hp
        rcases hi.ord i p x y hp hx e with (t | t) | ⟨j, q, hj, hq, hy⟩
        · exact .inl t
        · exact .inr ⟨0, _, Nat.zero_le _, rfl, t⟩
        · exact .inr ⟨j + 1, q, by omega, by rw [List.getElem?_cons_succ]; exact hq, hy⟩
theorem Out.ot0 (hE : ∀ x y, E x y → x < m ∧ y < m) {out : List (List Nat)} (h : Out E m (fun _ => False) out) : Ot E m (fun _ => False) out := h.ot hE (fun _ _ f => f.elim)
/-- Two places at which a thing stands are one. -/
theorem Ot.place {out : List (List Nat)} {T : Nat → Prop} (h : Ot E m T out) {i j x : Nat} {p q : List Nat} (hi : out[i]? = some p) (hj : out[j]? = some q) (hp : x ∈ p) (hq : x ∈ q) : i = j := by
  obtain ⟨hil, rfl⟩ := List.getElem?_eq_some_iff.1 hi
  obtain ⟨hjl, rfl⟩ := List.getElem?_eq_some_iff.1 hj
  rcases Nat.lt_trichotomy i j with hlt | rfl | hlt
  · exact absurd hq (List.pairwise_iff_getElem.1 h.dis i j hil hjl hlt x hp)
  · rfl
  · exact absurd hp (List.pairwise_iff_getElem.1 h.dis j i hjl hil hlt x hq)
theorem Out.many (hE : ∀ x y, E x y → x < m ∧ y < m) {out : List (List Nat)} (h : Out E m (fun _ => False) out) : out.flatten.length = m := by
  have ho := h.ot0 hE
  have hn : out.flatten.Nodup := by
    rw [List.Nodup, List.pairwise_flatten]
    refine ⟨fun p hp => ?_, ho.dis.imp fun k => ?_⟩
    · obtain ⟨k, _, rfl⟩ := h.isc p hp
      exact rises_nodup (cmp_rises k)
    · exact fun x hx y hy e => k x hx (e ▸ hy)
  have := len_same (c := List.range m) hn (rises_nodup (range_lt m)) fun x => by
    rw [List.mem_flatten, List.mem_range]
    constructor
    · rintro ⟨p, hp, hx⟩
      exact (ho.new p hp x hx).1
    · intro hx
      exact ho.all x hx (fun f => f)
  simpa using this
end
/-- How many stand in the first k parts. -/
def cn (out : List (List Nat)) (k : Nat) : Nat := (out.take k).flatten.length
theorem cn_zero (out : List (List Nat)) : cn out 0 = 0 := by simp [cn]
theorem cn_succ (out : List (List Nat)) (k : Nat) (h : k < out.length) : cn out (k + 1) = cn out k + out[k].length := by
  unfold cn
  rw [List.take_succ_eq_append_getElem h, List.flatten_append, List.length_append]
  simp
theorem cn_all (out : List (List Nat)) : cn out out.length = out.flatten.length := by unfold cn; rw [List.take_length]
theorem cn_le (out : List (List Nat)) (k : Nat) : cn out k ≤ out.flatten.length := by
  have : out.flatten = (out.take k).flatten ++ (out.drop k).flatten := by rw [← List.flatten_append, List.take_append_drop]
  rw [this, List.length_append]
  exact Nat.le_add_right _ _

end Go.Proofs.Ytnfjfpiijikniaa.Gp
