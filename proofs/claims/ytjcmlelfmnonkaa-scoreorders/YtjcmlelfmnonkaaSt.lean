/-
  The plain theory of a stable sort by merging in place: rows as functions, what keeps the order of those that are just as great, rotations, runs. No program's function is walked here. No conditions.
-/
import Derived.Sort.Defs
import Derived.Sort.Row
namespace Go.Proofs.Ytjcmlelfmnonkaa.St
set_option linter.unusedVariables false

/-- The part of a row from a to b as a list. -/
def rl (f : Nat → Nat) (a b : Nat) : List Nat := (List.range' a (b - a)).map f
theorem rl_split {f : Nat → Nat} {a m b : Nat} (h1 : a ≤ m) (h2 : m ≤ b) : rl f a b = rl f a m ++ rl f m b := by
  unfold rl
  rw [← List.map_append]
  congr 1
  have h := List.range'_append_1 (s := a) (m := m - a) (n := b - m)
  rw [show a + (m - a) = m by omega, show m - a + (b - m) = b - a by omega] at h
  exact h.symm
theorem rl_len (f : Nat → Nat) (a b : Nat) : (rl f a b).length = b - a := by simp [rl]
theorem rl_eq {f g : Nat → Nat} {a b a' b' : Nat} (hl : b - a = b' - a') (h : ∀ i, i < b - a → f (a + i) = g (a' + i)) : rl f a b = rl g a' b' := by
  refine List.ext_getElem (by rw [rl_len, rl_len, hl]) fun i h1 h2 => ?_
  rw [rl_len] at h1
  simp only [rl, List.getElem_map, List.getElem_range', Nat.one_mul]
  exact h i h1
theorem mem_rl {f : Nat → Nat} {a b x : Nat} : x ∈ rl f a b ↔ ∃ i, a ≤ i ∧ i < b ∧ f i = x := by
  simp only [rl, List.mem_map, List.mem_range'_1]
  constructor
  · rintro ⟨i, ⟨h1, h2⟩, h3⟩; exact ⟨i, h1, by omega, h3⟩
  · rintro ⟨i, h1, h2, h3⟩; exact ⟨i, ⟨h1, by omega⟩, h3⟩

section
variable (k : Nat → Nat)
/-- g is f between a and b in another order, in which those that are just as great stand as they stood. -/
def Same (f g : Nat → Nat) (a b : Nat) : Prop := (∀ i, i < a ∨ b ≤ i → g i = f i) ∧ ∀ r, (rl g a b).filter (fun x => k x == r) = (rl f a b).filter (fun x => k x == r)
/-- In order between a and b. -/
def So (f : Nat → Nat) (a b : Nat) : Prop := ∀ i j, a ≤ i → i ≤ j → j < b → k (f i) ≤ k (f j)
end
variable {k : Nat → Nat} {f g h : Nat → Nat} {a b : Nat}
theorem Same.refl (f : Nat → Nat) (a b : Nat) : Same k f f a b := ⟨fun _ _ => rfl, fun _ => rfl⟩
theorem Same.trans (h1 : Same k f g a b) (h2 : Same k g h a b) : Same k f h a b := ⟨fun i hi => (h2.1 i hi).trans (h1.1 i hi), fun r => (h2.2 r).trans (h1.2 r)⟩
theorem Same.wide {a' b' : Nat} (h1 : Same k f g a b) (ha : a' ≤ a) (hab : a ≤ b) (hb : b ≤ b') : Same k f g a' b' := by
  refine ⟨fun i hi => h1.1 i (by omega), fun r => ?_⟩
  rw [rl_split (f := g) (show a' ≤ a from ha) (show a ≤ b' by omega), rl_split (f := g) hab hb, rl_split (f := f) (show a' ≤ a from ha) (show a ≤ b' by omega), rl_split (f := f) hab hb]
  rw [List.filter_append, List.filter_append, List.filter_append, List.filter_append, h1.2 r]
  rw [rl_eq (f := g) (g := f) (a := a') (b := a) rfl (fun i hi => h1.1 _ (by omega)), rl_eq (f := g) (g := f) (a := b) (b := b') rfl (fun i hi => h1.1 _ (by omega))]
theorem Same.mem (h1 : Same k f g a b) {i : Nat} (hi : a ≤ i) (hib : i < b) : ∃ j, a ≤ j ∧ j < b ∧ g i = f j := by
  have m1 : g i ∈ (rl g a b).filter (fun x => k x == k (g i)) := List.mem_filter.2 ⟨mem_rl.2 ⟨i, hi, hib, rfl⟩, by simp⟩
  rw [h1.2] at m1
  obtain ⟨j, h2, h3, h4⟩ := mem_rl.1 (List.mem_filter.1 m1).1
  exact ⟨j, h2, h3, h4.symm⟩

/-- g is f with the parts from s to m and from m to e changed round. -/
structure Rot (f g : Nat → Nat) (s m e : Nat) : Prop where
  out : ∀ i, i < s ∨ e ≤ i → g i = f i
  lo : ∀ i, i < e - m → g (s + i) = f (m + i)
  hi : ∀ i, i < m - s → g (s + (e - m) + i) = f (s + i)
theorem Rot.same {s m e : Nat} (r : Rot f g s m e) (h1 : s ≤ m) (h2 : m ≤ e) (hlt : ∀ i j, s ≤ i → i < m → m ≤ j → j < e → k (f j) < k (f i)) : Same k f g s e := by
  refine ⟨r.out, fun q => ?_⟩
  rw [rl_split (f := g) (show s ≤ s + (e - m) by omega) (show s + (e - m) ≤ e by omega), rl_split (f := f) h1 h2]
  rw [rl_eq (f := g) (g := f) (a := s) (b := s + (e - m)) (a' := m) (b' := e) (by omega) (fun i hi => r.lo i (by omega)), rl_eq (f := g) (g := f) (a := s + (e - m)) (b := e) (a' := s) (b' := m) (by omega) (fun i hi => r.hi i (by omega))]
  rw [List.filter_append, List.filter_append]
  by_cases hx : ∃ i, s ≤ i ∧ i < m ∧ k (f i) = q
  · obtain ⟨i, i1, i2, i3⟩ := hx
    have e0 : (rl f m e).filter (fun x => k x == q) = [] := by
      rw [List.filter_eq_nil_iff]
      intro x hx
      obtain ⟨j, j1, j2, rfl⟩ := mem_rl.1 hx
      have := hlt i j i1 i2 j1 j2
      simp only [beq_iff_eq]
      omega
    rw [e0, List.append_nil, List.nil_append]
  · have e0 : (rl f s m).filter (fun x => k x == q) = [] := by
      rw [List.filter_eq_nil_iff]
      intro x hx'
      obtain ⟨j, j1, j2, rfl⟩ := mem_rl.1 hx'
      simp only [beq_iff_eq]
      exact fun h => hx ⟨j, j1, j2, h⟩
    rw [e0, List.append_nil, List.nil_append]
theorem So.join {m : Nat} (h1 : So k f a m) (h2 : So k f m b) (hc : ∀ i j, a ≤ i → i < m → m ≤ j → j < b → k (f i) ≤ k (f j)) : So k f a b := fun i j hi hij hj => by
  rcases Nat.lt_or_ge j m with c | c
  · exact h1 i j hi hij c
  · rcases Nat.lt_or_ge i m with d | d
    · exact hc i j hi d c hj
    · exact h2 i j d hij hj
theorem So.same_out {c d : Nat} (h1 : So k f c d) (hs : Same k f g a b) (ho : d ≤ a ∨ b ≤ c) : So k g c d := fun i j hi hij hj => by
  rw [hs.1 i (by omega), hs.1 j (by omega)]
  exact h1 i j hi hij hj

/-- What a rotation leaves of two runs: four of them. -/
theorem Rot.runs {s m e : Nat} (r : Rot f g s m e) (ha : a ≤ s) (h1 : s ≤ m) (h2 : m ≤ e) (hb : e ≤ b) (o1 : So k f a m) (o2 : So k f m b) :
    So k g a s ∧ So k g s (s + (e - m)) ∧ So k g (s + (e - m)) e ∧ So k g e b := by
  refine ⟨fun i j hi hij hj => ?_, fun i j hi hij hj => ?_, fun i j hi hij hj => ?_, fun i j hi hij hj => ?_⟩
  · rw [r.out i (by omega), r.out j (by omega)]; exact o1 i j hi hij (by omega)
  · have e1 := r.lo (i - s) (by omega)
    have e2 := r.lo (j - s) (by omega)
    rw [show s + (i - s) = i by omega] at e1
    rw [show s + (j - s) = j by omega] at e2
    rw [e1, e2]; exact o2 _ _ (by omega) (by omega) (by omega)
  · have e1 := r.hi (i - (s + (e - m))) (by omega)
    have e2 := r.hi (j - (s + (e - m))) (by omega)
    rw [show s + (e - m) + (i - (s + (e - m))) = i by omega] at e1
    rw [show s + (e - m) + (j - (s + (e - m))) = j by omega] at e2
    rw [e1, e2]; exact o1 _ _ (by omega) (by omega) (by omega)
  · rw [r.out i (by omega), r.out j (by omega)]; exact o2 i j (by omega) hij hj
/-- .. and all of the lower two are not above the upper two. -/
theorem Rot.cross {s m e : Nat} (r : Rot f g s m e) (ha : a ≤ s) (h1 : s ≤ m) (h2 : m ≤ e) (hb : e ≤ b) (o1 : So k f a m) (o2 : So k f m b)
    (hlt : ∀ i j, s ≤ i → i < m → m ≤ j → j < e → k (f j) < k (f i)) (hle : ∀ i j, a ≤ i → i < s → e ≤ j → j < b → k (f i) ≤ k (f j)) (hle2 : ∀ i j, s ≤ i → i < m → e ≤ j → j < b → True) :
    ∀ i j, a ≤ i → i < s + (e - m) → s + (e - m) ≤ j → j < b → k (g i) ≤ k (g j) := by
  intro i j i1 i2 j1 j2
  have lo : ∃ i', (a ≤ i' ∧ i' < s ∨ m ≤ i' ∧ i' < e) ∧ g i = f i' := by
    rcases Nat.lt_or_ge i s with c | c
    · exact ⟨i, Or.inl ⟨i1, c⟩, r.out i (by omega)⟩
    · have e1 := r.lo (i - s) (by omega)
      rw [show s + (i - s) = i by omega] at e1
      exact ⟨m + (i - s), Or.inr ⟨by omega, by omega⟩, e1⟩
  have hi : ∃ j', (s ≤ j' ∧ j' < m ∨ e ≤ j' ∧ j' < b) ∧ g j = f j' := by
    rcases Nat.lt_or_ge j e with c | c
    · have e1 := r.hi (j - (s + (e - m))) (by omega)
      rw [show s + (e - m) + (j - (s + (e - m))) = j by omega] at e1
      exact ⟨s + (j - (s + (e - m))), Or.inl ⟨by omega, by omega⟩, e1⟩
    · exact ⟨j, Or.inr ⟨c, j2⟩, r.out j (by omega)⟩
  obtain ⟨i', hi', ei⟩ := lo
  obtain ⟨j', hj', ej⟩ := hi
  rw [ei, ej]
  rcases hi' with ⟨x1, x2⟩ | ⟨x1, x2⟩ <;> rcases hj' with ⟨y1, y2⟩ | ⟨y1, y2⟩
  · exact o1 i' j' x1 (by omega) y2
  · exact hle i' j' x1 x2 y1 y2
  · exact Nat.le_of_lt (hlt j' i' y1 y2 x1 x2)
  · exact o2 i' j' x1 (by omega) y2
/-- Two halves, each put in order by itself. -/
theorem halves {c : Nat} {g1 g2 : Nat → Nat} (ha : a ≤ c) (hb : c ≤ b) (hc : ∀ i j, a ≤ i → i < c → c ≤ j → j < b → k (g i) ≤ k (g j))
    (s1 : Same k g g1 a c) (o1 : So k g1 a c) (s2 : Same k g1 g2 c b) (o2 : So k g2 c b) : Same k g g2 a b ∧ So k g2 a b := by
  refine ⟨(s1.wide (Nat.le_refl _) ha hb).trans (s2.wide ha hb (Nat.le_refl _)), (o1.same_out s2 (Or.inl (Nat.le_refl _))).join o2 fun i j i1 i2 j1 j2 => ?_⟩
  rw [s2.1 i (by omega)]
  obtain ⟨i', x1, x2, x3⟩ := s1.mem i1 i2
  obtain ⟨j', y1, y2, y3⟩ := s2.mem j1 j2
  rw [x3, y3, s1.1 j' (by omega)]
  exact hc i' j' x1 x2 y1 y2

/-- A part of a row changed with another one. -/
def sw (f : Nat → Nat) (a b n : Nat) : Nat → Nat := fun x => if a ≤ x ∧ x < a + n then f (b + (x - a)) else if b ≤ x ∧ x < b + n then f (a + (x - b)) else f x
theorem sw_one {x y n : Nat} (h : x + n < y + (n + 1)) (hxy : x + (n + 1) ≤ y) : sw f x y (n + 1) = fun z => if z = y + n then sw f x y n (x + n) else if z = x + n then sw f x y n (y + n) else sw f x y n z := by
  funext z
  unfold sw
  by_cases z1 : z = y + n
  · subst z1
    rw [if_neg (by omega), if_pos (by omega), if_pos rfl, if_neg (by omega), if_neg (by omega)]
    congr 1; omega
  · rw [if_neg z1]
    by_cases z2 : z = x + n
    · subst z2
      rw [if_pos (by omega), if_pos rfl, if_neg (by omega), if_neg (by omega)]
      congr 1; omega
    · rw [if_neg z2]
      by_cases z3 : x ≤ z ∧ z < x + n
      · rw [if_pos (by omega), if_pos z3]
      · rw [if_neg (by omega), if_neg z3]
        by_cases z4 : y ≤ z ∧ z < y + n
        · rw [if_pos (by omega), if_pos z4]
        · rw [if_neg (by omega), if_neg z4]
theorem rot_end {m i : Nat} (hi : i ≤ m) : Rot f (sw f (m - i) m i) (m - i) m (m + i) := by
  refine ⟨fun x hx => ?_, fun x hx => ?_, fun x hx => ?_⟩
  · unfold sw; rw [if_neg (by omega), if_neg (by omega)]
  · unfold sw; rw [if_pos (by omega)]; congr 1; omega
  · unfold sw; rw [if_neg (by omega), if_pos (by omega)]; congr 1; omega
theorem rot_left {m i j : Nat} (hi : i ≤ m) (hji : j < i) (r : Rot (sw f (m - i) m j) g (m - (i - j)) m (m + j)) : Rot f g (m - i) m (m + j) := by
  refine ⟨fun x hx => ?_, fun x hx => ?_, fun x hx => ?_⟩
  · rw [r.out x (by omega)]; unfold sw; rw [if_neg (by omega), if_neg (by omega)]
  · rw [r.out _ (by omega)]; unfold sw; rw [if_pos (by omega)]; congr 1; omega
  · by_cases c : x < j
    · have e1 := r.lo x (by omega)
      rw [show m - i + (m + j - m) + x = m - (i - j) + x by omega, e1]
      unfold sw; rw [if_neg (by omega), if_pos (by omega)]; congr 1; omega
    · have e1 := r.hi (x - j) (by omega)
      rw [show m - i + (m + j - m) + x = m - (i - j) + (m + j - m) + (x - j) by omega, e1]
      unfold sw; rw [if_neg (by omega), if_neg (by omega)]; congr 1; omega
theorem rot_right {m i j : Nat} (hi : i ≤ m) (hij : i < j) (r : Rot (sw f (m - i) (m + j - i) i) g (m - i) m (m + (j - i))) : Rot f g (m - i) m (m + j) := by
  refine ⟨fun x hx => ?_, fun x hx => ?_, fun x hx => ?_⟩
  · rw [r.out x (by omega)]; unfold sw; rw [if_neg (by omega), if_neg (by omega)]
  · by_cases c : x < j - i
    · have e1 := r.lo x (by omega)
      rw [e1]
      unfold sw; rw [if_neg (by omega), if_neg (by omega)]
    · have e1 := r.hi (x - (j - i)) (by omega)
      rw [show m - i + x = m - i + (m + (j - i) - m) + (x - (j - i)) by omega, e1]
      unfold sw; rw [if_pos (by omega)]; congr 1; omega
  · rw [r.out _ (by omega)]
    unfold sw; rw [if_neg (by omega), if_pos (by omega)]; congr 1; omega
/-- One thing moved up to e, or down to s, by steps. -/
theorem rot_up {s e : Nat} (h : s < e) (hg : ∀ x, g x = if s ≤ x ∧ x + 1 < e then f (x + 1) else if x + 1 = e then f s else f x) : Rot f g s (s + 1) e := by
  refine ⟨fun x hx => ?_, fun x hx => ?_, fun x hx => ?_⟩
  · rw [hg, if_neg (by omega), if_neg (by omega)]
  · rw [hg, if_pos (by omega)]; congr 1; omega
  · rw [hg, if_neg (by omega), if_pos (by omega)]; congr 1; omega
theorem rot_down {s m : Nat} (h : s ≤ m) (hg : ∀ x, g x = if s < x ∧ x ≤ m then f (x - 1) else if x = s then f m else f x) : Rot f g s m (m + 1) := by
  refine ⟨fun x hx => ?_, fun x hx => ?_, fun x hx => ?_⟩
  · rw [hg, if_neg (by omega), if_neg (by omega)]
  · rw [hg]
    by_cases c : s + x = s
    · rw [if_neg (by omega), if_pos c]; congr 1; omega
    · omega
  · rw [hg, if_pos (by omega)]; congr 1; omega
end Go.Proofs.Ytjcmlelfmnonkaa.St
