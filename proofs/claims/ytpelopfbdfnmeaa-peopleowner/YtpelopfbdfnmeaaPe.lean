/-
  The plain theory of members (stage 15), as lists of whole numbers that rise: where one is or would be, one put in, one taken out; which channels may be. No program's function is walked here. No conditions.
-/
import Derived.Lib.Hide
namespace Go.Proofs.Ytpelopfbdfnmeaa

def usr (n : Int) : Bool := decide (1 ≤ n) && decide (n ≤ 1048576)
theorem usr_iff {n : Int} : usr n = true ↔ 1 ≤ n ∧ n ≤ 1048576 := by unfold usr; rw [Bool.and_eq_true, decide_eq_true_eq, decide_eq_true_eq]
/-- Each is above those ahead of it. -/
def rise (l : List Int) : Prop := l.Pairwise (· < ·)
theorem rise_get {l : List Int} : rise l ↔ ∀ (i j : Nat) (x y : Int), i < j → l[i]? = some x → l[j]? = some y → x < y := by
  unfold rise
  rw [List.pairwise_iff_getElem]
  constructor
  · intro h i j x y hij hx hy
    obtain ⟨hi, rfl⟩ := List.getElem?_eq_some_iff.1 hx
    obtain ⟨hj, rfl⟩ := List.getElem?_eq_some_iff.1 hy
    exact h i j hi hj hij
  · intro h i j hi hj hij
    exact h i j _ _ hij (List.getElem?_eq_getElem hi) (List.getElem?_eq_getElem hj)
/-- It is enough that each is above the one ahead of it. -/
theorem rise_next {l : List Int} (h : ∀ (i : Nat) (x y : Int), l[i]? = some x → l[i + 1]? = some y → x < y) : rise l := by
  rw [rise_get]
  intro i j x y hij
  obtain ⟨d, rfl⟩ : ∃ d, j = i + 1 + d := ⟨j - i - 1, by omega⟩
  clear hij
  induction d generalizing y with
  | zero => exact fun hx hy => h i x y hx hy
  | succ d ih =>
    intro hx hy
    have hj : i + 1 + d < l.length := by
      obtain ⟨hj, _⟩ := List.getElem?_eq_some_iff.1 hy
      omega
    have hz := List.getElem?_eq_getElem hj
    exact Int.lt_trans (ih _ hx hz) (h (i + 1 + d) _ y hz hy)
/-- How many are below n: where n is, or would be. -/
def pos (n : Int) (l : List Int) : Nat := (l.filter (fun x => decide (x < n))).length
theorem pos_le (n : Int) (l : List Int) : pos n l ≤ l.length := List.length_filter_le ..
theorem cut_pos {n : Int} : ∀ {l : List Int}, rise l → l.take (pos n l) = l.filter (fun x => decide (x < n)) ∧ l.drop (pos n l) = l.filter (fun x => !decide (x < n))
  | [], _ => ⟨rfl, rfl⟩
  | x :: l, h => by
    have hp := List.pairwise_cons.1 h
    by_cases hx : x < n
    · have ih := cut_pos (n := n) hp.2
      have e : pos n (x :: l) = pos n l + 1 := by
        unfold pos
        rw [List.filter_cons, if_pos (by simpa using hx)]
        rfl
      rw [e]
      refine ⟨?_, ?_⟩
      · rw [List.take_succ_cons, ih.1, List.filter_cons, if_pos (by simpa using hx)]
      · rw [List.drop_succ_cons, ih.2, List.filter_cons, if_neg (by simpa using hx)]
    · have hno : ∀ y ∈ x :: l, ¬ y < n := by
        intro y hy
        rcases List.mem_cons.1 hy with rfl | hy
        · exact hx
        · have := hp.1 y hy; omega
      have e1 : (x :: l).filter (fun x => decide (x < n)) = [] := by
        rw [List.filter_eq_nil_iff]
        intro y hy
        have := hno y hy
        simpa using this
      have e2 : (x :: l).filter (fun x => !decide (x < n)) = x :: l := by
        rw [List.filter_eq_self]
        intro y hy
        have := hno y hy
        simpa using this
      have e : pos n (x :: l) = 0 := by unfold pos; rw [e1]; rfl
      rw [e, e1, e2]
      exact ⟨rfl, rfl⟩
theorem pos_low {n : Int} {l : List Int} (h : rise l) {i : Nat} {x : Int} (hi : i < pos n l) (hx : l[i]? = some x) : x < n := by
  have e : (l.take (pos n l))[i]? = some x := by rw [List.getElem?_take, if_pos hi]; exact hx
  rw [(cut_pos h).1] at e
  have := List.mem_of_getElem? e
  rw [List.mem_filter] at this
  simpa using this.2
theorem pos_high {n : Int} {l : List Int} (h : rise l) {i : Nat} {x : Int} (hi : pos n l ≤ i) (hx : l[i]? = some x) : n ≤ x := by
  have e : (l.drop (pos n l))[i - pos n l]? = some x := by rw [List.getElem?_drop, Nat.add_sub_cancel' hi]; exact hx
  rw [(cut_pos h).2] at e
  have := List.mem_of_getElem? e
  rw [List.mem_filter] at this
  have h2 := this.2
  simp at h2
  exact h2
/-- What a search finds is that place. -/
theorem pos_is {n : Int} {l : List Int} {p : Nat} (h : rise l) (hp : p ≤ l.length) (h1 : ∀ i x, i < p → l[i]? = some x → x < n) (h2 : ∀ i x, p ≤ i → l[i]? = some x → n ≤ x) : p = pos n l := by
  have hl := pos_le n l
  rcases Nat.lt_trichotomy p (pos n l) with hlt | rfl | hgt
  · have hx := List.getElem?_eq_getElem (l := l) (i := p) (by omega)
    have a := pos_low h hlt hx
    have b := h2 p _ (Nat.le_refl _) hx
    omega
  · rfl
  · have hx := List.getElem?_eq_getElem (l := l) (i := pos n l) (by omega)
    have a := pos_high h (Nat.le_refl _) hx
    have b := h1 _ _ hgt hx
    omega
theorem in_pos {n : Int} {l : List Int} (h : rise l) : n ∈ l ↔ l[pos n l]? = some n := by
  constructor
  · intro hm
    obtain ⟨i, hi⟩ := List.mem_iff_getElem?.1 hm
    rcases Nat.lt_trichotomy i (pos n l) with hlt | rfl | hgt
    · have := pos_low h hlt hi; omega
    · exact hi
    · have hp : pos n l < l.length := by obtain ⟨hj, _⟩ := List.getElem?_eq_some_iff.1 hi; omega
      have hx := List.getElem?_eq_getElem hp
      have a := pos_high h (Nat.le_refl _) hx
      have b := rise_get.1 h _ _ _ _ hgt hx hi
      omega
  · exact fun e => List.mem_of_getElem? e
/-- One put in. -/
def ins (n : Int) (l : List Int) : List Int := l.take (pos n l) ++ n :: l.drop (pos n l)
theorem ins_parts {n : Int} {l : List Int} (h : rise l) : ins n l = l.filter (fun x => decide (x < n)) ++ n :: l.filter (fun x => !decide (x < n)) := by unfold ins; rw [(cut_pos h).1, (cut_pos h).2]
theorem ins_len (n : Int) (l : List Int) : (ins n l).length = l.length + 1 := by
  have := pos_le n l
  unfold ins
  rw [List.length_append, List.length_cons, List.length_take, List.length_drop]
  omega
theorem ins_mem {n x : Int} {l : List Int} : x ∈ ins n l ↔ x = n ∨ x ∈ l := by
  have e := List.take_append_drop (pos n l) l
  conv => rhs; rw [← e]
  unfold ins
  simp only [List.mem_append, List.mem_cons]
  constructor
  · rintro (h | h | h)
    · exact .inr (.inl h)
    · exact .inl h
    · exact .inr (.inr h)
  · rintro (h | h | h)
    · exact .inr (.inl h)
    · exact .inl h
    · exact .inr (.inr h)
theorem ins_rise {n : Int} {l : List Int} (h : rise l) (hn : n ∉ l) : rise (ins n l) := by
  rw [ins_parts h]
  unfold rise
  rw [List.pairwise_append, List.pairwise_cons]
  refine ⟨List.Pairwise.filter _ h, ⟨?_, List.Pairwise.filter _ h⟩, ?_⟩
  · intro y hy
    rw [List.mem_filter] at hy
    have h2 := hy.2
    simp at h2
    rcases Int.lt_or_eq_of_le h2 with q | q
    · exact q
    · exact absurd (q ▸ hy.1) hn
  · intro x hx y hy
    rw [List.mem_filter] at hx
    have h1 := hx.2
    simp at h1
    rcases List.mem_cons.1 hy with rfl | hy
    · exact h1
    · rw [List.mem_filter] at hy
      have h2 := hy.2
      simp at h2
      omega
/-- One taken out. -/
def del (n : Int) (l : List Int) : List Int := l.filter (fun x => decide (x ≠ n))
theorem del_mem {n x : Int} {l : List Int} : x ∈ del n l ↔ x ≠ n ∧ x ∈ l := by
  unfold del
  rw [List.mem_filter, decide_eq_true_eq]
  exact And.comm
theorem del_rise {n : Int} {l : List Int} (h : rise l) : rise (del n l) := List.Pairwise.filter _ h
theorem del_self {n : Int} {l : List Int} (h : n ∉ l) : del n l = l := by
  unfold del
  rw [List.filter_eq_self]
  intro x hx
  rw [decide_eq_true_eq]
  rintro rfl
  exact h hx
theorem del_ins {n : Int} {l : List Int} (h : n ∉ l) : del n (ins n l) = l := by
  have e := List.take_append_drop (pos n l) l
  have h1 : n ∉ l.take (pos n l) := fun q => h (List.mem_of_mem_take q)
  have h2 : n ∉ l.drop (pos n l) := fun q => h (List.mem_of_mem_drop q)
  unfold ins
  have d1 := del_self h1
  have d2 := del_self h2
  unfold del at d1 d2 ⊢
  rw [List.filter_append, List.filter_cons, if_neg (by simp), d1, d2]
  exact e
theorem del_pos {n : Int} {l : List Int} (h : rise l) (hn : n ∈ l) : del n l = l.take (pos n l) ++ l.drop (pos n l + 1) := by
  have hp := (in_pos h).1 hn
  obtain ⟨hlt, he⟩ := List.getElem?_eq_some_iff.1 hp
  have e : l = l.take (pos n l) ++ n :: l.drop (pos n l + 1) := by
    conv => lhs; rw [← List.take_append_drop (pos n l) l]
    rw [List.drop_eq_getElem_cons hlt, he]
  have hr := h
  unfold rise at hr
  rw [e, List.pairwise_append, List.pairwise_cons] at hr
  have h1 : n ∉ l.take (pos n l) := fun q => by have := hr.2.2 n q n (List.mem_cons_self ..); omega
  have h2 : n ∉ l.drop (pos n l + 1) := fun q => by have := hr.2.1.1 n q; omega
  have d1 := del_self h1
  have d2 := del_self h2
  conv => lhs; rw [e]
  unfold del at d1 d2 ⊢
  rw [List.filter_append, List.filter_cons, if_neg (by simp), d1, d2]
theorem del_len {n : Int} {l : List Int} (h : rise l) (hn : n ∈ l) : (del n l).length + 1 = l.length := by
  have hp := (in_pos h).1 hn
  obtain ⟨hlt, _⟩ := List.getElem?_eq_some_iff.1 hp
  rw [del_pos h hn, List.length_append, List.length_take, List.length_drop]
  omega
theorem ins_del {n : Int} {l : List Int} (h : rise l) (hn : n ∈ l) : ins n (del n l) = l := by
  have hp := (in_pos h).1 hn
  obtain ⟨hlt, he⟩ := List.getElem?_eq_some_iff.1 hp
  have e : pos n (del n l) = pos n l := by
    unfold pos del
    rw [List.filter_filter]
    congr 1
    refine List.filter_congr fun x _ => ?_
    by_cases q : x < n
    · rw [decide_eq_true q, Bool.true_and]; exact decide_eq_true (by omega)
    · rw [decide_eq_false q, Bool.false_and]
  unfold ins
  rw [e, del_pos h hn]
  have hlen : (l.take (pos n l)).length = pos n l := by rw [List.length_take]; omega
  rw [List.take_append_of_le_length (by omega), List.take_of_length_le (by omega), List.drop_append_of_le_length (by omega), List.drop_of_length_le (by omega), List.nil_append]
  conv => rhs; rw [← List.take_append_drop (pos n l) l]
  rw [List.drop_eq_getElem_cons hlt, he]

/-- The document's own way to put one in: through the list, ahead of the first that is greater. -/
def thru (n : Int) : List Int → List Int × Bool
  | l => l.foldl (fun m x => ((if !m.2 && decide (n < x) then m.1 ++ [n] else m.1) ++ [x], m.2 || decide (n < x))) ([], false)
theorem thru_snoc (n x : Int) (l : List Int) : thru n (l ++ [x]) = ((if !(thru n l).2 && decide (n < x) then (thru n l).1 ++ [n] else (thru n l).1) ++ [x], (thru n l).2 || decide (n < x)) := by
  unfold thru; rw [List.foldl_append]; rfl
theorem thru_is {n : Int} : ∀ (k : Nat) {l : List Int}, k ≤ l.length → rise l → n ∉ l → thru n (l.take k) = if pos n l < k then (l.take (pos n l) ++ n :: (l.take k).drop (pos n l), true) else (l.take k, false)
  | 0, l, _, _, _ => by rw [if_neg (by omega), List.take_zero]; rfl
  | k + 1, l, hk, h, hn => by
    have ih := thru_is k (l := l) (by omega) h hn
    have hx := List.getElem?_eq_getElem (l := l) (i := k) (by omega)
    have hne : l[k] ≠ n := fun q => hn (q ▸ List.getElem_mem ..)
    have et : l.take (k + 1) = l.take k ++ [l[k]] := by rw [List.take_add_one, hx]; rfl
    rw [et, thru_snoc, ih]
    by_cases h1 : pos n l < k
    · rw [if_pos h1, if_pos (show pos n l < k + 1 by omega)]
      simp only [Bool.not_true, Bool.false_and, Bool.true_or, if_false, Bool.false_eq_true, List.append_assoc, List.cons_append]
      rw [List.drop_append_of_le_length (by rw [List.length_take]; omega)]
    · rw [if_neg h1]
      by_cases h2 : pos n l = k
      · have h3 : n < l[k] := by have := pos_high (n := n) h (by omega) hx; omega
        rw [if_pos (show pos n l < k + 1 by omega)]
        simp only [h3, decide_true, Bool.not_false, Bool.and_self, if_true, Bool.or_true]
        rw [h2, List.append_assoc, List.drop_append_of_le_length (by rw [List.length_take]; omega), List.drop_of_length_le (by rw [List.length_take]; omega)]
        rfl
      · have h3 : ¬ n < l[k] := by have := pos_low (n := n) h (i := k) (by omega) hx; omega
        rw [if_neg (show ¬ pos n l < k + 1 by omega)]
        simp only [h3, decide_false, Bool.and_false, Bool.or_false, if_false, Bool.false_eq_true]
theorem thru_ins {n : Int} {l : List Int} (h : rise l) (hn : n ∉ l) : (if (thru n l).2 = true then (thru n l).1 else (thru n l).1 ++ [n]) = ins n l := by
  have e := thru_is l.length (Nat.le_refl _) h hn
  have hp := pos_le n l
  rw [List.take_length] at e
  rw [e]
  unfold ins
  by_cases h1 : pos n l < l.length
  · rw [if_pos h1, if_pos rfl]
  · have : pos n l = l.length := by omega
    rw [if_neg h1, if_neg (fun q => by cases q), this, List.take_length, List.drop_length]

/-- May a channel be? -/
structure Ch where
  id : Int
  ow : Int
  l : List Int
def Ch.may (c : Ch) : Prop := (1 ≤ c.id ∧ c.id ≤ 1048576) ∧ (1 ≤ c.l.length ∧ c.l.length ≤ 16) ∧ (∀ x ∈ c.l, usr x = true) ∧ rise c.l ∧ c.ow ∈ c.l
instance (l : List Int) : Decidable (rise l) := inferInstanceAs (Decidable (l.Pairwise (· < ·)))
instance (c : Ch) : Decidable c.may := by unfold Ch.may; infer_instance
def Ch.none : Ch := ⟨0, 0, []⟩
def opens (id n : Int) : Ch × Nat := if (⟨id, n, [n]⟩ : Ch).may then (⟨id, n, [n]⟩, 0) else (Ch.none, 1)
def joins (c : Ch) (n : Int) : Ch × Nat := if ¬ (c.may ∧ usr n = true) then (Ch.none, 1) else if n ∈ c.l then (Ch.none, 6) else if 16 ≤ c.l.length then (Ch.none, 7) else (⟨c.id, c.ow, ins n c.l⟩, 0)
def leaves (c : Ch) (n : Int) : Ch × Nat := if ¬ c.may then (Ch.none, 1) else if ¬ n ∈ c.l then (Ch.none, 5) else if c.ow = n then (Ch.none, 8) else (⟨c.id, c.ow, del n c.l⟩, 0)
theorem joins_may {c x : Ch} {n : Int} (h : joins c n = (x, 0)) : c.may ∧ usr n = true ∧ n ∉ c.l ∧ c.l.length < 16 ∧ x = ⟨c.id, c.ow, ins n c.l⟩ ∧ x.may := by
  unfold joins at h
  by_cases h1 : c.may ∧ usr n = true
  · rw [if_neg (fun q => q h1)] at h
    by_cases h2 : n ∈ c.l
    · rw [if_pos h2] at h; exact absurd (Prod.mk.inj h).2 (by decide)
    · rw [if_neg h2] at h
      by_cases h3 : 16 ≤ c.l.length
      · rw [if_pos h3] at h; exact absurd (Prod.mk.inj h).2 (by decide)
      · rw [if_neg h3] at h
        obtain rfl := (Prod.mk.inj h).1
        obtain ⟨a, b, d, e, f⟩ := h1.1
        refine ⟨h1.1, h1.2, h2, by omega, rfl, a, ?_, ?_, ins_rise e h2, ins_mem.2 (.inr f)⟩
        · show 1 ≤ (ins n c.l).length ∧ (ins n c.l).length ≤ 16
          rw [ins_len]; omega
        · intro y hy
          rcases ins_mem.1 hy with rfl | hy
          · exact h1.2
          · exact d y hy
  · rw [if_pos h1] at h; exact absurd (Prod.mk.inj h).2 (by decide)
theorem leaves_may {c x : Ch} {n : Int} (h : leaves c n = (x, 0)) : c.may ∧ n ∈ c.l ∧ c.ow ≠ n ∧ x = ⟨c.id, c.ow, del n c.l⟩ ∧ x.may := by
  unfold leaves at h
  by_cases h1 : c.may
  · rw [if_neg (fun q => q h1)] at h
    by_cases h2 : n ∈ c.l
    · rw [if_neg (fun q => q h2)] at h
      by_cases h3 : c.ow = n
      · rw [if_pos h3] at h; exact absurd (Prod.mk.inj h).2 (by decide)
      · rw [if_neg h3] at h
        obtain rfl := (Prod.mk.inj h).1
        obtain ⟨a, b, d, e, f⟩ := h1
        have hm : c.ow ∈ del n c.l := del_mem.2 ⟨h3, f⟩
        refine ⟨⟨a, b, d, e, f⟩, h2, h3, rfl, a, ?_, fun y hy => d y (del_mem.1 hy).2, del_rise e, hm⟩
        have h4 := del_len e h2
        have h5 := List.length_pos_of_mem hm
        show 1 ≤ (del n c.l).length ∧ (del n c.l).length ≤ 16
        omega
    · rw [if_pos h2] at h; exact absurd (Prod.mk.inj h).2 (by decide)
  · rw [if_pos h1] at h; exact absurd (Prod.mk.inj h).2 (by decide)
theorem joins_none {c : Ch} {n : Int} (h : (joins c n).2 ≠ 0) : (joins c n).1 = Ch.none := by
  unfold joins at h ⊢
  repeat' split
  all_goals first | rfl | (exfalso; simp_all; done)
/-- Who joins and leaves leaves it as it was. -/
theorem back {c x : Ch} {n : Int} (h : joins c n = (x, 0)) : leaves x n = if c.ow = n then (Ch.none, 8) else (c, 0) := by
  obtain ⟨h1, h2, h3, h4, rfl, h5⟩ := joins_may h
  unfold leaves
  rw [if_neg (fun q => q h5), if_neg (fun q => q (ins_mem.2 (.inl rfl)))]
  show (if c.ow = n then _ else ((⟨c.id, c.ow, del n (ins n c.l)⟩ : Ch), 0)) = _
  rw [del_ins h3]
theorem back_owner {c x : Ch} {n : Int} (h : joins c n = (x, 0)) : c.ow ≠ n := by
  obtain ⟨h1, h2, h3, -⟩ := joins_may h
  rintro rfl
  exact h3 h1.2.2.2.2


/-- A number from 1 to another one. -/
def fit (n m : Int) : Bool := decide (1 ≤ n) && decide (n ≤ m)
theorem fit_yes {n m : Int} (h1 : 1 ≤ n) (h2 : n ≤ m) : fit n m = true := by unfold fit; rw [decide_eq_true h1, decide_eq_true h2]; rfl
theorem fit_low {n m : Int} (h : n < 1) : fit n m = false := by unfold fit; rw [decide_eq_false (by omega : ¬ 1 ≤ n)]; rfl
theorem fit_high {n m : Int} (h : m < n) : fit n m = false := by unfold fit; rw [decide_eq_false (by omega : ¬ n ≤ m), Bool.and_false]
theorem usr_fit (n : Int) : usr n = fit n 1048576 := rfl

/-- May a list be the members of a channel? -/
def am (l : List Int) : Bool := decide (1 ≤ l.length ∧ l.length ≤ 16 ∧ (∀ x ∈ l, usr x = true) ∧ rise l)
theorem am_iff {l : List Int} : am l = true ↔ 1 ≤ l.length ∧ l.length ≤ 16 ∧ (∀ x ∈ l, usr x = true) ∧ rise l := by unfold am; rw [decide_eq_true_eq]
theorem getD_mem {l : List Int} {k : Nat} (h : k < l.length) : l.getD k 0 ∈ l := by
  rw [List.getD, List.getElem?_eq_getElem h]; exact List.getElem_mem h
theorem getD_some {l : List Int} {k : Nat} (h : k < l.length) : l[k]? = some (l.getD k 0) := by
  rw [List.getD, List.getElem?_eq_getElem h]; rfl
theorem am_len {l : List Int} (h : fit (l.length : Int) 16 = false) : am l = false := by
  cases q : am l
  · rfl
  · obtain ⟨a, b, -⟩ := am_iff.1 q
    rw [fit_yes (by omega) (by omega)] at h
    cases h
theorem am_usr {l : List Int} {k : Nat} (hk : k < l.length) (h : usr (l.getD k 0) = false) : am l = false := by
  cases q : am l
  · rfl
  · obtain ⟨-, -, a, -⟩ := am_iff.1 q
    rw [a _ (getD_mem hk)] at h
    cases h
theorem am_next {l : List Int} {k : Nat} (hk : k + 1 < l.length) (h : l.getD (k + 1) 0 ≤ l.getD k 0) : am l = false := by
  cases q : am l
  · rfl
  · obtain ⟨-, -, -, a⟩ := am_iff.1 q
    have := rise_get.1 a k (k + 1) _ _ (by omega) (getD_some (by omega)) (getD_some hk)
    omega
theorem am_yes {l : List Int} (h : fit (l.length : Int) 16 = true) (h1 : ∀ i, i < l.length → usr (l.getD i 0) = true) (h2 : ∀ i, i + 1 < l.length → l.getD i 0 < l.getD (i + 1) 0) : am l = true := by
  unfold fit at h
  rw [Bool.and_eq_true, decide_eq_true_eq, decide_eq_true_eq] at h
  refine am_iff.2 ⟨by omega, by omega, fun x hx => ?_, rise_next fun i x y hx hy => ?_⟩
  · obtain ⟨i, hi⟩ := List.mem_iff_getElem?.1 hx
    have hl : i < l.length := (List.getElem?_eq_some_iff.1 hi).1
    have := getD_some hl
    rw [hi] at this
    cases this
    exact h1 i hl
  · have hl : i + 1 < l.length := (List.getElem?_eq_some_iff.1 hy).1
    have e1 := getD_some (l := l) (k := i) (by omega)
    have e2 := getD_some hl
    rw [hx] at e1; rw [hy] at e2
    cases e1; cases e2
    exact h2 i hl
/-- May a channel be? -/
def mb (a o : Int) (l : List Int) : Bool := decide (Ch.may ⟨a, o, l⟩)
theorem mb_iff {a o : Int} {l : List Int} : mb a o l = true ↔ Ch.may ⟨a, o, l⟩ := by unfold mb; rw [decide_eq_true_eq]
theorem mb_not {a o : Int} {l : List Int} : mb a o l = false ↔ ¬ Ch.may ⟨a, o, l⟩ := by unfold mb; rw [decide_eq_false_iff_not]
theorem mb_eq (a o : Int) (l : List Int) : mb a o l = (fit a 1048576 && am l && decide (o ∈ l)) := by
  rw [Bool.eq_iff_iff, mb_iff, Bool.and_eq_true, Bool.and_eq_true, am_iff, decide_eq_true_eq]
  unfold Ch.may fit
  rw [Bool.and_eq_true, decide_eq_true_eq, decide_eq_true_eq]
  constructor
  · rintro ⟨h1, h2, h3, h4, h5⟩; exact ⟨⟨h1, h2.1, h2.2, h3, h4⟩, h5⟩
  · rintro ⟨⟨h1, h2, h3, h4, h6⟩, h5⟩; exact ⟨h1, ⟨h2, h3⟩, h4, h6, h5⟩
theorem has_next {l : List Int} {n : Int} {k : Nat} (h : ∀ i, i < k → l.getD i 0 ≠ n) (h2 : l.getD k 0 ≠ n) : ∀ i, i < k + 1 → l.getD i 0 ≠ n := fun i hi => by
  rcases Nat.lt_or_ge i k with q | q
  · exact h i q
  · obtain rfl : i = k := by omega
    exact h2
theorem has_none {l : List Int} {n : Int} (h : ∀ i, i < l.length → l.getD i 0 ≠ n) : decide (n ∈ l) = false := by
  rw [decide_eq_false_iff_not]
  intro hm
  obtain ⟨i, hi⟩ := List.mem_iff_getElem?.1 hm
  have hl : i < l.length := (List.getElem?_eq_some_iff.1 hi).1
  have := getD_some hl
  rw [hi] at this
  exact h i hl (Option.some.inj this).symm
theorem has_one {l : List Int} {n : Int} {k : Nat} (hk : k < l.length) (h : l.getD k 0 = n) : decide (n ∈ l) = true := by rw [decide_eq_true_eq, ← h]; exact getD_mem hk
theorem pos_get {n : Int} {l : List Int} {p : Nat} (h : rise l) (hp : p ≤ l.length) (h1 : ∀ i, i < p → l.getD i 0 < n) (h2 : ∀ i, p ≤ i → i < l.length → n ≤ l.getD i 0) : p = pos n l := by
  refine pos_is h hp (fun i x hi hx => ?_) (fun i x hi hx => ?_)
  · have hl : i < l.length := (List.getElem?_eq_some_iff.1 hx).1
    have := getD_some hl
    rw [hx] at this
    cases this
    exact h1 i hi
  · have hl : i < l.length := (List.getElem?_eq_some_iff.1 hx).1
    have := getD_some hl
    rw [hx] at this
    cases this
    exact h2 i hi hl
theorem rise_le {l : List Int} (h : rise l) {i j : Nat} (hij : i ≤ j) (hj : j < l.length) : l.getD i 0 ≤ l.getD j 0 := by
  rcases Nat.lt_or_eq_of_le hij with q | rfl
  · exact Int.le_of_lt (rise_get.1 h i j _ _ q (getD_some (by omega)) (getD_some hj))
  · exact Int.le_refl _
theorem in_get {n : Int} {l : List Int} (h : rise l) (hp : pos n l < l.length) : decide (n ∈ l) = (l.getD (pos n l) 0 == n) := by
  rw [Bool.eq_iff_iff, decide_eq_true_eq, beq_iff_eq, in_pos h, getD_some hp]
  constructor
  · exact fun e => Option.some.inj e
  · exact fun e => by rw [e]
theorem in_out {n : Int} {l : List Int} (h : rise l) (hp : ¬ pos n l < l.length) : decide (n ∈ l) = false := by
  rw [decide_eq_false_iff_not, in_pos h, List.getElem?_eq_none (by omega)]
  exact fun e => by cases e
end Go.Proofs.Ytpelopfbdfnmeaa
