/-
  Plain mathematics of package attr, with nothing of the program in it: an attribute is a number and a list of deps; when one may be, is within another, waits for a slot; what many are together. No conditions.
-/
import Derived.Below
namespace Go.Proofs.Ytgmfjoegfbaebaa.At

/-- The dep of a replica (1, 2 and so on); 0 where there is none. -/
def dp (xs : List Int) (k : Int) : Int := if k < 1 ∨ (xs.length : Int) < k then 0 else xs.getD (k - 1).toNat 0
theorem dp_at (xs : List Int) (i : Nat) : dp xs ((i : Int) + 1) = xs.getD i 0 := by
  unfold dp
  split
  · rename_i h
    have : xs.length ≤ i := by omega
    simp [List.getD, List.getElem?_eq_none this]
  · congr 1; omega
theorem dp_out {xs : List Int} {k : Int} (h : k < 1 ∨ (xs.length : Int) < k) : dp xs k = 0 := if_pos h
theorem dp_in {xs : List Int} {k : Int} (h : 1 ≤ k) : dp xs k = xs.getD (k - 1).toNat 0 := by
  have := dp_at xs (k - 1).toNat
  rwa [show ((k - 1).toNat : Int) + 1 = k by omega] at this

theorem getD_out {xs : List Int} {i : Nat} (h : xs.length ≤ i) : xs.getD i 0 = 0 := by simp [List.getD, List.getElem?_eq_none h]

/-- Whether one is within another. -/
def wi (a : Int) (xs : List Int) (b : Int) (ys : List Int) : Bool := decide (a ≤ b) && (List.range (max xs.length ys.length)).all fun i => decide (xs.getD i 0 ≤ ys.getD i 0)
theorem wi_iff {a b : Int} {xs ys : List Int} : wi a xs b ys = true ↔ a ≤ b ∧ ∀ i, xs.getD i 0 ≤ ys.getD i 0 := by
  unfold wi
  rw [Bool.and_eq_true, decide_eq_true_eq, List.all_eq_true]
  constructor
  · rintro ⟨h, h2⟩
    refine ⟨h, fun i => ?_⟩
    by_cases hi : i < max xs.length ys.length
    · exact of_decide_eq_true (h2 i (List.mem_range.2 hi))
    · rw [getD_out (by omega), getD_out (by omega)]; exact Int.le_refl _
  · rintro ⟨h, h2⟩
    exact ⟨h, fun i _ => decide_eq_true (h2 i)⟩
theorem wi_no {a b : Int} {xs ys : List Int} (h : b < a) : wi a xs b ys = false := by
  rw [Bool.eq_false_iff]; intro h2; have := (wi_iff.1 h2).1; omega
theorem wi_not {a b : Int} {xs ys : List Int} {i : Nat} (h : ys.getD i 0 < xs.getD i 0) : wi a xs b ys = false := by
  rw [Bool.eq_false_iff]; intro h2; have := (wi_iff.1 h2).2 i; omega
theorem wi_yes {a b : Int} {xs ys : List Int} (h : a ≤ b) (h2 : ∀ i, i < max xs.length ys.length → xs.getD i 0 ≤ ys.getD i 0) : wi a xs b ys = true := by
  refine wi_iff.2 ⟨h, fun i => ?_⟩
  by_cases hi : i < max xs.length ys.length
  · exact h2 i hi
  · rw [getD_out (by omega), getD_out (by omega)]; exact Int.le_refl _

/-- Whether two are the same. -/
def sa (a : Int) (xs : List Int) (b : Int) (ys : List Int) : Bool := wi a xs b ys && wi b ys a xs
theorem sa_iff {a b : Int} {xs ys : List Int} : sa a xs b ys = true ↔ a = b ∧ ∀ i, xs.getD i 0 = ys.getD i 0 := by
  unfold sa
  rw [Bool.and_eq_true, wi_iff, wi_iff]
  constructor
  · rintro ⟨⟨h1, h2⟩, h3, h4⟩
    exact ⟨by omega, fun i => by have := h2 i; have := h4 i; omega⟩
  · rintro ⟨rfl, h⟩
    exact ⟨⟨Int.le_refl _, fun i => by rw [h i]; exact Int.le_refl _⟩, Int.le_refl _, fun i => by rw [h i]; exact Int.le_refl _⟩

/-- Whether one may be, among so many replicas. -/
def my (a : Int) (xs : List Int) (n : Int) : Bool := decide (1 ≤ n ∧ n ≤ 7 ∧ (xs.length : Int) = n ∧ (∀ x ∈ xs, 0 ≤ x ∧ x ≤ 1048576) ∧ 0 ≤ a ∧ a ≤ 1073741824)
theorem my_iff {a : Int} {xs : List Int} {n : Int} : my a xs n = true ↔ 1 ≤ n ∧ n ≤ 7 ∧ (xs.length : Int) = n ∧ (∀ x ∈ xs, 0 ≤ x ∧ x ≤ 1048576) ∧ 0 ≤ a ∧ a ≤ 1073741824 := decide_eq_true_iff
theorem my_no {a : Int} {xs : List Int} {n : Int} (h : n < 1 ∨ 7 < n ∨ (xs.length : Int) ≠ n ∨ a < 0 ∨ 1073741824 < a) : my a xs n = false := by
  rw [Bool.eq_false_iff]; intro h2; obtain ⟨q1, q2, q3, _, q5, q6⟩ := my_iff.1 h2; omega
theorem my_not {a : Int} {xs : List Int} {n : Int} {i : Nat} (hi : i < xs.length) (h : xs.getD i 0 < 0 ∨ 1048576 < xs.getD i 0) : my a xs n = false := by
  rw [Bool.eq_false_iff]; intro h2
  have := (my_iff.1 h2).2.2.2.1 (xs.getD i 0) (by simp [List.getD, hi])
  omega
theorem my_yes {a : Int} {xs : List Int} {n : Int} (h1 : 1 ≤ n) (h2 : n ≤ 7) (h3 : (xs.length : Int) = n) (h4 : ∀ i, i < xs.length → 0 ≤ xs.getD i 0 ∧ xs.getD i 0 ≤ 1048576) (h5 : 0 ≤ a) (h6 : a ≤ 1073741824) : my a xs n = true :=
  my_iff.2 ⟨h1, h2, h3, fun x hx => by
    obtain ⟨i, hi, rfl⟩ := List.mem_iff_getElem.1 hx
    have := h4 i hi
    simpa [List.getD, hi] using this, h5, h6⟩
theorem my_at {a : Int} {xs : List Int} {n : Int} (h : my a xs n = true) (i : Nat) : 0 ≤ xs.getD i 0 ∧ xs.getD i 0 ≤ 1048576 := by
  by_cases hi : i < xs.length
  · exact (my_iff.1 h).2.2.2.1 (xs.getD i 0) (by simp [List.getD, hi])
  · rw [getD_out (by omega)]; omega

/-- Whether one waits for a slot of a replica. -/
def wt (xs : List Int) (k s : Int) : Bool := decide (1 ≤ s ∧ s ≤ dp xs k)
theorem wt_iff {xs : List Int} {k s : Int} : wt xs k s = true ↔ 1 ≤ s ∧ s ≤ dp xs k := decide_eq_true_iff
theorem wt_lo {xs : List Int} {k s : Int} (h : ¬ 1 ≤ s) : wt xs k s = false := by
  rw [Bool.eq_false_iff]; intro h2; exact h (wt_iff.1 h2).1
theorem wt_hi {xs : List Int} {k s : Int} (h : 1 ≤ s) : wt xs k s = decide (s ≤ dp xs k) := by
  unfold wt; simp [h]

/-- How many deps there are where there are most; the greatest number; the greatest dep in a place; all of these. -/
def lg (l : List (Int × List Int)) : Nat := l.foldl (fun n r => max n r.2.length) 0
def sq (l : List (Int × List Int)) : Int := l.foldl (fun n r => max n r.1) 0
def dm (l : List (Int × List Int)) (i : Nat) : Int := l.foldl (fun n r => max n (r.2.getD i 0)) 0
def mg (l : List (Int × List Int)) : List Int := (List.range (lg l)).map (dm l)

theorem lg_snoc (l : List (Int × List Int)) (r : Int × List Int) : lg (l ++ [r]) = max (lg l) r.2.length := by simp [lg]
theorem sq_snoc (l : List (Int × List Int)) (r : Int × List Int) : sq (l ++ [r]) = max (sq l) r.1 := by simp [sq]
theorem dm_snoc (l : List (Int × List Int)) (r : Int × List Int) (i : Nat) : dm (l ++ [r]) i = max (dm l i) (r.2.getD i 0) := by simp [dm]

theorem lg_take (l : List (Int × List Int)) (k : Nat) (h : k < l.length) : lg (l.take (k + 1)) = max (lg (l.take k)) (l[k]).2.length := by
  rw [List.take_succ_eq_append_getElem h, lg_snoc]
theorem sq_take (l : List (Int × List Int)) (k : Nat) (h : k < l.length) : sq (l.take (k + 1)) = max (sq (l.take k)) (l[k]).1 := by
  rw [List.take_succ_eq_append_getElem h, sq_snoc]
theorem dm_take (l : List (Int × List Int)) (k : Nat) (h : k < l.length) (i : Nat) : dm (l.take (k + 1)) i = max (dm (l.take k) i) ((l[k]).2.getD i 0) := by
  rw [List.take_succ_eq_append_getElem h, dm_snoc]

theorem snoc_ind {α : Type} {P : List α → Prop} (h0 : P []) (h1 : ∀ l x, P l → P (l ++ [x])) (l : List α) : P l := by
  suffices h : ∀ n, ∀ l : List α, l.length = n → P l from h _ l rfl
  intro n
  induction n with
  | zero => intro l hl; rw [List.length_eq_zero_iff.1 hl]; exact h0
  | succ n ih =>
    intro l hl
    have hne : l ≠ [] := fun h => by rw [h] at hl; simp at hl
    rw [← List.dropLast_concat_getLast hne]
    exact h1 _ _ (ih _ (by simp [hl]))

theorem lg_le (l : List (Int × List Int)) : ∀ r ∈ l, r.2.length ≤ lg l := by
  refine snoc_ind (P := fun l => ∀ r ∈ l, r.2.length ≤ lg l) (fun r h => by cases h) (fun l x ih r hr => ?_) l
  rw [lg_snoc]
  rcases List.mem_append.1 hr with h | h
  · have := ih r h; omega
  · simp at h; subst h; omega
theorem lg_bd {N : Nat} (l : List (Int × List Int)) : (∀ r ∈ l, r.2.length ≤ N) → lg l ≤ N := by
  refine snoc_ind (P := fun l => (∀ r ∈ l, r.2.length ≤ N) → lg l ≤ N) (fun _ => Nat.zero_le _) (fun l x ih h => ?_) l
  rw [lg_snoc]
  have h1 := ih (fun r hr => h r (List.mem_append_left _ hr))
  have h2 := h x (by simp)
  omega
theorem dm_nn (l : List (Int × List Int)) (i : Nat) : 0 ≤ dm l i := by
  refine snoc_ind (P := fun l => 0 ≤ dm l i) (Int.le_refl _) (fun l x ih => ?_) l
  rw [dm_snoc]; omega
theorem sq_nn (l : List (Int × List Int)) : 0 ≤ sq l := by
  refine snoc_ind (P := fun l => 0 ≤ sq l) (Int.le_refl _) (fun l x ih => ?_) l
  rw [sq_snoc]; omega
theorem dm_out (l : List (Int × List Int)) (i : Nat) : lg l ≤ i → dm l i = 0 := by
  refine snoc_ind (P := fun l => lg l ≤ i → dm l i = 0) (fun _ => rfl) (fun l x ih h => ?_) l
  rw [lg_snoc] at h
  rw [dm_snoc, ih (by omega), getD_out (by omega)]; rfl

theorem mg_len (l : List (Int × List Int)) : (mg l).length = lg l := by simp [mg]
theorem mg_at (l : List (Int × List Int)) (i : Nat) : (mg l).getD i 0 = dm l i := by
  by_cases h : i < lg l
  · simp [mg, List.getD, h]
  · rw [getD_out (by rw [mg_len]; omega), dm_out l i (by omega)]
theorem ints_ext {xs ys : List Int} (hl : xs.length = ys.length) (h : ∀ i, i < xs.length → xs.getD i 0 = ys.getD i 0) : xs = ys := by
  refine List.ext_getElem hl fun i h1 h2 => ?_
  have := h i h1
  simpa [List.getD, h1, h2] using this
theorem mg_ext {l : List (Int × List Int)} {ys : List Int} (hl : ys.length = lg l) (h : ∀ i, ys.getD i 0 = dm l i) : ys = mg l :=
  ints_ext (by rw [hl, mg_len]) fun i _ => by rw [h i, mg_at]

/-- What the document says two are together. -/
def jn (xs ys : List Int) : List Int := (List.range (max xs.length ys.length)).map fun i => max (max 0 (xs.getD i 0)) (ys.getD i 0)
theorem jn_len (xs ys : List Int) : (jn xs ys).length = max xs.length ys.length := by simp [jn]
theorem jn_at (xs ys : List Int) {i : Nat} (h : i < max xs.length ys.length) : (jn xs ys).getD i 0 = max (max 0 (xs.getD i 0)) (ys.getD i 0) := by
  simp only [jn, List.getD, List.getElem?_map]
  rw [List.getElem?_range h]
  rfl
theorem jn_take (xs ys : List Int) {k : Nat} (h : k < max xs.length ys.length) : (jn xs ys).take (k + 1) = (jn xs ys).take k ++ [max (max 0 (xs.getD k 0)) (ys.getD k 0)] := by
  have hk : k < (jn xs ys).length := by rw [jn_len]; exact h
  rw [List.take_succ_eq_append_getElem hk, ← jn_at xs ys h]
  simp [List.getD, hk]
theorem jn_mg (l : List (Int × List Int)) (r : Int × List Int) : jn (mg l) r.2 = mg (l ++ [r]) := by
  refine ints_ext (by rw [jn_len, mg_len, mg_len, lg_snoc]) fun i hi => ?_
  rw [jn_len] at hi
  rw [jn_at _ _ hi, mg_at, mg_at, dm_snoc]
  have := dm_nn l i
  omega

end Go.Proofs.Ytgmfjoegfbaebaa.At
