/-
  Plain mathematics of package vlq, with nothing of the program in it: the bytes of a number ('vb'), the number that bytes begin with ('gt'), and how the two belong together. No conditions.
-/
import Derived.Below
namespace Go.Proofs.YteajbcngimccmaaDoor

/-- The digits of n to the base 128, the highest first; each but the last one has 128 added, the last one has m added. -/
def vb (n m : Int) : List Int := if n < 128 then [n % 128 + m] else vb (n / 128) 128 ++ [n % 128 + m]
termination_by n.toNat
decreasing_by omega

theorem vb_lo {n m : Int} (h : n < 128) : vb n m = [n % 128 + m] := by rw [vb, if_pos h]
theorem vb_hi {n m : Int} (h : ¬ n < 128) : vb n m = vb (n / 128) 128 ++ [n % 128 + m] := by rw [vb, if_neg h]

theorem vb_pos (n m : Int) : 0 < (vb n m).length := by
  by_cases h : n < 128
  · rw [vb_lo h]; simp
  · rw [vb_hi h]; simp

theorem vb_mark (n m m' : Int) : (vb n m).length = (vb n m').length := by
  by_cases h : n < 128
  · rw [vb_lo h, vb_lo h]; simp
  · rw [vb_hi h, vb_hi h]; simp

theorem vb_step {n m m' : Int} (h : ¬ n < 128) : (vb n m).length = (vb (n / 128) m').length + 1 := by
  rw [vb_hi h, vb_mark _ m' 128]; simp

theorem vb_le (k : Nat) : ∀ n m : Int, n < 128 ^ (k + 1) → (vb n m).length ≤ k + 1 := by
  induction k with
  | zero => intro n m h; rw [vb_lo (by simpa using h)]; simp
  | succ k ih =>
    intro n m h
    by_cases h1 : n < 128
    · rw [vb_lo h1]; simp
    · rw [vb_step (m' := m) h1]
      have e : (128 : Int) ^ (k + 1 + 1) = 128 * 128 ^ (k + 1) := by rw [Int.pow_succ 128 (k + 1)]; omega
      rw [e] at h
      have := ih (n / 128) m (by omega)
      omega

theorem vb_le8 {n m : Int} (h : n < 72057594037927936) : (vb n m).length ≤ 8 := vb_le 7 n m (by simpa using h)

theorem vb_byte (n m : Int) (h0 : 0 ≤ m) (h1 : m ≤ 128) : ∀ x ∈ vb n m, 0 ≤ x ∧ x ≤ 255 := by
  generalize hk : n.toNat = k
  induction k using Nat.strongRecOn generalizing n m with
  | ind k ih =>
    intro x hx
    by_cases h : n < 128
    · rw [vb_lo h] at hx; simp at hx; omega
    · rw [vb_hi h] at hx
      rw [List.mem_append] at hx
      rcases hx with hx | hx
      · exact ih (n / 128).toNat (by omega) (n / 128) 128 (by omega) (by omega) rfl x hx
      · simp at hx; omega

/-- What bytes begin with, from the byte numbered i on, when the digits so far are n: the number, how many bytes it is, the error. -/
def gt (i : Nat) (n : Int) : List Int → Int × Nat × Int
  | [] => (0, 0, 3)
  | c :: r => if c < 128 then (n * 128 + c, i + 1, 0) else if (i = 0 ∧ c = 128) ∨ i = 7 then (0, 0, 2) else gt (i + 1) (n * 128 + c - 128) r

theorem gt_nil (i : Nat) (n : Int) : gt i n [] = (0, 0, 3) := rfl
theorem gt_end {i : Nat} {n c : Int} {r : List Int} (h : c < 128) : gt i n (c :: r) = (n * 128 + c, i + 1, 0) := by rw [gt, if_pos h]
theorem gt_bad {i : Nat} {n c : Int} {r : List Int} (h : ¬ c < 128) (h' : (i = 0 ∧ c = 128) ∨ i = 7) : gt i n (c :: r) = (0, 0, 2) := by rw [gt, if_neg h, if_pos h']
theorem gt_on {i : Nat} {n c : Int} {r : List Int} (h : ¬ c < 128) (h' : ¬ ((i = 0 ∧ c = 128) ∨ i = 7)) : gt i n (c :: r) = gt (i + 1) (n * 128 + c - 128) r := by rw [gt, if_neg h, if_neg h']

theorem gt_vb (n : Int) (r : List Int) (h1 : 1 ≤ n) (h2 : n < 562949953421312) : gt 0 0 (vb n 128 ++ r) = gt (vb n 128).length n r := by
  generalize hk : n.toNat = k
  induction k using Nat.strongRecOn generalizing n r with
  | ind k ih =>
    by_cases h : n < 128
    · rw [vb_lo h]
      have e : n % 128 = n := by omega
      rw [e, List.singleton_append, gt_on (by omega) (by omega)]
      have e2 : (0 : Int) * 128 + (n + 128) - 128 = n := by omega
      rw [e2]; rfl
    · have hl : (vb (n / 128) 128).length ≤ 6 := vb_le 5 _ _ (by have : (128 : Int) ^ (5 + 1) = 4398046511104 := by decide
                                                                 rw [this]; omega)
      have hp := vb_pos (n / 128) 128
      rw [vb_hi h, List.append_assoc, ih (n / 128).toNat (by omega) (n / 128) _ (by omega) (by omega) rfl, List.singleton_append, gt_on (by omega) (by omega), List.length_append]
      have e2 : n / 128 * 128 + (n % 128 + 128) - 128 = n := by omega
      rw [e2]; rfl

/-- What was put is got, whatever follows. -/
theorem gt_back (n : Int) (r : List Int) (h0 : 0 ≤ n) (h : n < 72057594037927936) : gt 0 0 (vb n 0 ++ r) = (n, (vb n 0).length, 0) := by
  by_cases h1 : n < 128
  · rw [vb_lo h1, List.singleton_append, gt_end (by omega)]
    have e : (0 : Int) * 128 + (n % 128 + 0) = n := by omega
    rw [e]; rfl
  · rw [vb_hi h1, List.append_assoc, gt_vb (n / 128) _ (by omega) (by omega), List.singleton_append, gt_end (by omega), List.length_append]
    have e : n / 128 * 128 + (n % 128 + 0) = n := by omega
    rw [e]; rfl

/-- Bytes of a number without their last ones lack some. -/
theorem gt_short (n m : Int) (c : Nat) (h0 : 0 ≤ n) (h : n < 72057594037927936) (hc : c < (vb n m).length) : gt 0 0 ((vb n m).take c) = (0, 0, 3) := by
  generalize hk : n.toNat = k
  induction k using Nat.strongRecOn generalizing n m with
  | ind k ih =>
    by_cases h1 : n < 128
    · rw [vb_lo h1] at hc ⊢
      simp at hc
      subst hc
      rfl
    · rw [vb_hi h1] at hc ⊢
      rw [List.length_append, List.length_singleton] at hc
      rw [List.take_append_of_le_length (by omega)]
      by_cases hcl : c < (vb (n / 128) 128).length
      · exact ih (n / 128).toNat (by omega) (n / 128) 128 (by omega) (by omega) hcl rfl
      · rw [List.take_of_length_le (by omega)]
        have := gt_vb (n / 128) [] (by omega) (by omega)
        rw [List.append_nil] at this
        rw [this]; rfl

/-- What is got is a number that may be, and its bytes are just those that were read. -/
theorem gt_once_at (xs : List Int) : ∀ (i : Nat) (a : Int) (n : Int) (k : Nat), (∀ x ∈ xs, 0 ≤ x ∧ x ≤ 255) → gt i a xs = (n, k, 0) → 0 ≤ a → a < 128 ^ i → (0 < i → 1 ≤ a) → i ≤ 7 →
    i < k ∧ k ≤ i + xs.length ∧ k ≤ 8 ∧ 0 ≤ n ∧ n < 128 ^ k ∧ vb n 0 = (if i = 0 then [] else vb a 128) ++ xs.take (k - i) := by
  induction xs with
  | nil => intro i a n k _ h; simp [gt] at h
  | cons c r ih =>
    intro i a n k hb h h0 hp h1 hi
    obtain ⟨c0, c1⟩ := hb c (List.mem_cons_self ..)
    have hb' : ∀ x ∈ r, 0 ≤ x ∧ x ≤ 255 := fun x hx => hb x (List.mem_cons_of_mem _ hx)
    have ep : (128 : Int) ^ (i + 1) = 128 * 128 ^ i := by rw [Int.pow_succ]; omega
    by_cases hc : c < 128
    · rw [gt_end hc] at h
      simp only [Prod.mk.injEq, and_true] at h
      obtain ⟨rfl, rfl⟩ := h
      refine ⟨by omega, by simp, by omega, by omega, by rw [ep]; omega, ?_⟩
      have et : List.take (i + 1 - i) (c :: r) = [c] := by rw [show i + 1 - i = 1 from by omega]; rfl
      rw [et]
      by_cases hz : i = 0
      · subst hz
        have ha : a = 0 := by simp at hp; omega
        subst ha
        rw [vb_lo (by omega)]
        simp; omega
      · rw [vb_hi (by have := h1 (by omega); omega), if_neg hz]
        have e1 : (a * 128 + c) / 128 = a := by omega
        have e2 : (a * 128 + c) % 128 + 0 = c := by omega
        rw [e1, e2]
    · by_cases hbad : (i = 0 ∧ c = 128) ∨ i = 7
      · rw [gt_bad hc hbad] at h; simp at h
      · rw [gt_on hc hbad] at h
        obtain ⟨q1, q2, q3, q4, q5, q6⟩ := ih (i + 1) (a * 128 + c - 128) n k hb' h (by omega) (by rw [ep]; omega) (fun _ => by
          by_cases hz : i = 0
          · subst hz; simp at hbad hp; omega
          · have := h1 (by omega); omega) (by omega)
        refine ⟨by omega, by simp; omega, q3, q4, q5, ?_⟩
        rw [q6, if_neg (by omega)]
        have et : List.take (k - i) (c :: r) = c :: List.take (k - (i + 1)) r := by
          rw [show k - i = (k - (i + 1)) + 1 from by omega]; rfl
        rw [et]
        by_cases hz : i = 0
        · subst hz
          have ha : a = 0 := by simp at hp; omega
          subst ha
          rw [vb_lo (by omega)]
          have e : (0 * 128 + c - 128) % 128 + 128 = c := by omega
          rw [e]; simp
        · have := h1 (by omega)
          rw [vb_hi (by omega), if_neg hz]
          have e1 : (a * 128 + c - 128) / 128 = a := by omega
          have e2 : (a * 128 + c - 128) % 128 + 128 = c := by omega
          rw [e1, e2]; simp

theorem gt_once {xs : List Int} {n : Int} {k : Nat} (hb : ∀ x ∈ xs, 0 ≤ x ∧ x ≤ 255) (h : gt 0 0 xs = (n, k, 0)) :
    0 < k ∧ k ≤ xs.length ∧ 0 ≤ n ∧ n < 72057594037927936 ∧ vb n 0 = xs.take k := by
  obtain ⟨q1, q2, q3, q4, q5, q6⟩ := gt_once_at xs 0 0 n k hb h (by omega) (by simp) (by omega) (by omega)
  refine ⟨q1, by omega, q4, ?_, by simpa using q6⟩
  have : ∀ k, k ≤ 8 → (128 : Int) ^ k ≤ 72057594037927936 := by decide
  have := this k q3
  omega

/-- The error is one of three; where there is one, the number and the size are nought. -/
theorem gt_err (xs : List Int) : ∀ (i : Nat) (a : Int), (gt i a xs).2.2 = 0 ∨ gt i a xs = (0, 0, 2) ∨ gt i a xs = (0, 0, 3) := by
  induction xs with
  | nil => intro i a; exact .inr (.inr rfl)
  | cons c r ih =>
    intro i a
    by_cases hc : c < 128
    · rw [gt_end hc]; exact .inl rfl
    · by_cases hbad : (i = 0 ∧ c = 128) ∨ i = 7
      · rw [gt_bad hc hbad]; exact .inr (.inl rfl)
      · rw [gt_on hc hbad]; exact ih _ _

/-- Bytes that come ahead of others, as texts of one length. -/
def ahead : List Int → List Int → Bool
  | [], [] => false
  | [], _ :: _ => true
  | _ :: _, [] => false
  | a :: r, b :: s => decide (a < b) || (decide (a = b) && ahead r s)

theorem ahead_append : ∀ (a b : List Int) (x y : List Int), a.length = b.length → ahead a b = true → ahead (a ++ x) (b ++ y) = true := by
  intro a
  induction a with
  | nil => intro b x y hl h; cases b <;> simp_all [ahead]
  | cons c r ih =>
    intro b x y hl h
    cases b with
    | nil => simp at hl
    | cons d s =>
      simp only [List.cons_append, ahead, Bool.or_eq_true, Bool.and_eq_true, decide_eq_true_eq] at h ⊢
      rcases h with h | ⟨h, h'⟩
      · exact .inl h
      · exact .inr ⟨h, ih s x y (by simpa using hl) h'⟩

theorem ahead_same (a : List Int) {x y : Int} (h : x < y) : ahead (a ++ [x]) (a ++ [y]) = true := by
  induction a with
  | nil => simp [ahead, h]
  | cons c r ih => simp [ahead, ih]

theorem vb_order (a b m : Int) (h0 : 0 ≤ a) (h : a < b) : (vb a m).length < (vb b m).length ∨ (vb a m).length = (vb b m).length ∧ ahead (vb a m) (vb b m) = true := by
  generalize hk : b.toNat = k
  induction k using Nat.strongRecOn generalizing a b m with
  | ind k ih =>
    by_cases ha : a < 128
    · by_cases hb : b < 128
      · rw [vb_lo ha, vb_lo hb]
        exact .inr ⟨rfl, ahead_same [] (by omega)⟩
      · left
        have := vb_pos (b / 128) m
        rw [vb_step (m' := m) hb, vb_lo ha]
        simpa using this
    · have hb : ¬ b < 128 := by omega
      by_cases hq : a / 128 = b / 128
      · right
        rw [vb_hi ha, vb_hi hb, hq]
        exact ⟨by simp, ahead_same _ (by omega)⟩
      · rcases ih (b / 128).toNat (by omega) (a / 128) (b / 128) 128 (by omega) (by omega) rfl with h' | ⟨h', h''⟩
        · left; rw [vb_step (m' := 128) ha, vb_step (m' := 128) hb]; omega
        · right
          rw [vb_hi ha, vb_hi hb]
          exact ⟨by simp [h'], ahead_append _ _ _ _ h' h''⟩

/-- All bytes but the last one are 128 or more; the last one is m and less than 128 more. -/
theorem vb_all (n : Int) (h0 : 0 ≤ n) : ∀ x ∈ vb n 128, 128 ≤ x := by
  generalize hk : n.toNat = k
  induction k using Nat.strongRecOn generalizing n with
  | ind k ih =>
    intro x hx
    by_cases h : n < 128
    · rw [vb_lo h] at hx; simp at hx; omega
    · rw [vb_hi h, List.mem_append] at hx
      rcases hx with hx | hx
      · exact ih (n / 128).toNat (by omega) (n / 128) (by omega) rfl x hx
      · simp at hx; omega

theorem vb_split (n : Int) : ∃ p, vb n 0 = p ++ [n % 128] ∧ (0 ≤ n → ∀ x ∈ p, 128 ≤ x) := by
  by_cases h : n < 128
  · exact ⟨[], by rw [vb_lo h]; simp, fun _ x hx => by simp at hx⟩
  · exact ⟨vb (n / 128) 128, by rw [vb_hi h]; simp, fun h0 => vb_all _ (by omega)⟩

theorem vb_shape (n : Int) (h0 : 0 ≤ n) (i : Nat) (hi : i < (vb n 0).length) : ((vb n 0).getD i 0 < 128) = (i + 1 = (vb n 0).length) := by
  obtain ⟨p, hp, hall⟩ := vb_split n
  rw [hp] at hi ⊢
  have hall := hall h0
  rw [List.length_append, List.length_singleton] at hi ⊢
  rcases Nat.lt_or_ge i p.length with h | h
  · have e : (p ++ [n % 128]).getD i 0 = p[i] := by rw [List.getD, List.getElem?_append_left h, List.getElem?_eq_getElem h]; rfl
    have := hall p[i] (List.getElem_mem h)
    rw [e, eq_iff_iff]; omega
  · have hi' : i = p.length := by omega
    subst hi'
    have e : (p ++ [n % 128]).getD p.length 0 = n % 128 := by rw [List.getD, List.getElem?_append_right (Nat.le_refl _)]; simp
    rw [e, eq_iff_iff]; omega

theorem vb_pow (n m : Int) (h0 : 0 ≤ n) : n < 128 ^ (vb n m).length ∧ ((vb n m).length = 1 ∨ (128 : Int) ^ ((vb n m).length - 1) ≤ n) := by
  generalize hk : n.toNat = k
  induction k using Nat.strongRecOn generalizing n m with
  | ind k ih =>
    by_cases h : n < 128
    · rw [vb_lo h]; simpa using h
    · obtain ⟨q1, q2⟩ := ih (n / 128).toNat (by omega) (n / 128) m (by omega) rfl
      rw [vb_step (m' := m) h]
      have hp := vb_pos (n / 128) m
      generalize (vb (n / 128) m).length = L at q1 q2 hp
      refine ⟨by rw [Int.pow_succ]; omega, .inr ?_⟩
      show (128 : Int) ^ L ≤ n
      rcases q2 with rfl | q2
      · simp; omega
      · obtain ⟨j, rfl⟩ : ∃ j, L = j + 1 := ⟨L - 1, by omega⟩
        rw [Int.pow_succ]
        simp only [Nat.add_sub_cancel] at q2
        omega

/-- The byte that stands i ahead of the last one. -/
theorem vb_at (i : Nat) : ∀ (n m : Int), i < (vb n m).length → (vb n m)[(vb n m).length - 1 - i]? = some (n / 128 ^ i % 128 + if i = 0 then m else 128) := by
  induction i with
  | zero =>
    intro n m _
    by_cases h : n < 128
    · rw [vb_lo h]; simp
    · rw [vb_hi h]; simp
  | succ i ih =>
    intro n m hi
    by_cases h : n < 128
    · rw [vb_lo h] at hi; simp at hi
    · rw [vb_step (m' := 128) h] at hi
      have := ih (n / 128) 128 (by omega)
      rw [vb_step (m' := 128) h, vb_hi h]
      rw [List.getElem?_append_left (by omega), show (vb (n / 128) 128).length + 1 - 1 - (i + 1) = (vb (n / 128) 128).length - 1 - i from by omega, this]
      have e : n / 128 ^ (i + 1) = n / 128 / 128 ^ i := by
        rw [Int.pow_succ, Int.mul_comm, Int.ediv_ediv_of_nonneg (by omega)]
      rw [e]; simp

end Go.Proofs.YteajbcngimccmaaDoor
