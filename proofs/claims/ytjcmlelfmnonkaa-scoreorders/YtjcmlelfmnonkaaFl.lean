/-
  The plain theory of quotients rounded to the nearest, of two as near the even one, over whole numbers; what the format of 64 bits makes of a number and of a quotient. No program's function is walked here. No conditions.
-/
import Ieee.Arith
namespace Go.Proofs.Ytjcmlelfmnonkaa.Fl

/-- x / y to the nearest whole number, of two the even one. -/
def rhe (x y : Nat) : Nat := x / y + (if y < 2 * (x % y) ∨ (y = 2 * (x % y) ∧ x / y % 2 = 1) then 1 else 0)
theorem rhe_mul {c x y : Nat} (hc : 0 < c) : rhe (c * x) (c * y) = rhe x y := by
  unfold rhe
  rw [Nat.mul_div_mul_left _ _ hc, Nat.mul_mod_mul_left]
  have e1 : (c * y < 2 * (c * (x % y))) ↔ y < 2 * (x % y) := by
    rw [show 2 * (c * (x % y)) = c * (2 * (x % y)) by rw [Nat.mul_left_comm]]
    exact Nat.mul_lt_mul_left hc
  have e2 : (c * y = 2 * (c * (x % y))) ↔ y = 2 * (x % y) := by
    rw [show 2 * (c * (x % y)) = c * (2 * (x % y)) by rw [Nat.mul_left_comm]]
    constructor
    · intro h; exact Nat.eq_of_mul_eq_mul_left hc h
    · intro h; rw [← h]
  simp only [e1, e2]
theorem rhe_same {x y x' y' : Nat} (hy : 0 < y) (hy' : 0 < y') (h : x * y' = x' * y) : rhe x y = rhe x' y' := by
  rw [← rhe_mul (x := x) (y := y) hy', ← rhe_mul (x := x') (y := y') hy, Nat.mul_comm y' x, h, Nat.mul_comm x' y, Nat.mul_comm y' y]
theorem rhe_lo (x y : Nat) : x / y ≤ rhe x y := by unfold rhe; omega
theorem rhe_hi (x y : Nat) : rhe x y ≤ x / y + 1 := by unfold rhe; split <;> omega
theorem rhe_one (x : Nat) : rhe x 1 = x := by unfold rhe; simp [Nat.mod_one]
/-- Rounding keeps the order. -/
theorem rhe_mono_num {x x' y : Nat} (_hy : 0 < y) (h : x ≤ x') : rhe x y ≤ rhe x' y := by
  have h1 := Nat.div_le_div_right (c := y) h
  rcases Nat.lt_or_ge (x / y) (x' / y) with k | k
  · exact Nat.le_trans (rhe_hi x y) (Nat.le_trans k (rhe_lo x' y))
  · have e : x / y = x' / y := by omega
    have m1 := Nat.div_add_mod x y
    have m2 := Nat.div_add_mod x' y
    unfold rhe
    rw [← e] at m2 ⊢
    have hr : x % y ≤ x' % y := by omega
    split
    · rename_i h1
      rw [if_pos (by omega)]
      exact Nat.le_refl _
    · omega
theorem rhe_mono {x y x' y' : Nat} (hy : 0 < y) (hy' : 0 < y') (h : x * y' ≤ x' * y) : rhe x y ≤ rhe x' y' := by
  rw [← rhe_mul (x := x) (y := y) hy', ← rhe_mul (x := x') (y := y') hy, Nat.mul_comm y' x, Nat.mul_comm y x', Nat.mul_comm y y']
  exact rhe_mono_num (Nat.mul_pos hy' hy) h
/-- What is not above a whole number is not rounded above it; what is not below one, not below it. -/
theorem rhe_le {x y n : Nat} (hy : 0 < y) (h : x ≤ n * y) : rhe x y ≤ n := by
  have := rhe_mono (x' := n) (y' := 1) hy (by omega) (by omega : x * 1 ≤ n * y)
  rwa [rhe_one] at this
theorem rhe_ge {x y n : Nat} (hy : 0 < y) (h : n * y ≤ x) : n ≤ rhe x y := by
  have := rhe_mono (x := n) (y := 1) (x' := x) (y' := y) (by omega) hy (by omega)
  rwa [rhe_one] at this
theorem rhe_mul_self {n y : Nat} (hy : 0 < y) : rhe (n * y) y = n := Nat.le_antisymm (rhe_le hy (Nat.le_refl _)) (rhe_ge hy (Nat.le_refl _))

/-- A last digit that is 1 where anything is left over tells as much. -/
theorem rhe_sticky {x n d : Nat} (hn : 0 < n) (hd : 1 ≤ d) : rhe (2 * (x / n) + (if x % n ≠ 0 then 1 else 0)) (2 ^ (d + 1)) = rhe x (n * 2 ^ d) := by
  obtain ⟨k, hk⟩ : ∃ k, k = x / n := ⟨_, rfl⟩
  obtain ⟨r, hr⟩ : ∃ r, r = x % n := ⟨_, rfl⟩
  have hx : x = n * k + r := by rw [hk, hr]; exact (Nat.div_add_mod x n).symm
  have hrn : r < n := by rw [hr]; exact Nat.mod_lt _ hn
  obtain ⟨h, hh⟩ : ∃ h, 2 ^ d = 2 * h := ⟨2 ^ (d - 1), by rw [← Nat.pow_succ']; congr 1; omega⟩
  have hpos : 0 < 2 ^ d := Nat.two_pow_pos d
  obtain ⟨p, hp⟩ : ∃ p, p = 2 ^ d := ⟨_, rfl⟩
  rw [← hk, ← hr, Nat.pow_succ]
  rw [← hp] at hh hpos ⊢
  have hkp := Nat.div_add_mod k p
  have hkm := Nat.mod_lt k hpos
  obtain ⟨a, ha⟩ : ∃ a, a = k / p := ⟨_, rfl⟩
  obtain ⟨b, hb⟩ : ∃ b, b = k % p := ⟨_, rfl⟩
  rw [← ha, ← hb] at hkp
  rw [← hb] at hkm
  -- both quotients are a; both rests
  have s01 : (if r ≠ 0 then 1 else 0) < 2 := by split <;> omega
  obtain ⟨s, hs⟩ : ∃ s, s = (if r ≠ 0 then 1 else 0) := ⟨_, rfl⟩
  rw [← hs] at s01 ⊢
  have hs0 : s = 0 ↔ r = 0 := by rw [hs]; split <;> omega
  have q1 : 2 * k + s = (p * 2) * a + (2 * b + s) := by
    rw [← hkp, Nat.mul_add, ← Nat.mul_assoc, Nat.mul_comm 2 p, Nat.add_assoc]
  have l1 : 2 * b + s < p * 2 := by omega
  have q2 : x = (n * p) * a + (n * b + r) := by
    rw [hx, ← hkp, Nat.mul_add, ← Nat.mul_assoc, Nat.add_assoc]
  have l2 : n * b + r < n * p := by
    have h1 : n * (b + 1) ≤ n * p := Nat.mul_le_mul_left n (by omega)
    rw [Nat.mul_add, Nat.mul_one] at h1
    omega
  have d1 : (2 * k + s) / (p * 2) = a := by
    rw [q1, Nat.mul_add_div (by omega), Nat.div_eq_of_lt l1, Nat.add_zero]
  have m1 : (2 * k + s) % (p * 2) = 2 * b + s := by
    rw [q1, Nat.mul_add_mod, Nat.mod_eq_of_lt l1]
  have hnp : 0 < n * p := Nat.mul_pos hn hpos
  have d2 : x / (n * p) = a := by
    rw [q2, Nat.mul_add_div hnp, Nat.div_eq_of_lt l2, Nat.add_zero]
  have m2 : x % (n * p) = n * b + r := by
    rw [q2, Nat.mul_add_mod, Nat.mod_eq_of_lt l2]
  unfold rhe
  rw [d1, m1, d2, m2]
  have key : (p * 2 < 2 * (2 * b + s) ↔ n * p < 2 * (n * b + r)) ∧ (p * 2 = 2 * (2 * b + s) ↔ n * p = 2 * (n * b + r)) := by
    rw [hh]
    rcases Nat.lt_trichotomy b h with c | c | c
    · have h1 : n * (b + 1) ≤ n * h := Nat.mul_le_mul_left n (by omega)
      rw [Nat.mul_add, Nat.mul_one] at h1
      have h2 : n * (2 * h) = 2 * (n * h) := Nat.mul_left_comm _ _ _
      rw [h2]
      constructor <;> omega
    · subst c
      have h2 : n * (2 * b) = 2 * (n * b) := Nat.mul_left_comm _ _ _
      rw [h2]
      constructor <;> omega
    · have h1 : n * (h + 1) ≤ n * b := Nat.mul_le_mul_left n (by omega)
      rw [Nat.mul_add, Nat.mul_one] at h1
      have h2 : n * (2 * h) = 2 * (n * h) := Nat.mul_left_comm _ _ _
      rw [h2]
      constructor <;> omega
  simp only [key.1, key.2]

open Ieee
/-- The format's own cut is this rounding. -/
theorem cut_even (neg : Bool) (n drop : Nat) (hd : drop ≤ n.log2 + 2) : Toward.even.cut neg n drop = rhe n (2 ^ drop) := by
  unfold Toward.cut rhe
  have e : 1 <<< min drop (n.log2 + 2) = 2 ^ drop := by rw [Nat.min_eq_left hd, Nat.one_shiftLeft]
  rw [e]
  congr 1
  simp only [Bool.toNat]
  generalize 2 ^ drop = g
  by_cases h : g < 2 * (n % g) ∨ (g = 2 * (n % g) ∧ n / g % 2 = 1)
  · rw [if_pos h]
    have : (decide (g < 2 * (n % g)) || (g == 2 * (n % g) && n / g % 2 == 1)) = true := by simpa using h
    rw [this]; rfl
  · rw [if_neg h]
    have : (decide (g < 2 * (n % g)) || (g == 2 * (n % g) && n / g % 2 == 1)) = false := by
      rw [Bool.eq_false_iff]; intro k; exact h (by simpa using k)
    rw [this]; rfl

/-- a / b lies between 2 ^ (l - k) and twice that. -/
structure Ns (a b k l : Nat) : Prop where
  lo : b * 2 ^ l ≤ a * 2 ^ k
  hi : a * 2 ^ k < 2 * (b * 2 ^ l)
def kE (a b : Nat) : Nat := if b ≤ a then 0 else ((b - 1) / a).log2 + 1
def lE (a b : Nat) : Nat := if b ≤ a then (a / b).log2 else 0
theorem ns_E {a b : Nat} (ha : 0 < a) (hb : 0 < b) : Ns a b (kE a b) (lE a b) := by
  unfold kE lE
  by_cases h : b ≤ a
  · rw [if_pos h, if_pos h]
    have hq : a / b ≠ 0 := by have := (Nat.le_div_iff_mul_le hb).2 (by omega : 1 * b ≤ a); omega
    have h1 := (Nat.le_log2 hq).1 (Nat.le_refl _)
    have h2 := (Nat.log2_lt hq).1 (Nat.lt_add_one (a / b).log2)
    rw [Nat.le_div_iff_mul_le hb] at h1
    rw [Nat.div_lt_iff_lt_mul hb, Nat.pow_succ] at h2
    refine ⟨?_, ?_⟩
    · rw [Nat.mul_comm b]; omega
    · rw [Nat.mul_comm b, ← Nat.mul_assoc, Nat.mul_comm 2]; omega
  · rw [if_neg h, if_neg h]
    have hq : (b - 1) / a ≠ 0 := by have := (Nat.le_div_iff_mul_le ha).2 (by omega : 1 * a ≤ b - 1); omega
    have h1 := (Nat.le_log2 hq).1 (Nat.le_refl _)
    have h2 := (Nat.log2_lt hq).1 (Nat.lt_add_one ((b - 1) / a).log2)
    rw [Nat.le_div_iff_mul_le ha] at h1
    rw [Nat.div_lt_iff_lt_mul ha] at h2
    refine ⟨?_, ?_⟩
    · rw [Nat.mul_comm a]; omega
    · rw [Nat.pow_succ, ← Nat.mul_assoc, Nat.mul_comm a]; omega
theorem Ns.one {a b k l k' l' : Nat} (hb : 0 < b) (h : Ns a b k l) (h' : Ns a b k' l') : l + k' = l' + k := by
  have key : ∀ {k l k' l' : Nat}, Ns a b k l → Ns a b k' l' → l + k' ≤ l' + k := fun {k l k' l'} h h' => by
    have h1 : b * 2 ^ l * 2 ^ k' ≤ a * 2 ^ k * 2 ^ k' := Nat.mul_le_mul_right _ h.lo
    have h2 : a * 2 ^ k' * 2 ^ k < 2 * (b * 2 ^ l') * 2 ^ k := (Nat.mul_lt_mul_right (Nat.two_pow_pos k)).2 h'.hi
    have e1 : a * 2 ^ k * 2 ^ k' = a * 2 ^ k' * 2 ^ k := by rw [Nat.mul_assoc, Nat.mul_comm (2 ^ k), ← Nat.mul_assoc]
    have h3 : b * 2 ^ l * 2 ^ k' < 2 * (b * 2 ^ l') * 2 ^ k := by omega
    have e2 : b * 2 ^ l * 2 ^ k' = b * 2 ^ (l + k') := by rw [Nat.mul_assoc, ← Nat.pow_add]
    have e3 : 2 * (b * 2 ^ l') * 2 ^ k = b * 2 ^ (l' + k + 1) := by
      rw [Nat.pow_succ, Nat.pow_add, Nat.mul_comm 2, Nat.mul_assoc, Nat.mul_assoc, Nat.mul_comm 2, Nat.mul_assoc]
    rw [e2, e3] at h3
    have h4 := (Nat.mul_lt_mul_left hb).1 h3
    have := (Nat.pow_lt_pow_iff_right (by omega : 1 < 2)).1 h4
    omega
  exact Nat.le_antisymm (key h h') (key h' h)

/-- The bits of a / b, of two numbers above nought. -/
def pos (a b : Nat) : Nat := ((lE a b : Int) - (kE a b : Int) + 1022).toNat * 2 ^ 52 + rhe (a * 2 ^ kE a b * 2 ^ 52) (b * 2 ^ lE a b)
theorem Ns.rhe {a b k l k' l' : Nat} (hb : 0 < b) (h : Ns a b k l) (h' : Ns a b k' l') : Fl.rhe (a * 2 ^ k * 2 ^ 52) (b * 2 ^ l) = Fl.rhe (a * 2 ^ k' * 2 ^ 52) (b * 2 ^ l') := by
  have e := h.one hb h'
  refine rhe_same (Nat.mul_pos hb (Nat.two_pow_pos _)) (Nat.mul_pos hb (Nat.two_pow_pos _)) ?_
  have e1 : ∀ k l : Nat, a * 2 ^ k * 2 ^ 52 * (b * 2 ^ l) = a * b * 2 ^ 52 * 2 ^ (l + k) := fun k l => by
    rw [Nat.pow_add]
    simp only [Nat.mul_comm, Nat.mul_assoc, Nat.mul_left_comm]
  rw [e1, e1, show l' + k = l + k' by omega]
theorem pos_eq {a b k l : Nat} (ha : 0 < a) (hb : 0 < b) (h : Ns a b k l) : pos a b = ((l : Int) - (k : Int) + 1022).toNat * 2 ^ 52 + rhe (a * 2 ^ k * 2 ^ 52) (b * 2 ^ l) := by
  have hE := ns_E ha hb
  unfold pos
  rw [hE.rhe hb h]
  have e := hE.one hb h
  have : (lE a b : Int) - (kE a b : Int) = (l : Int) - (k : Int) := by omega
  rw [this]
theorem Ns.rhe_lo {a b k l : Nat} (hb : 0 < b) (h : Ns a b k l) : 2 ^ 52 ≤ Fl.rhe (a * 2 ^ k * 2 ^ 52) (b * 2 ^ l) :=
  rhe_ge (Nat.mul_pos hb (Nat.two_pow_pos _)) (by rw [Nat.mul_comm]; exact Nat.mul_le_mul_right _ h.lo)
theorem Ns.rhe_hi {a b k l : Nat} (hb : 0 < b) (h : Ns a b k l) : Fl.rhe (a * 2 ^ k * 2 ^ 52) (b * 2 ^ l) ≤ 2 ^ 53 :=
  rhe_le (Nat.mul_pos hb (Nat.two_pow_pos _)) (by
    have h1 := Nat.mul_le_mul_right (2 ^ 52) (Nat.le_of_lt h.hi)
    have e : 2 ^ 53 * (b * 2 ^ l) = 2 * (b * 2 ^ l) * 2 ^ 52 := by
      rw [show (2 : Nat) ^ 53 = 2 * 2 ^ 52 from rfl, Nat.mul_assoc, Nat.mul_assoc, Nat.mul_comm (2 ^ 52)]
    rw [e]
    exact h1)
theorem Ns.bound {a b k l : Nat} (ha : 0 < a) (hb : b ≤ 2 ^ 53) (h : Ns a b k l) : k < l + 54 := by
  have h1 : 2 ^ k ≤ a * 2 ^ k := Nat.le_mul_of_pos_left _ ha
  have h2 : b * 2 ^ l ≤ 2 ^ 53 * 2 ^ l := Nat.mul_le_mul_right _ hb
  have h3 : 2 ^ k < 2 ^ (l + 54) := by
    have : (2 : Nat) ^ (l + 54) = 2 * (2 ^ 53 * 2 ^ l) := by rw [← Nat.pow_add, ← Nat.pow_succ']; congr 1; omega
    have := h.hi
    omega
  exact (Nat.pow_lt_pow_iff_right (by omega)).1 h3
theorem Ns.bound' {a b k l : Nat} (ha : a ≤ 2 ^ 53) (hb : 0 < b) (h : Ns a b k l) : l ≤ k + 53 := by
  have h1 : 2 ^ l ≤ b * 2 ^ l := Nat.le_mul_of_pos_left _ hb
  have h2 : a * 2 ^ k ≤ 2 ^ 53 * 2 ^ k := Nat.mul_le_mul_right _ ha
  have h3 : 2 ^ l ≤ 2 ^ (k + 53) := by
    rw [Nat.add_comm k, Nat.pow_add]
    have := h.lo
    omega
  exact (Nat.pow_le_pow_iff_right (by omega)).1 h3
theorem step_lt {x y P R1 R2 : Nat} (u1 : R1 ≤ 2 * P) (l2 : P ≤ R2) (hxy : x + 1 ≤ y) : x * P + R1 ≤ y * P + R2 := by
  have h3 := Nat.mul_le_mul_right P hxy
  rw [Nat.add_mul, Nat.one_mul] at h3
  omega
/-- Quotients keep the order. -/
theorem pos_mono {a b c d : Nat} (ha : 0 < a) (hb : 0 < b) (hc : 0 < c) (hd : 0 < d) (hb5 : b ≤ 2 ^ 53) (h : a * d ≤ c * b) : pos a b ≤ pos c d := by
  have h1 := ns_E ha hb
  have h2 := ns_E hc hd
  unfold pos
  have l1 := h1.rhe_lo hb
  have u1 := h1.rhe_hi hb
  have l2 := h2.rhe_lo hd
  have b1 := h1.bound ha hb5
  have key : lE a b + kE c d = lE c d + kE a b → rhe (a * 2 ^ kE a b * 2 ^ 52) (b * 2 ^ lE a b) ≤ rhe (c * 2 ^ kE c d * 2 ^ 52) (d * 2 ^ lE c d) := fun e => by
    refine rhe_mono (Nat.mul_pos hb (Nat.two_pow_pos _)) (Nat.mul_pos hd (Nat.two_pow_pos _)) ?_
    have e1 : a * 2 ^ kE a b * 2 ^ 52 * (d * 2 ^ lE c d) = (a * d) * (2 ^ 52 * 2 ^ (lE c d + kE a b)) := by
      rw [Nat.pow_add]; simp only [Nat.mul_comm, Nat.mul_assoc, Nat.mul_left_comm]
    have e2 : c * 2 ^ kE c d * 2 ^ 52 * (b * 2 ^ lE a b) = (c * b) * (2 ^ 52 * 2 ^ (lE a b + kE c d)) := by
      rw [Nat.pow_add]; simp only [Nat.mul_comm, Nat.mul_assoc, Nat.mul_left_comm]
    rw [e1, e2, e]
    exact Nat.mul_le_mul_right _ h
  have le : lE a b + kE c d ≤ lE c d + kE a b := by
    have f1 : b * 2 ^ lE a b * (d * 2 ^ kE c d) ≤ a * 2 ^ kE a b * (d * 2 ^ kE c d) := Nat.mul_le_mul_right _ h1.lo
    have f2 : c * 2 ^ kE c d * (b * 2 ^ kE a b) < 2 * (d * 2 ^ lE c d) * (b * 2 ^ kE a b) := (Nat.mul_lt_mul_right (Nat.mul_pos hb (Nat.two_pow_pos _))).2 h2.hi
    have f3 : a * 2 ^ kE a b * (d * 2 ^ kE c d) ≤ c * 2 ^ kE c d * (b * 2 ^ kE a b) := by
      have e1 : a * 2 ^ kE a b * (d * 2 ^ kE c d) = (a * d) * (2 ^ kE a b * 2 ^ kE c d) := by simp only [Nat.mul_assoc, Nat.mul_left_comm]
      have e2 : c * 2 ^ kE c d * (b * 2 ^ kE a b) = (c * b) * (2 ^ kE a b * 2 ^ kE c d) := by simp only [Nat.mul_comm, Nat.mul_assoc, Nat.mul_left_comm]
      rw [e1, e2]
      exact Nat.mul_le_mul_right _ h
    have f4 : (b * d) * 2 ^ (lE a b + kE c d) < (b * d) * 2 ^ (lE c d + kE a b + 1) := by
      have e1 : b * 2 ^ lE a b * (d * 2 ^ kE c d) = (b * d) * 2 ^ (lE a b + kE c d) := by rw [Nat.pow_add]; simp only [Nat.mul_comm, Nat.mul_assoc, Nat.mul_left_comm]
      have e2 : 2 * (d * 2 ^ lE c d) * (b * 2 ^ kE a b) = (b * d) * 2 ^ (lE c d + kE a b + 1) := by rw [Nat.pow_succ, Nat.pow_add]; simp only [Nat.mul_comm, Nat.mul_assoc, Nat.mul_left_comm]
      omega
    have := (Nat.pow_lt_pow_iff_right (by omega : 1 < 2)).1 ((Nat.mul_lt_mul_left (Nat.mul_pos hb hd)).1 f4)
    omega
  rcases Nat.lt_or_ge (lE a b + kE c d) (lE c d + kE a b) with e | e
  · obtain ⟨x, hx⟩ : ∃ x : Nat, (lE a b : Int) - (kE a b : Int) + 1022 = (x : Int) := ⟨((lE a b : Int) - (kE a b : Int) + 1022).toNat, by omega⟩
    obtain ⟨y, hy⟩ : ∃ y : Nat, (lE c d : Int) - (kE c d : Int) + 1022 = (y : Int) := ⟨((lE c d : Int) - (kE c d : Int) + 1022).toNat, by omega⟩
    rw [hx, hy, Int.toNat_natCast, Int.toNat_natCast]
    exact step_lt u1 l2 (by omega)
  · have e' : lE a b + kE c d = lE c d + kE a b := by omega
    have k := key e'
    have : (lE a b : Int) - (kE a b : Int) = (lE c d : Int) - (kE c d : Int) := by omega
    rw [this]
    omega

theorem log2_at {n L : Nat} (h1 : 2 ^ L ≤ n) (h2 : n < 2 ^ (L + 1)) : n.log2 = L := by
  have hn : n ≠ 0 := by have := Nat.two_pow_pos L; omega
  have a := (Nat.le_log2 hn).2 h1
  have b := (Nat.log2_lt hn).2 h2
  omega
theorem log2_lo {n : Nat} (h : 0 < n) : 2 ^ n.log2 ≤ n := (Nat.le_log2 (by omega)).1 (Nat.le_refl _)
theorem log2_hi {n : Nat} (h : 0 < n) : n < 2 ^ (n.log2 + 1) := (Nat.log2_lt (by omega)).1 (Nat.lt_add_one _)

theorem d_least : double.leastPlace = -1074 := by decide
theorem d_bin : double.binade = 2 ^ 52 := rfl
theorem d_inf : double.infRung = 2047 * 2 ^ 52 := rfl
theorem d_sign : double.signWeight = 2 ^ 63 := rfl
/-- The last digits that are kept. -/
def kp (mag : Nat) : Nat := if mag.log2 ≤ 52 then mag * 2 ^ (52 - mag.log2) else rhe mag (2 ^ (mag.log2 - 52))
theorem kp_hi {mag : Nat} (h : 0 < mag) : kp mag ≤ 2 ^ 53 := by
  have h2 := log2_hi h
  unfold kp
  split
  · rename_i hl
    have : mag * 2 ^ (52 - mag.log2) ≤ 2 ^ (mag.log2 + 1) * 2 ^ (52 - mag.log2) := Nat.mul_le_mul_right _ (Nat.le_of_lt h2)
    rw [← Nat.pow_add, show mag.log2 + 1 + (52 - mag.log2) = 53 by omega] at this
    exact this
  · rename_i hl
    refine rhe_le (Nat.two_pow_pos _) ?_
    rw [← Nat.pow_add, show 53 + (mag.log2 - 52) = mag.log2 + 1 by omega]
    omega
theorem nearest_at (neg : Bool) (mag : Nat) (place : Int) (hm : 0 < mag) (k : Nat) (hk : place + mag.log2 + 1022 = (k : Int)) (hk2 : k ≤ 2045) : double.nearest neg mag place = double.word neg (k * 2 ^ 52 + kp mag) := by
  unfold Format.nearest
  rw [if_neg (by omega)]
  have e1 : max (place + (mag.log2 : Int) - 52) (-1074) = place + mag.log2 - 52 := by omega
  simp only [d_least, d_bin, d_inf, show (double.fractionBits : Int) = 52 from rfl, e1]
  have e2 : (place + (mag.log2 : Int) - 52 - -1074).toNat = k := by omega
  rw [e2]
  have e3 : Toward.even.cut neg (mag <<< (place - (place + (mag.log2 : Int) - 52)).toNat) (place + (mag.log2 : Int) - 52 - place).toNat = kp mag := by
    unfold kp
    by_cases h : mag.log2 ≤ 52
    · rw [if_pos h, show (place + (mag.log2 : Int) - 52 - place).toNat = 0 by omega, show (place - (place + (mag.log2 : Int) - 52)).toNat = 52 - mag.log2 by omega]
      rw [cut_even _ _ _ (by omega), Nat.pow_zero, rhe_one, Nat.shiftLeft_eq]
    · rw [if_neg h, show (place + (mag.log2 : Int) - 52 - place).toNat = mag.log2 - 52 by omega, show (place - (place + (mag.log2 : Int) - 52)).toNat = 0 by omega, Nat.shiftLeft_zero]
      exact cut_even _ _ _ (by omega)
  rw [e3]
  congr 1
  have := kp_hi hm
  refine Nat.min_eq_left ?_
  have h2 := Nat.mul_le_mul_right (2 ^ 52) hk2
  have e : (2047 : Nat) * 2 ^ 52 = 2045 * 2 ^ 52 + 2 ^ 53 := by decide
  rw [e]
  exact Nat.add_le_add h2 this

/-- A whole number as the format has it; what it reads as. -/
def fl (neg : Bool) (n : Nat) : Nat := double.nearest neg n 0
theorem fl_word {n : Nat} (neg : Bool) (h : 0 < n) (h5 : n ≤ 2 ^ 53) : ∃ m, 2 ^ 52 ≤ m ∧ m < 2 ^ 53 ∧ m * 2 ^ n.log2 = n * 2 ^ 52 ∧ n.log2 ≤ 53 ∧ fl neg n = double.word neg ((n.log2 + 1022) * 2 ^ 52 + m) := by
  have h1 := log2_lo h
  have h2 := log2_hi h
  have hL : n.log2 ≤ 53 := by
    have : n < 2 ^ 54 := by have e : (2 : Nat) ^ 54 = 2 * 2 ^ 53 := by decide
                            omega
    have := (Nat.log2_lt (by omega : n ≠ 0)).2 this
    omega
  have hw := nearest_at neg n 0 h (n.log2 + 1022) (by omega) (by omega)
  by_cases hl : n.log2 ≤ 52
  · refine ⟨n * 2 ^ (52 - n.log2), ?_, ?_, ?_, hL, ?_⟩
    · have := Nat.mul_le_mul_right (2 ^ (52 - n.log2)) h1
      rwa [← Nat.pow_add, show n.log2 + (52 - n.log2) = 52 by omega] at this
    · have := (Nat.mul_lt_mul_right (Nat.two_pow_pos (52 - n.log2))).2 h2
      rwa [← Nat.pow_add, show n.log2 + 1 + (52 - n.log2) = 53 by omega] at this
    · rw [Nat.mul_assoc, ← Nat.pow_add, show 52 - n.log2 + n.log2 = 52 by omega]
    · unfold fl; rw [hw]; unfold kp; rw [if_pos hl]
  · have e : n.log2 = 53 := by omega
    rw [e] at h1
    have en : n = 2 ^ 53 := by omega
    refine ⟨2 ^ 52, Nat.le_refl _, by decide, ?_, hL, ?_⟩
    · rw [e, en, Nat.mul_comm]
    · unfold fl; rw [hw]; unfold kp; rw [if_neg hl, e, en]
      congr 2
theorem read_word (neg : Bool) {k m : Nat} (h1 : 2 ^ 52 ≤ m) (h2 : m < 2 ^ 53) (hk : k ≤ 2045) : double.read (double.word neg (k * 2 ^ 52 + m)) = .number neg m ((k : Int) - 1074) := by
  obtain ⟨f, hf⟩ : ∃ f, m = 2 ^ 52 + f := ⟨m - 2 ^ 52, by omega⟩
  have hf2 : f < 2 ^ 52 := by have e : (2 : Nat) ^ 53 = 2 ^ 52 + 2 ^ 52 := by decide
                              omega
  have er : k * 2 ^ 52 + m = 2 ^ 52 * (k + 1) + f := by rw [hf, Nat.mul_add, Nat.mul_comm]; omega
  have hlt : 2 ^ 52 * (k + 1) + f < 2047 * 2 ^ 52 := by
    have := Nat.mul_le_mul_left (2 ^ 52) (show k + 2 ≤ 2047 by omega)
    rw [Nat.mul_add] at this ⊢
    omega
  have hlt2 : 2 ^ 52 * (k + 1) + f < 2 ^ 63 := Nat.lt_trans hlt (by decide)
  have e1 : double.word neg (k * 2 ^ 52 + m) % double.signWeight = 2 ^ 52 * (k + 1) + f := by
    unfold Format.word
    rw [d_sign, er]
    cases neg
    · exact Nat.mod_eq_of_lt hlt2
    · simp only [if_true]
      rw [Nat.add_mod_left]
      exact Nat.mod_eq_of_lt hlt2
  have e2 : (double.word neg (k * 2 ^ 52 + m) / double.signWeight % 2 == 1) = neg := by
    unfold Format.word
    rw [d_sign, er]
    cases neg
    · rw [if_neg (by simp), Nat.div_eq_of_lt hlt2]; rfl
    · simp only [if_true]
      rw [Nat.add_div_left _ (Nat.two_pow_pos 63), Nat.div_eq_of_lt hlt2]; rfl
  unfold Format.read
  simp only [e1, e2, d_bin, d_inf, d_least]
  have hge : ¬ 2 ^ 52 * (k + 1) + f < 2 ^ 52 := by
    have := Nat.le_mul_of_pos_right (2 ^ 52) (show 0 < k + 1 by omega)
    omega
  rw [if_neg hge, if_pos hlt, Nat.mul_add_mod, Nat.mod_eq_of_lt hf2, Nat.mul_add_div (Nat.two_pow_pos 52), Nat.div_eq_of_lt hf2, ← hf]
  congr 1
theorem fl_read {n : Nat} (neg : Bool) (h : 0 < n) (h5 : n ≤ 2 ^ 53) : ∃ m, 2 ^ 52 ≤ m ∧ m < 2 ^ 53 ∧ m * 2 ^ n.log2 = n * 2 ^ 52 ∧ n.log2 ≤ 53 ∧ double.read (fl neg n) = .number neg m ((n.log2 : Int) - 52) := by
  obtain ⟨m, h1, h2, h3, h4, e⟩ := fl_word neg h h5
  refine ⟨m, h1, h2, h3, h4, ?_⟩
  have hr := read_word neg (k := n.log2 + 1022) h1 h2 (by omega)
  have hp : ((n.log2 + 1022 : Nat) : Int) - 1074 = (n.log2 : Int) - 52 := by omega
  rw [hp] at hr
  exact (congrArg double.read e).trans hr

/-- A quotient of two whole numbers is the nearest. -/
theorem div_fl {a b : Nat} (sa sb : Bool) (ha : 0 < a) (hb : 0 < b) (ha5 : a ≤ 2 ^ 53) (hb5 : b ≤ 2 ^ 53) : double.div (fl sa a) (fl sb b) = some (double.word (sa ^^ sb) (pos a b)) := by
  obtain ⟨m, m1, m2, m3, m4, em⟩ := fl_read sa ha ha5
  obtain ⟨n, n1, n2, n3, n4, en⟩ := fl_read sb hb hb5
  unfold Format.div
  rw [em, en, show double.fractionBits + 2 = 54 from rfl]
  have lm : m.log2 = 52 := log2_at m1 m2
  have ln : n.log2 = 52 := log2_at n1 n2
  have hn : 0 < n := by have := Nat.two_pow_pos 52; omega
  simp only [Datum.quotient]
  rw [if_neg (by omega), lm, ln, Nat.shiftLeft_eq, show 54 + 52 - 52 = 54 by omega]
  simp only [Option.map_some, Format.write]
  congr 1
  have es : 2 * (m * 2 ^ 54 / n) + (m * 2 ^ 54 % n != 0).toNat = 2 * (m * 2 ^ 54 / n) + (if m * 2 ^ 54 % n ≠ 0 then 1 else 0) := by
    congr 1
    by_cases h : m * 2 ^ 54 % n = 0
    · rw [h]; rfl
    · rw [if_pos h, bne_iff_ne.2 h]; rfl
  rw [es]
  have s01 : (if m * 2 ^ 54 % n ≠ 0 then 1 else 0) ≤ 1 := by split <;> omega
  have stk := fun d hd => rhe_sticky (x := m * 2 ^ 54) (n := n) (d := d) hn hd
  generalize (if m * 2 ^ 54 % n ≠ 0 then 1 else 0) = s at *
  have ea : ∀ d, a * 2 ^ (53 + d - a.log2) = 2 ^ d * (2 * m) := fun d => by
    have : 2 ^ a.log2 * (a * 2 ^ (53 + d - a.log2)) = 2 ^ a.log2 * (2 ^ d * (2 * m)) := by
      rw [Nat.mul_left_comm, ← Nat.pow_add, show a.log2 + (53 + d - a.log2) = 52 + (d + 1) by omega, Nat.pow_add, ← Nat.mul_assoc, ← m3, Nat.pow_succ]
      simp only [Nat.mul_comm, Nat.mul_assoc, Nat.mul_left_comm]
    exact Nat.eq_of_mul_eq_mul_left (Nat.two_pow_pos _) this
  have eb : b * 2 ^ (53 - b.log2) = 2 * n := by
    have : 2 ^ b.log2 * (b * 2 ^ (53 - b.log2)) = 2 ^ b.log2 * (2 * n) := by
      rw [Nat.mul_left_comm, ← Nat.pow_add, show b.log2 + (53 - b.log2) = 52 + 1 by omega, Nat.pow_add, ← Nat.mul_assoc, ← n3]
      simp only [Nat.mul_comm, Nat.mul_assoc, Nat.mul_left_comm, Nat.pow_one]
    exact Nat.eq_of_mul_eq_mul_left (Nat.two_pow_pos _) this
  have e53 : (2 : Nat) ^ 53 = 2 * 2 ^ 52 := by decide
  by_cases hmn : n ≤ m
  · have q1 : 2 ^ 54 ≤ m * 2 ^ 54 / n := (Nat.le_div_iff_mul_le hn).2 (by rw [Nat.mul_comm]; exact Nat.mul_le_mul_right _ hmn)
    have q2 : m * 2 ^ 54 / n < 2 ^ 55 := (Nat.div_lt_iff_lt_mul hn).2 (by
      rw [show (2 : Nat) ^ 55 = 2 * 2 ^ 54 from rfl, Nat.mul_comm (2 * 2 ^ 54), ← Nat.mul_assoc]
      exact (Nat.mul_lt_mul_right (Nat.two_pow_pos 54)).2 (by omega))
    have lq : (2 * (m * 2 ^ 54 / n) + s).log2 = 55 := log2_at (by omega) (by omega)
    have hns : Ns a b (53 - a.log2) (53 - b.log2) := by
      have e1 := ea 0
      rw [Nat.pow_zero, Nat.one_mul, Nat.add_zero] at e1
      exact ⟨by omega, by omega⟩
    have hp := pos_eq ha hb hns
    have hr : rhe (a * 2 ^ (53 - a.log2) * 2 ^ 52) (b * 2 ^ (53 - b.log2)) = rhe (m * 2 ^ 54) (n * 2 ^ 2) := by
      have e1 := ea 0
      rw [Nat.pow_zero, Nat.one_mul, Nat.add_zero] at e1
      rw [e1, eb]
      refine rhe_same (by omega) (by omega) ?_
      rw [show (2 : Nat) ^ 54 = 4 * 2 ^ 52 from rfl, show (2 : Nat) ^ 2 = 4 from rfl]
      generalize 2 ^ 52 = P
      simp only [Nat.mul_comm, Nat.mul_assoc, Nat.mul_left_comm]
    have hw := nearest_at (sa ^^ sb) (2 * (m * 2 ^ 54 / n) + s) ((a.log2 : Int) - 52 - ((b.log2 : Int) - 52) - ((54 : Nat) : Int) - 1) (by omega) (a.log2 + 1022 - b.log2) (by rw [lq]; omega) (by omega)
    rw [hw, hp, hr]
    unfold kp
    rw [if_neg (by omega), lq, show 55 - 52 = 2 + 1 from rfl, stk 2 (by omega)]
    congr 3
    omega
  · have q1 : 2 ^ 53 ≤ m * 2 ^ 54 / n := (Nat.le_div_iff_mul_le hn).2 (by
      rw [show (2 : Nat) ^ 54 = 2 * 2 ^ 53 from rfl, ← Nat.mul_assoc, Nat.mul_comm (2 ^ 53)]
      exact Nat.mul_le_mul_right _ (by omega))
    have q2 : m * 2 ^ 54 / n < 2 ^ 54 := (Nat.div_lt_iff_lt_mul hn).2 (by
      rw [Nat.mul_comm (2 ^ 54)]
      exact (Nat.mul_lt_mul_right (Nat.two_pow_pos 54)).2 (by omega))
    have lq : (2 * (m * 2 ^ 54 / n) + s).log2 = 54 := log2_at (by omega) (by omega)
    have hns : Ns a b (53 + 1 - a.log2) (53 - b.log2) := by
      have e1 := ea 1
      rw [Nat.pow_one] at e1
      exact ⟨by omega, by omega⟩
    have hp := pos_eq ha hb hns
    have hr : rhe (a * 2 ^ (53 + 1 - a.log2) * 2 ^ 52) (b * 2 ^ (53 - b.log2)) = rhe (m * 2 ^ 54) (n * 2 ^ 1) := by
      rw [ea 1, eb]
      refine rhe_same (by omega) (by omega) ?_
      rw [show (2 : Nat) ^ 54 = 4 * 2 ^ 52 from rfl, Nat.pow_one]
      generalize 2 ^ 52 = P
      simp only [Nat.mul_comm, Nat.mul_assoc, Nat.mul_left_comm]
    have hw := nearest_at (sa ^^ sb) (2 * (m * 2 ^ 54 / n) + s) ((a.log2 : Int) - 52 - ((b.log2 : Int) - 52) - ((54 : Nat) : Int) - 1) (by omega) (a.log2 + 1021 - b.log2) (by rw [lq]; omega) (by omega)
    rw [hw, hp, hr]
    unfold kp
    rw [if_neg (by omega), lq, show 54 - 52 = 1 + 1 from rfl, stk 1 (by omega)]
    congr 3
    omega

/-- A quotient of at least 1 keeps its whole part, and whether it is whole, if what is divided is at most 2 ^ 52. -/
theorem floor_in {a b l : Nat} (hb : 0 < b) (ha : a ≤ 2 ^ 52) (h : Ns a b 0 l) : ∃ R, R = rhe (a * 2 ^ 52) (b * 2 ^ l) ∧ l ≤ 52 ∧ 2 ^ 52 ≤ R ∧ R < 2 ^ 53 ∧ R / 2 ^ (52 - l) = a / b ∧ (R % 2 ^ (52 - l) = 0 ↔ a % b = 0) := by
  have hlo := h.lo
  have hhi := h.hi
  rw [Nat.pow_zero, Nat.mul_one] at hlo hhi
  have hl : l ≤ 52 := by
    have h1 : 2 ^ l ≤ b * 2 ^ l := Nat.le_mul_of_pos_left _ hb
    exact (Nat.pow_le_pow_iff_right (by omega : 1 < 2)).1 (Nat.le_trans h1 (Nat.le_trans hlo ha))
  have hbp : 0 < b * 2 ^ l := Nat.mul_pos hb (Nat.two_pow_pos l)
  obtain ⟨g, hg⟩ : ∃ g, g = 2 ^ (52 - l) := ⟨_, rfl⟩
  have hgl : g * 2 ^ l = 2 ^ 52 := by rw [hg, ← Nat.pow_add]; congr 1; omega
  have hg0 : 0 < g := by rw [hg]; exact Nat.two_pow_pos _
  obtain ⟨n, hn⟩ : ∃ n, n = a / b := ⟨_, rfl⟩
  obtain ⟨r, hr⟩ : ∃ r, r = a % b := ⟨_, rfl⟩
  have har : a = b * n + r := by rw [hn, hr]; exact (Nat.div_add_mod a b).symm
  have hrb : r < b := by rw [hr]; exact Nat.mod_lt _ hb
  have e1 : ∀ t, t * g * (b * 2 ^ l) = t * b * 2 ^ 52 := fun t => by
    rw [← hgl]; simp only [Nat.mul_comm, Nat.mul_assoc, Nat.mul_left_comm]
  have up : rhe (a * 2 ^ 52) (b * 2 ^ l) + 1 ≤ (n + 1) * g := by
    have hpos : 1 ≤ (n + 1) * g := Nat.mul_pos (by omega) hg0
    have : rhe (a * 2 ^ 52) (b * 2 ^ l) ≤ (n + 1) * g - 1 := by
      refine rhe_le hbp ?_
      rw [Nat.sub_mul, e1, Nat.one_mul]
      have h2 : (a + 1) * 2 ^ 52 ≤ (n + 1) * b * 2 ^ 52 := Nat.mul_le_mul_right _ (by rw [har, Nat.add_mul, Nat.one_mul, Nat.mul_comm n]; omega)
      rw [Nat.add_mul, Nat.one_mul] at h2
      exact Nat.le_sub_of_add_le (Nat.le_trans (Nat.add_le_add_left (Nat.le_trans hlo ha) _) h2)
    exact (Nat.le_sub_iff_add_le hpos).1 this
  have lo : n * g ≤ rhe (a * 2 ^ 52) (b * 2 ^ l) := by
    refine rhe_ge hbp ?_
    rw [e1]
    exact Nat.mul_le_mul_right _ (by rw [har, Nat.mul_comm n]; omega)
  have lo1 : r ≠ 0 → n * g + 1 ≤ rhe (a * 2 ^ 52) (b * 2 ^ l) := fun h0 => by
    refine rhe_ge hbp ?_
    rw [Nat.add_mul, e1, Nat.one_mul]
    have h2 : (n * b + 1) * 2 ^ 52 ≤ a * 2 ^ 52 := Nat.mul_le_mul_right _ (by rw [har, Nat.mul_comm n]; omega)
    rw [Nat.add_mul, Nat.one_mul] at h2
    exact Nat.le_trans (Nat.add_le_add_left (Nat.le_trans hlo ha) _) h2
  have ex : r = 0 → rhe (a * 2 ^ 52) (b * 2 ^ l) = n * g := fun h0 => by
    have : a * 2 ^ 52 = n * g * (b * 2 ^ l) := by rw [e1, har, h0, Nat.add_zero, Nat.mul_comm n]
    rw [this, rhe_mul_self hbp]
  have hlo2 := h.rhe_lo hb
  rw [Nat.pow_zero, Nat.mul_one] at hlo2
  have hn2 : n + 1 ≤ 2 * 2 ^ l := by
    have : a / b < 2 * 2 ^ l := (Nat.div_lt_iff_lt_mul hb).2 (by rw [Nat.mul_assoc, Nat.mul_comm (2 ^ l)]; exact hhi)
    omega
  have h53 : (n + 1) * g ≤ 2 ^ 53 := by
    have := Nat.mul_le_mul_right g hn2
    rw [Nat.mul_assoc, Nat.mul_comm (2 ^ l), hgl] at this
    exact this
  have hdiv : rhe (a * 2 ^ 52) (b * 2 ^ l) / g = n := by
    refine Nat.div_eq_of_lt_le lo ?_
    omega
  refine ⟨_, rfl, hl, hlo2, by omega, ?_, ?_⟩
  · rw [← hg, hdiv, hn]
  · rw [← hg, ← hr]
    have hm := Nat.div_add_mod (rhe (a * 2 ^ 52) (b * 2 ^ l)) g
    rw [hdiv, Nat.mul_comm g] at hm
    constructor
    · intro h0
      by_cases hr0 : r = 0
      · exact hr0
      · have := lo1 hr0
        omega
    · intro h0
      have := ex h0
      omega
/-- A quotient below 1 is not rounded up to 1. -/
theorem floor_out {a b k : Nat} (ha : 0 < a) (hab : a < b) (hb : b ≤ 2 ^ 53) (h : Ns a b k 0) : rhe (a * 2 ^ k * 2 ^ 52) b ≤ 2 ^ 53 ∧ (k = 1 → rhe (a * 2 ^ k * 2 ^ 52) b < 2 ^ 53) ∧ 1 ≤ k := by
  have h1 := h.rhe_hi (by omega)
  rw [Nat.pow_zero, Nat.mul_one] at h1
  refine ⟨h1, fun hk => ?_, ?_⟩
  · subst hk
    have : rhe (a * 2 ^ 1 * 2 ^ 52) b ≤ 2 ^ 53 - 1 := by
      refine rhe_le (by omega) ?_
      rw [Nat.sub_mul, Nat.one_mul, Nat.mul_assoc, ← Nat.pow_add, Nat.mul_comm a]
      have h2 : 2 ^ (1 + 52) * (a + 1) ≤ 2 ^ 53 * b := Nat.mul_le_mul_left _ (by omega)
      rw [Nat.mul_add, Nat.mul_one] at h2
      omega
    omega
  · rcases Nat.eq_zero_or_pos k with h0 | h0
    · have := h.lo
      rw [h0] at this
      omega
    · exact h0
end Go.Proofs.Ytjcmlelfmnonkaa.Fl
