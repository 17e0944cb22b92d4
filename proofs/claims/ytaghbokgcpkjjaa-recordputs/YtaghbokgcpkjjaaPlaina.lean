/-
  Plain mathematics of package adler, with nothing of the program in it: the sum of bytes by its two parts, what two sums are together, a sum without its first byte, and how they belong together. No conditions.
-/
import Derived.Below
namespace Go.Proofs.Ytaghbokgcpkjjaa

/-- All numbers of a list together. -/
def tot : List Int → Int
  | [] => 0
  | c :: r => c + tot r
/-- All numbers of a list, each as often as it and what stands behind it are many. -/
def wt : List Int → Int
  | [] => 0
  | c :: r => ((r.length : Int) + 1) * c + wt r

theorem tot_append (a b : List Int) : tot (a ++ b) = tot a + tot b := by
  induction a with
  | nil => simp [tot]
  | cons c r ih => simp only [List.cons_append, tot, ih]; omega

theorem wt_append (a b : List Int) : wt (a ++ b) = wt a + (b.length : Int) * tot a + wt b := by
  induction a with
  | nil => simp [tot, wt]
  | cons c r ih =>
    simp only [List.cons_append, wt, tot, ih, List.length_append, Int.natCast_add, Int.add_mul, Int.mul_add]
    omega

theorem cg_add {a b c d : Int} (h : a % 65521 = b % 65521) (k : c % 65521 = d % 65521) : (a + c) % 65521 = (b + d) % 65521 := by rw [Int.add_emod, h, k, ← Int.add_emod]
theorem cg_sub {a b c d : Int} (h : a % 65521 = b % 65521) (k : c % 65521 = d % 65521) : (a - c) % 65521 = (b - d) % 65521 := by rw [Int.sub_emod, h, k, ← Int.sub_emod]
theorem cg_mul {a b c d : Int} (h : a % 65521 = b % 65521) (k : c % 65521 = d % 65521) : (a * c) % 65521 = (b * d) % 65521 := by rw [Int.mul_emod, h, k, ← Int.mul_emod]
theorem cg_self (a : Int) : a % 65521 % 65521 = a % 65521 := by omega

theorem tm_bd (n : Int) : -65521 < n.tmod 65521 ∧ n.tmod 65521 < 65521 ∧ n.tmod 65521 % 65521 = n % 65521 := by
  by_cases h : 0 ≤ n
  · rw [Int.tmod_eq_emod_of_nonneg h]; omega
  · have e : n.tmod 65521 = -((-n) % 65521) := by
      have := Int.neg_tmod (a := n) (b := 65521)
      rw [Int.tmod_eq_emod_of_nonneg (by omega)] at this
      omega
    rw [e]; omega
theorem tm_neg {n : Int} (h : n.tmod 65521 < 0) : n.tmod 65521 + 65521 = n % 65521 := by have := tm_bd n; omega
theorem tm_pos {n : Int} (h : 0 ≤ n.tmod 65521) : n.tmod 65521 = n % 65521 := by have := tm_bd n; omega
theorem tot_take {xs : List Int} {k : Nat} (h : k < xs.length) : tot (xs.take (k + 1)) = tot (xs.take k) + xs.getD k 0 := by
  have e : xs.getD k 0 = xs[k] := by simp [List.getD, h]
  rw [e, List.take_succ_eq_append_getElem h, tot_append]
  simp [tot]

/-- A sum of two parts, each modulo 65521. -/
def wh (x y : Int) : Int := y % 65521 * 65536 + x % 65521
/-- The sum of bytes. -/
def sm (b : List Int) : Int := wh (1 + tot b) ((b.length : Int) + wt b)
/-- What is below nought counts as nought. -/
def cut0 (n : Int) : Int := if n < 0 then 0 else n
/-- Two sums together. -/
def jn (a b n : Int) : Int := wh (a % 65536 + b % 65536 - 1) (a / 65536 + b / 65536 + (cut0 n % 65521) * (a % 65536 - 1))
/-- A sum without the first byte. -/
def dr (a f n : Int) : Int := wh (a % 65536 - f) (a / 65536 - 1 - (cut0 n % 65521 + 1) * f)
/-- May a number be a sum? -/
def may (n : Int) : Bool := decide (n % 65536 < 65521 ∧ n / 65536 < 65521)

theorem wh_lo (x y : Int) : wh x y % 65536 = x % 65521 := by unfold wh; omega
theorem wh_hi (x y : Int) : wh x y / 65536 = y % 65521 := by unfold wh; omega
theorem wh_bd (x y : Int) : 0 ≤ wh x y ∧ wh x y < 4294967296 := by unfold wh; omega
theorem wh_may (x y : Int) : may (wh x y) = true := by unfold may; rw [wh_lo, wh_hi]; simp; omega
theorem wh_cg {x y u v : Int} (h : x % 65521 = u % 65521) (k : y % 65521 = v % 65521) : wh x y = wh u v := by unfold wh; rw [h, k]
theorem wh_ne_lo {x y u v : Int} (h : x % 65521 ≠ u % 65521) : wh x y ≠ wh u v := fun e => h (by rw [← wh_lo x y, ← wh_lo u v, e])
theorem wh_ne_hi {x y u v : Int} (h : y % 65521 ≠ v % 65521) : wh x y ≠ wh u v := fun e => h (by rw [← wh_hi x y, ← wh_hi u v, e])
theorem wh_parts {n : Int} (h : may n = true) (h0 : 0 ≤ n) : wh (n % 65536) (n / 65536) = n := by
  simp [may] at h; unfold wh; omega

theorem sm_bd (b : List Int) : 0 ≤ sm b ∧ sm b < 4294967296 := wh_bd _ _
theorem jn_bd (a b n : Int) : 0 ≤ jn a b n ∧ jn a b n < 4294967296 := wh_bd _ _
theorem dr_bd (a f n : Int) : 0 ≤ dr a f n ∧ dr a f n < 4294967296 := wh_bd _ _
theorem sm_may (b : List Int) : may (sm b) = true := wh_may _ _

theorem cut0_nat (n : Nat) : cut0 (n : Int) = n := by unfold cut0; rw [if_neg (by omega)]

theorem jn_sm (a b : List Int) : jn (sm a) (sm b) (b.length : Int) = sm (a ++ b) := by
  unfold jn sm
  rw [wh_lo, wh_lo, wh_hi, wh_hi, cut0_nat]
  refine wh_cg ?_ ?_
  · rw [tot_append]; omega
  · rw [wt_append, List.length_append]
    have h1 : ((b.length : Int) % 65521 * ((1 + tot a) % 65521 - 1)) % 65521 = ((b.length : Int) * tot a) % 65521 := cg_mul (cg_self _) (by omega)
    rw [cg_add (cg_add (cg_self _) (cg_self _)) h1]
    congr 1
    simp only [Int.natCast_add]
    omega

theorem dr_sm (f : Int) (r : List Int) : dr (sm (f :: r)) f (r.length : Int) = sm r := by
  unfold dr sm
  rw [wh_lo, wh_hi, cut0_nat]
  refine wh_cg ?_ ?_
  · simp only [tot]; omega
  · have h1 : ((((r.length : Int) % 65521 + 1)) * f) % 65521 = (((r.length : Int) + 1) * f) % 65521 := cg_mul (by omega) rfl
    rw [cg_sub (cg_sub (cg_self _) rfl) h1]
    congr 1
    simp only [wt, List.length_cons, Int.natCast_add]
    omega

/-- One step of the sum's parts. -/
theorem lo_snoc (b : List Int) (c : Int) : (1 + tot (b ++ [c])) % 65521 = ((1 + tot b) % 65521 + c) % 65521 := by rw [tot_append]; simp only [tot]; omega
theorem hi_snoc (b : List Int) (c : Int) : (((b ++ [c]).length : Int) + wt (b ++ [c])) % 65521 = (((b.length : Int) + wt b) % 65521 + (1 + tot (b ++ [c])) % 65521) % 65521 := by
  rw [wt_append, tot_append]
  simp only [tot, wt, List.length_append, List.length_cons, List.length_nil, Int.natCast_add]
  have e : ((0 : Nat) : Int) = 0 := rfl
  have e1 : ((1 : Nat) : Int) = 1 := rfl
  simp only [e, e1, Int.zero_add, Int.one_mul, Int.add_zero]
  omega

theorem getD_take_drop {b : List Int} {k : Nat} (h : k < b.length) : b = b.take k ++ b.getD k 0 :: b.drop (k + 1) := by
  have : b.getD k 0 = b[k] := by simp [List.getD, h]
  rw [this, ← List.drop_eq_getElem_cons h, List.take_append_drop]

/-- One byte that is another one makes another sum. -/
theorem sm_one (a r : List Int) (c d : Int) (hc : 0 ≤ c) (hc' : c ≤ 255) (hd : 0 ≤ d) (hd' : d ≤ 255) (h : c ≠ d) : sm (a ++ c :: r) ≠ sm (a ++ d :: r) := by
  unfold sm
  refine wh_ne_lo ?_
  rw [tot_append, tot_append]
  simp only [tot]
  omega

/-- Two different neighbours that change their places make another sum. -/
theorem sm_two (a r : List Int) (c d : Int) (hc : 0 ≤ c) (hc' : c ≤ 255) (hd : 0 ≤ d) (hd' : d ≤ 255) (h : c ≠ d) : sm (a ++ c :: d :: r) ≠ sm (a ++ d :: c :: r) := by
  unfold sm
  refine wh_ne_hi ?_
  rw [wt_append, wt_append]
  simp only [wt, List.length_append, List.length_cons, Int.natCast_add, Int.add_mul]
  omega

theorem jn_none (a : Int) (h : may a = true) (h0 : 0 ≤ a) : jn a 1 0 = a := by
  unfold jn
  rw [show cut0 0 = 0 from rfl]
  refine Eq.trans (wh_cg ?_ ?_) (wh_parts h h0)
  · congr 1
    omega
  · congr 1
    simp
theorem jn_one (a n : Int) (h : may a = true) (h0 : 0 ≤ a) : jn 1 a n = a := by
  unfold jn
  refine Eq.trans (wh_cg ?_ ?_) (wh_parts h h0)
  · congr 1
    omega
  · congr 1
    simp

end Go.Proofs.Ytaghbokgcpkjjaa
