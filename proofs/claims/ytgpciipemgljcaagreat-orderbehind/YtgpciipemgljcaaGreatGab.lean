/-
  Plain mathematics of package attr, with nothing of the program in it: an attribute is a number and a list of deps; when one may be, is within another, waits for a slot; what many are together. No conditions.
-/
import Derived.Below
import Derived.Test.YtgpciipemgljcaaGreatRows
import Derived.WalkKit
import Derived.WalkSpells
import Derived.WalkLawsBesides
import Derived.ProofKit
import Derived.Lib.Hide
import Derived.Lib.MinMax
import Derived.Deep.QuietTactic
import Derived.BigQuiet
import Derived.Deep.RegionHeld3
import Derived.Deep.DrawnRows
import Derived.Test.YtgpciipemgljcaaGreatGaa
import Derived.Sort.Grow
namespace Go.Proofs.YtgpciipemgljcaaGreat.At

/-- The dep of a replica (1, 2 and so on); 0 where there is none. -/
def dp (xs : List Int) (k : Int) : Int := if k < 1 ∨ (xs.length : Int) < k then 0 else xs.getD (k - 1).toNat 0
theorem dp_at (xs : List Int) (i : Nat) : dp xs ((i : Int) + 1) = xs.getD i 0 := by
  unfold dp
  split
  · rename_i h
    have : xs.length ≤ i := by omega
    simp [List.getD, List.getElem?_eq_none this]
  · congr 1; omega
theorem dp_out {xs : List Int} {k : Int} (h : k < 1 ∨ (xs.length : Int) < k) : dp xs k = 0 := if_pos h
theorem dp_in {xs : List Int} {k : Int} (h : 1 ≤ k) : dp xs k = xs.getD (k - 1).toNat 0 := by
  have := dp_at xs (k - 1).toNat
  rwa [show ((k - 1).toNat : Int) + 1 = k by omega] at this

theorem getD_out {xs : List Int} {i : Nat} (h : xs.length ≤ i) : xs.getD i 0 = 0 := by simp [List.getD, List.getElem?_eq_none h]

/-- Whether one is within another. -/
def wi (a : Int) (xs : List Int) (b : Int) (ys : List Int) : Bool := decide (a ≤ b) && (List.range (max xs.length ys.length)).all fun i => decide (xs.getD i 0 ≤ ys.getD i 0)
theorem wi_iff {a b : Int} {xs ys : List Int} : wi a xs b ys = true ↔ a ≤ b ∧ ∀ i, xs.getD i 0 ≤ ys.getD i 0 := by
  unfold wi
  rw [Bool.and_eq_true, decide_eq_true_eq, List.all_eq_true]
  constructor
  · rintro ⟨h, h2⟩
    refine ⟨h, fun i => ?_⟩
    by_cases hi : i < max xs.length ys.length
    · exact of_decide_eq_true (h2 i (List.mem_range.2 hi))
    · rw [getD_out (by omega), getD_out (by omega)]; exact Int.le_refl _
  · rintro ⟨h, h2⟩
    exact ⟨h, fun i _ => decide_eq_true (h2 i)⟩
theorem wi_no {a b : Int} {xs ys : List Int} (h : b < a) : wi a xs b ys = false := by
  rw [Bool.eq_false_iff]; intro h2; have := (wi_iff.1 h2).1; omega
theorem wi_not {a b : Int} {xs ys : List Int} {i : Nat} (h : ys.getD i 0 < xs.getD i 0) : wi a xs b ys = false := by
  rw [Bool.eq_false_iff]; intro h2; have := (wi_iff.1 h2).2 i; omega
theorem wi_yes {a b : Int} {xs ys : List Int} (h : a ≤ b) (h2 : ∀ i, i < max xs.length ys.length → xs.getD i 0 ≤ ys.getD i 0) : wi a xs b ys = true := by
  refine wi_iff.2 ⟨h, fun i => ?_⟩
  by_cases hi : i < max xs.length ys.length
  · exact h2 i hi
  · rw [getD_out (by omega), getD_out (by omega)]; exact Int.le_refl _

/-- Whether two are the same. -/
def sa (a : Int) (xs : List Int) (b : Int) (ys : List Int) : Bool := wi a xs b ys && wi b ys a xs
theorem sa_iff {a b : Int} {xs ys : List Int} : sa a xs b ys = true ↔ a = b ∧ ∀ i, xs.getD i 0 = ys.getD i 0 := by
  unfold sa
  rw [Bool.and_eq_true, wi_iff, wi_iff]
  constructor
  · rintro ⟨⟨h1, h2⟩, h3, h4⟩
    exact ⟨by omega, fun i => by have := h2 i; have := h4 i; omega⟩
  · rintro ⟨rfl, h⟩
    exact ⟨⟨Int.le_refl _, fun i => by rw [h i]; exact Int.le_refl _⟩, Int.le_refl _, fun i => by rw [h i]; exact Int.le_refl _⟩

/-- Whether one may be, among so many replicas. -/
def my (a : Int) (xs : List Int) (n : Int) : Bool := decide (1 ≤ n ∧ n ≤ 7 ∧ (xs.length : Int) = n ∧ (∀ x ∈ xs, 0 ≤ x ∧ x ≤ 1048576) ∧ 0 ≤ a ∧ a ≤ 1073741824)
theorem my_iff {a : Int} {xs : List Int} {n : Int} : my a xs n = true ↔ 1 ≤ n ∧ n ≤ 7 ∧ (xs.length : Int) = n ∧ (∀ x ∈ xs, 0 ≤ x ∧ x ≤ 1048576) ∧ 0 ≤ a ∧ a ≤ 1073741824 := decide_eq_true_iff
theorem my_no {a : Int} {xs : List Int} {n : Int} (h : n < 1 ∨ 7 < n ∨ (xs.length : Int) ≠ n ∨ a < 0 ∨ 1073741824 < a) : my a xs n = false := by
  rw [Bool.eq_false_iff]; intro h2; obtain ⟨q1, q2, q3, _, q5, q6⟩ := my_iff.1 h2; omega
theorem my_not {a : Int} {xs : List Int} {n : Int} {i : Nat} (hi : i < xs.length) (h : xs.getD i 0 < 0 ∨ 1048576 < xs.getD i 0) : my a xs n = false := by
  rw [Bool.eq_false_iff]; intro h2
  have := (my_iff.1 h2).2.2.2.1 (xs.getD i 0) (by simp [List.getD, hi])
  omega
theorem my_yes {a : Int} {xs : List Int} {n : Int} (h1 : 1 ≤ n) (h2 : n ≤ 7) (h3 : (xs.length : Int) = n) (h4 : ∀ i, i < xs.length → 0 ≤ xs.getD i 0 ∧ xs.getD i 0 ≤ 1048576) (h5 : 0 ≤ a) (h6 : a ≤ 1073741824) : my a xs n = true :=
  my_iff.2 ⟨h1, h2, h3, fun x hx => by
    obtain ⟨i, hi, rfl⟩ := List.mem_iff_getElem.1 hx
    have := h4 i hi
    simpa [List.getD, hi] using this, h5, h6⟩
theorem my_at {a : Int} {xs : List Int} {n : Int} (h : my a xs n = true) (i : Nat) : 0 ≤ xs.getD i 0 ∧ xs.getD i 0 ≤ 1048576 := by
  by_cases hi : i < xs.length
  · exact (my_iff.1 h).2.2.2.1 (xs.getD i 0) (by simp [List.getD, hi])
  · rw [getD_out (by omega)]; omega

/-- Whether one waits for a slot of a replica. -/
def wt (xs : List Int) (k s : Int) : Bool := decide (1 ≤ s ∧ s ≤ dp xs k)
theorem wt_iff {xs : List Int} {k s : Int} : wt xs k s = true ↔ 1 ≤ s ∧ s ≤ dp xs k := decide_eq_true_iff
theorem wt_lo {xs : List Int} {k s : Int} (h : ¬ 1 ≤ s) : wt xs k s = false := by
  rw [Bool.eq_false_iff]; intro h2; exact h (wt_iff.1 h2).1
theorem wt_hi {xs : List Int} {k s : Int} (h : 1 ≤ s) : wt xs k s = decide (s ≤ dp xs k) := by
  unfold wt; simp [h]

/-- How many deps there are where there are most; the greatest number; the greatest dep in a place; all of these. -/
def lg (l : List (Int × List Int)) : Nat := l.foldl (fun n r => max n r.2.length) 0
def sq (l : List (Int × List Int)) : Int := l.foldl (fun n r => max n r.1) 0
def dm (l : List (Int × List Int)) (i : Nat) : Int := l.foldl (fun n r => max n (r.2.getD i 0)) 0
def mg (l : List (Int × List Int)) : List Int := (List.range (lg l)).map (dm l)

theorem lg_snoc (l : List (Int × List Int)) (r : Int × List Int) : lg (l ++ [r]) = max (lg l) r.2.length := by simp [lg]
theorem sq_snoc (l : List (Int × List Int)) (r : Int × List Int) : sq (l ++ [r]) = max (sq l) r.1 := by simp [sq]
theorem dm_snoc (l : List (Int × List Int)) (r : Int × List Int) (i : Nat) : dm (l ++ [r]) i = max (dm l i) (r.2.getD i 0) := by simp [dm]

theorem lg_take (l : List (Int × List Int)) (k : Nat) (h : k < l.length) : lg (l.take (k + 1)) = max (lg (l.take k)) (l[k]).2.length := by
  rw [List.take_succ_eq_append_getElem h, lg_snoc]
theorem sq_take (l : List (Int × List Int)) (k : Nat) (h : k < l.length) : sq (l.take (k + 1)) = max (sq (l.take k)) (l[k]).1 := by
  rw [List.take_succ_eq_append_getElem h, sq_snoc]
theorem dm_take (l : List (Int × List Int)) (k : Nat) (h : k < l.length) (i : Nat) : dm (l.take (k + 1)) i = max (dm (l.take k) i) ((l[k]).2.getD i 0) := by
  rw [List.take_succ_eq_append_getElem h, dm_snoc]

theorem snoc_ind {α : Type} {P : List α → Prop} (h0 : P []) (h1 : ∀ l x, P l → P (l ++ [x])) (l : List α) : P l := by
  suffices h : ∀ n, ∀ l : List α, l.length = n → P l from h _ l rfl
  intro n
  induction n with
  | zero => intro l hl; rw [List.length_eq_zero_iff.1 hl]; exact h0
  | succ n ih =>
    intro l hl
    have hne : l ≠ [] := fun h => by rw [h] at hl; simp at hl
    rw [← List.dropLast_concat_getLast hne]
    exact h1 _ _ (ih _ (by simp [hl]))

theorem lg_le (l : List (Int × List Int)) : ∀ r ∈ l, r.2.length ≤ lg l := by
  refine snoc_ind (P := fun l => ∀ r ∈ l, r.2.length ≤ lg l) (fun r h => by cases h) (fun l x ih r hr => ?_) l
  rw [lg_snoc]
  rcases List.mem_append.1 hr with h | h
  · have := ih r h; omega
  · simp at h; subst h; omega
theorem lg_bd {N : Nat} (l : List (Int × List Int)) : (∀ r ∈ l, r.2.length ≤ N) → lg l ≤ N := by
  refine snoc_ind (P := fun l => (∀ r ∈ l, r.2.length ≤ N) → lg l ≤ N) (fun _ => Nat.zero_le _) (fun l x ih h => ?_) l
  rw [lg_snoc]
  have h1 := ih (fun r hr => h r (List.mem_append_left _ hr))
  have h2 := h x (by simp)
  omega
theorem dm_nn (l : List (Int × List Int)) (i : Nat) : 0 ≤ dm l i := by
  refine snoc_ind (P := fun l => 0 ≤ dm l i) (Int.le_refl _) (fun l x ih => ?_) l
  rw [dm_snoc]; omega
theorem sq_nn (l : List (Int × List Int)) : 0 ≤ sq l := by
  refine snoc_ind (P := fun l => 0 ≤ sq l) (Int.le_refl _) (fun l x ih => ?_) l
  rw [sq_snoc]; omega
theorem dm_out (l : List (Int × List Int)) (i : Nat) : lg l ≤ i → dm l i = 0 := by
  refine snoc_ind (P := fun l => lg l ≤ i → dm l i = 0) (fun _ => rfl) (fun l x ih h => ?_) l
  rw [lg_snoc] at h
  rw [dm_snoc, ih (by omega), getD_out (by omega)]; rfl

theorem mg_len (l : List (Int × List Int)) : (mg l).length = lg l := by simp [mg]
theorem mg_at (l : List (Int × List Int)) (i : Nat) : (mg l).getD i 0 = dm l i := by
  by_cases h : i < lg l
  · simp [mg, List.getD, h]
  · rw [getD_out (by rw [mg_len]; omega), dm_out l i (by omega)]
theorem ints_ext {xs ys : List Int} (hl : xs.length = ys.length) (h : ∀ i, i < xs.length → xs.getD i 0 = ys.getD i 0) : xs = ys := by
  refine List.ext_getElem hl fun i h1 h2 => ?_
  have := h i h1
  simpa [List.getD, h1, h2] using this
theorem mg_ext {l : List (Int × List Int)} {ys : List Int} (hl : ys.length = lg l) (h : ∀ i, ys.getD i 0 = dm l i) : ys = mg l :=
  ints_ext (by rw [hl, mg_len]) fun i _ => by rw [h i, mg_at]

/-- What the document says two are together. -/
def jn (xs ys : List Int) : List Int := (List.range (max xs.length ys.length)).map fun i => max (max 0 (xs.getD i 0)) (ys.getD i 0)
theorem jn_len (xs ys : List Int) : (jn xs ys).length = max xs.length ys.length := by simp [jn]
theorem jn_at (xs ys : List Int) {i : Nat} (h : i < max xs.length ys.length) : (jn xs ys).getD i 0 = max (max 0 (xs.getD i 0)) (ys.getD i 0) := by
  simp only [jn, List.getD, List.getElem?_map]
  rw [List.getElem?_range h]
  rfl
theorem jn_take (xs ys : List Int) {k : Nat} (h : k < max xs.length ys.length) : (jn xs ys).take (k + 1) = (jn xs ys).take k ++ [max (max 0 (xs.getD k 0)) (ys.getD k 0)] := by
  have hk : k < (jn xs ys).length := by rw [jn_len]; exact h
  rw [List.take_succ_eq_append_getElem hk, ← jn_at xs ys h]
  simp [List.getD, hk]
theorem jn_mg (l : List (Int × List Int)) (r : Int × List Int) : jn (mg l) r.2 = mg (l ++ [r]) := by
  refine ints_ext (by rw [jn_len, mg_len, mg_len, lg_snoc]) fun i hi => ?_
  rw [jn_len] at hi
  rw [jn_at _ _ hi, mg_at, mg_at, dm_snoc]
  have := dm_nn l i
  omega

end Go.Proofs.YtgpciipemgljcaaGreat.At

/-
  Words for memory that the walks of package attr use: a slice of integers that reads as a list, a slice of attributes, a box that holds one, and a row of the call's own. No program's function is walked here. No conditions.
-/
namespace Go.Proofs.YtgpciipemgljcaaGreat.At
open Go.RowKit

/-- The slice at the address A reads as the integers xs, all of which lie below block B. -/
def Sl (w : World) (B : Nat) (k : IntKind) (A : Option Addr) (xs : List Int) : Prop :=
  xs = [] ∨ ∃ b off, A = some ⟨b, off, none⟩ ∧ b < B ∧ ∀ j x, xs[j]? = some x → w.cell? ⟨b, off + j, none⟩ = some (.int k x)

theorem Sl.nil {w : World} {B : Nat} {k : IntKind} {A : Option Addr} : Sl w B k A [] := .inl rfl

theorem Sl.at_ {w : World} {B : Nat} {k : IntKind} {A : Option Addr} {xs : List Int} (h : Sl w B k A xs) {j : Nat} (hj : j < xs.length) :
    ∃ b off, A = some ⟨b, off, none⟩ ∧ b < B ∧ w.cell? ⟨b, off + j, none⟩ = some (.int k (xs.getD j 0)) := by
  rcases h with rfl | ⟨b, off, hA, hb, hc⟩
  · simp at hj
  · exact ⟨b, off, hA, hb, by simpa [List.getD, List.getElem?_eq_getElem hj] using hc j xs[j] (List.getElem?_eq_getElem hj)⟩

theorem Sl.below {w w' : World} {B : Nat} {k : IntKind} {A : Option Addr} {xs : List Int} (h : Sl w B k A xs) (hb : Below B w w') : Sl w' B k A xs := by
  rcases h with rfl | ⟨b, off, hA, hlt, hc⟩
  · exact .inl rfl
  · exact .inr ⟨b, off, hA, hlt, fun j x hx => (hb.cell (p := ⟨b, off + j, none⟩) hlt).trans (hc j x hx)⟩

theorem Sl.mono {w : World} {B B' : Nat} {k : IntKind} {A : Option Addr} {xs : List Int} (h : Sl w B k A xs) (hB : B ≤ B') : Sl w B' k A xs := by
  rcases h with rfl | ⟨b, off, hA, hlt, hc⟩
  · exact .inl rfl
  · exact .inr ⟨b, off, hA, by omega, hc⟩

theorem Sl.take {w : World} {B : Nat} {k : IntKind} {A : Option Addr} {xs : List Int} (h : Sl w B k A xs) (n : Nat) : Sl w B k A (xs.take n) := by
  rcases h with rfl | ⟨b, off, hA, hlt, hc⟩
  · exact .inl (by simp)
  · exact .inr ⟨b, off, hA, hlt, fun j x hx => hc j x (by rw [List.getElem?_take] at hx; split at hx <;> simp_all)⟩

theorem Sl.drop {w : World} {B b off : Nat} {k : IntKind} {xs : List Int} (h : Sl w B k (some ⟨b, off, none⟩) xs) (n : Nat) : Sl w B k (some ⟨b, off + n, none⟩) (xs.drop n) := by
  rcases h with rfl | ⟨b', off', hA, hlt, hc⟩
  · exact .inl (by simp)
  · obtain ⟨rfl, rfl⟩ : b = b' ∧ off = off' := by simpa using hA
    exact .inr ⟨b, off + n, rfl, hlt, fun j x hx => by rw [Nat.add_assoc]; exact hc (n + j) x (by rw [List.getElem?_drop] at hx; exact hx)⟩

/-- A row of the call's own is a slice that reads as its list. -/
theorem own_slice {w : World} {base : Nat} {e : TypeId} {k : IntKind} {v : Value} {xs : List Int} (h : w.ownsRow base e 1 v xs.length (xs.map (Value.int k))) :
    ∃ A c, v = .slice A xs.length c ∧ Sl w w.heap.size k A xs ∧ xs.length ≤ c := by
  rcases h.2 with ⟨rfl, h0⟩ | ⟨g, cap, cur, rfl, hg, hh, hnc, hcp, hcs, htake⟩
  · exact ⟨none, 0, by rw [h0], .inl (List.length_eq_zero_iff.1 h0), by omega⟩
  · refine ⟨_, cap, rfl, .inr ⟨g, 0, rfl, lt_of_block hh, fun j x hx => ?_⟩, hnc⟩
    have hj : j < xs.length := (List.getElem?_eq_some_iff.1 hx).1
    rw [Nat.zero_add, h.cellAt j (by omega)]
    simp [hx]

/-- A slice that came in, as the shell tells it, reads as its first elements. -/
theorem sl_of_cells {k : IntKind} {w : World} {x : Addr} {len cap : Nat} {zs : List Int} (hl : len ≤ cap) (hz : zs.length = cap)
    (hcell : ∀ i, i < zs.length → w.cell? (x.add i) = some (.int k (zs.getD i 0))) : Sl w w.heap.size k (some x) (zs.take len) := by
  rcases Nat.eq_zero_or_pos len with rfl | hp
  · exact .inl (by simp)
  · obtain ⟨b, off, sp⟩ := x
    have hc := hcell 0 (by omega)
    have hsp : sp = none := by simpa [Addr.add] using World.cell?_spot hc
    subst hsp
    have hc0 : w.cell? ⟨b, off, none⟩ = some (.int k (zs.getD 0 0)) := by simpa [Addr.add] using hc
    refine .inr ⟨b, off, rfl, World.block_lt_of_cell? w _ hc0, fun j x hx => ?_⟩
    rw [List.getElem?_take] at hx
    split at hx
    · have hj : j < zs.length := (List.getElem?_eq_some_iff.1 hx).1
      have := hcell j hj
      rw [Addr.add_lit] at this
      rw [this]
      simp [List.getD, hx]
    · cases hx

/-- An attribute as a value. -/
def av (a : Int) (A : Option Addr) (n c : Nat) : Value := .agg #[.int .i64 a, .slice A n c]

/-- An attribute in a box. -/
def Rb (w : World) (B : Nat) (a : Int) (A : Option Addr) (n c : Nat) : Prop := w.cell? ⟨B, 0, none⟩ = some (.int .i64 a) ∧ w.cell? ⟨B, 1, none⟩ = some (.slice A n c)
theorem Rb.on {w w' : World} {B D : Nat} {a : Int} {A : Option Addr} {n c : Nat} (h : Rb w B a A n c) (hb : Below D w w') (hlt : B < D) : Rb w' B a A n c :=
  ⟨(hb.cell (p := ⟨B, 0, none⟩) hlt).trans h.1, (hb.cell (p := ⟨B, 1, none⟩) hlt).trans h.2⟩
theorem rb_new (w : World) (a : Int) (A : Option Addr) (n c : Nat) : Rb (w.alloc (.cells #[.int .i64 a, .slice A n c] 28)) w.heap.size a A n c := ⟨by simp, by simp⟩

/-- An instance in a box. -/
def Ib (w : World) (B : Nat) (x y : Int) : Prop := w.cell? ⟨B, 0, none⟩ = some (.int .i64 x) ∧ w.cell? ⟨B, 1, none⟩ = some (.int .i64 y)
theorem Ib.on {w w' : World} {B D : Nat} {x y : Int} (h : Ib w B x y) (hb : Below D w w') (hlt : B < D) : Ib w' B x y :=
  ⟨(hb.cell (p := ⟨B, 0, none⟩) hlt).trans h.1, (hb.cell (p := ⟨B, 1, none⟩) hlt).trans h.2⟩
theorem ib_new (w : World) (x y : Int) : Ib (w.alloc (.cells #[.int .i64 x, .int .i64 y] 25)) w.heap.size x y := ⟨by simp, by simp⟩

theorem Sl.up {w w' : World} {k : IntKind} {A : Option Addr} {xs : List Int} (h : Sl w w.heap.size k A xs) (hb : Below w.heap.size w w') : Sl w' w'.heap.size k A xs := (h.below hb).mono hb.size
/-- A slice in the past is one now. -/
theorem Sl.to {w w' : World} {B : Nat} {k : IntKind} {A : Option Addr} {xs : List Int} (h : Sl w B k A xs) (hb : Below B w w') (hB : B ≤ w'.heap.size) : Sl w' w'.heap.size k A xs := (h.below hb).mono hB

/-- A slice of attributes that reads as l. -/
def Rc (w : World) (B : Nat) (A : Option Addr) (l : List (Int × List Int)) : Prop :=
  l = [] ∨ ∃ b off, A = some ⟨b, off, none⟩ ∧ b < B ∧ ∀ i r, l[i]? = some r → w.cell? ⟨b, off + i * 2, none⟩ = some (.int .i64 r.1) ∧
    ∃ A' c', w.cell? ⟨b, off + i * 2 + 1, none⟩ = some (.slice A' r.2.length c') ∧ Sl w B .i64 A' r.2
theorem Rc.at_ {w : World} {B : Nat} {A : Option Addr} {l : List (Int × List Int)} (h : Rc w B A l) {i : Nat} (hi : i < l.length) : ∃ b off A' c', A = some ⟨b, off, none⟩ ∧ b < B ∧ w.cell? ⟨b, off + i * 2, none⟩ = some (.int .i64 (l[i]).1) ∧
    w.cell? ⟨b, off + i * 2 + 1, none⟩ = some (.slice A' (l[i]).2.length c') ∧ Sl w B .i64 A' (l[i]).2 := by
  rcases h with rfl | ⟨b, off, hA, hb, hc⟩
  · simp at hi
  · obtain ⟨h1, A', c', h2, h3⟩ := hc i l[i] (List.getElem?_eq_getElem hi)
    exact ⟨b, off, A', c', hA, hb, h1, h2, h3⟩
theorem Rc.below {w w' : World} {B : Nat} {A : Option Addr} {l : List (Int × List Int)} (h : Rc w B A l) (hb : Below B w w') : Rc w' B A l := by
  rcases h with rfl | ⟨b, off, hA, hlt, hc⟩
  · exact .inl rfl
  · refine .inr ⟨b, off, hA, hlt, fun i r hr => ?_⟩
    obtain ⟨h1, A', c', h2, h3⟩ := hc i r hr
    exact ⟨(hb.cell (p := ⟨b, off + i * 2, none⟩) hlt).trans h1, A', c', (hb.cell (p := ⟨b, off + i * 2 + 1, none⟩) hlt).trans h2, h3.below hb⟩
theorem Rc.mono {w : World} {B B' : Nat} {A : Option Addr} {l : List (Int × List Int)} (h : Rc w B A l) (hB : B ≤ B') : Rc w B' A l := by
  rcases h with rfl | ⟨b, off, hA, hlt, hc⟩
  · exact .inl rfl
  · refine .inr ⟨b, off, hA, by omega, fun i r hr => ?_⟩
    obtain ⟨h1, A', c', h2, h3⟩ := hc i r hr
    exact ⟨h1, A', c', h2, h3.mono hB⟩

/-- Two attributes that were laid one behind the other. -/
theorem rc_two {w : World} {a a' : Int} {A A' : Option Addr} {xs ys : List Int} {c c' : Nat} (hx : Sl w w.heap.size .i64 A xs) (hy : Sl w w.heap.size .i64 A' ys) :
    Rc (w.alloc (.cells #[.int .i64 a, .slice A xs.length c, .int .i64 a', .slice A' ys.length c'] 28)) (w.heap.size + 1) (some ⟨w.heap.size, 0, none⟩) [(a, xs), (a', ys)] := by
  have bel : Below w.heap.size w (w.alloc (.cells #[.int .i64 a, .slice A xs.length c, .int .i64 a', .slice A' ys.length c'] 28)) := (Below.refl _ _).alloc (Nat.le_refl _) _
  refine .inr ⟨_, 0, rfl, by omega, fun i r hr => ?_⟩
  match i, hr with
  | 0, hr => simp at hr; subst hr; exact ⟨by simp, A, c, by simp, (hx.below bel).mono (by omega)⟩
  | 1, hr => simp at hr; subst hr; exact ⟨by simp, A', c', by simp, (hy.below bel).mono (by omega)⟩
theorem rc_four {w : World} {a1 a2 a3 a4 : Int} {A1 A2 A3 A4 : Option Addr} {x1 x2 x3 x4 : List Int} {c1 c2 c3 c4 : Nat} (h1 : Sl w w.heap.size .i64 A1 x1) (h2 : Sl w w.heap.size .i64 A2 x2) (h3 : Sl w w.heap.size .i64 A3 x3) (h4 : Sl w w.heap.size .i64 A4 x4) :
    Rc (w.alloc (.cells #[.int .i64 a1, .slice A1 x1.length c1, .int .i64 a2, .slice A2 x2.length c2, .int .i64 a3, .slice A3 x3.length c3, .int .i64 a4, .slice A4 x4.length c4] 28)) (w.heap.size + 1) (some ⟨w.heap.size, 0, none⟩) [(a1, x1), (a2, x2), (a3, x3), (a4, x4)] := by
  have bel : Below w.heap.size w (w.alloc (.cells #[.int .i64 a1, .slice A1 x1.length c1, .int .i64 a2, .slice A2 x2.length c2, .int .i64 a3, .slice A3 x3.length c3, .int .i64 a4, .slice A4 x4.length c4] 28)) := (Below.refl _ _).alloc (Nat.le_refl _) _
  refine .inr ⟨_, 0, rfl, by omega, fun i r hr => ?_⟩
  match i, hr with
  | 0, hr => simp at hr; subst hr; exact ⟨by simp, A1, c1, by simp, (h1.below bel).mono (by omega)⟩
  | 1, hr => simp at hr; subst hr; exact ⟨by simp, A2, c2, by simp, (h2.below bel).mono (by omega)⟩
  | 2, hr => simp at hr; subst hr; exact ⟨by simp, A3, c3, by simp, (h3.below bel).mono (by omega)⟩
  | 3, hr => simp at hr; subst hr; exact ⟨by simp, A4, c4, by simp, (h4.below bel).mono (by omega)⟩

/-- The call gave this bool, or number; nothing that was there has turned. -/
def BoolPost (w : World) (b : Bool) (e : Ending) (w' : World) : Prop := e = .returned (.bool b) ∧ Below w.heap.size w w'
def IntPost (w : World) (n : Int) (e : Ending) (w' : World) : Prop := e = .returned (.int .i64 n) ∧ Below w.heap.size w w'
def UpPost (w : World) (e : Ending) (w' : World) : Prop := e = .returned (.bool true) ∧ Below w.heap.size w w'
/-- The call gave an attribute. -/
def AtPost (w : World) (a : Int) (xs : List Int) (e : Ending) (w' : World) : Prop := ∃ A c, e = .returned (.agg #[.int .i64 a, .slice A xs.length c]) ∧ Sl w' w'.heap.size .i64 A xs ∧ Below w.heap.size w w'

end Go.Proofs.YtgpciipemgljcaaGreat.At

/-
  The components in the order in which they are told: each thing stands in one of them, and what it waits for in that one or in an earlier one. No program's function is walked here. No conditions.
-/
namespace Go.Proofs.YtgpciipemgljcaaGreat.Gp
set_option linter.unusedVariables false

theorem cmp_len {E : Nat → Nat → Prop} (m k : Nat) : (cmp E m k).length ≤ m := by
  unfold cmp
  refine Nat.le_trans (List.length_filter_le _ _) ?_
  simp
theorem Out.isc {E : Nat → Nat → Prop} {m : Nat} {T : Nat → Prop} {r : List (List Nat)} (h : Out E m T r) : ∀ p ∈ r, ∃ k, k < m ∧ p = cmp E m k := by
  induction h with
  | done _ => intro p hp; simp at hp
  | step hl _ ih =>
    intro p hp
    rcases List.mem_cons.1 hp with rfl | hp
    · exact ⟨_, hl.1, rfl⟩
    · exact ih p hp
noncomputable def nt (T : Nat → Prop) (x : Nat) : Bool := @decide (¬ T x) (Classical.propDecidable _)
theorem nt_iff {T : Nat → Prop} {x : Nat} : nt T x = true ↔ ¬ T x := by simp [nt]
theorem Out.few {E : Nat → Nat → Prop} {m : Nat} {T : Nat → Prop} {r : List (List Nat)} (h : Out E m T r) : r.length ≤ (List.range m).countP (nt T) := by
  induction h with
  | done _ => simp
  | @step T k r hl _ ih =>
    have := countP_lt (p := nt T) (q := nt fun x => T x ∨ x ∈ cmp E m k) (l := List.range m) (a := k) (fun x _ hx => nt_iff.2 fun t => nt_iff.1 hx (.inl t)) (by simpa using hl.1) (nt_iff.2 hl.2.1) (by
      rcases hb : nt (fun x => T x ∨ x ∈ cmp E m k) k with _ | _
      · rfl
      · exact absurd (.inr (cmp_self hl.1)) (nt_iff.1 hb))
    rw [List.length_cons]
    omega
theorem Out.len {E : Nat → Nat → Prop} {m : Nat} {T : Nat → Prop} {r : List (List Nat)} (h : Out E m T r) : r.length ≤ m := by
  have h1 := h.few
  refine Nat.le_trans h1 (Nat.le_trans List.countP_le_length ?_)
  simp
theorem Out.zlen {E : Nat → Nat → Prop} {m : Nat} {T : Nat → Prop} {r : List (List Nat)} (h : Out E m T r) (hm : m ≤ 1000) : (r.map zs).length ≤ 1000 ∧ ∀ x ∈ r.map zs, x.length ≤ 1000 := by
  refine ⟨by rw [List.length_map]; exact Nat.le_trans h.len hm, fun x hx => ?_⟩
  obtain ⟨p, hp, rfl⟩ := List.mem_map.1 hx
  obtain ⟨k, _, rfl⟩ := h.isc p hp
  rw [zs_len]
  exact Nat.le_trans (cmp_len m k) hm
section
variable {E : Nat → Nat → Prop} {m : Nat}
/-- What holds of what is left to tell, T having been told. -/
structure Ot (E : Nat → Nat → Prop) (m : Nat) (T : Nat → Prop) (out : List (List Nat)) : Prop where
  new : ∀ p ∈ out, ∀ x ∈ p, x < m ∧ ¬ T x
  dis : out.Pairwise fun p q => ∀ x, x ∈ p → x ∉ q
  all : ∀ x, x < m → ¬ T x → ∃ p, p ∈ out ∧ x ∈ p
  ord : ∀ (i : Nat) (p : List Nat) (x y : Nat), out[i]? = some p → x ∈ p → E x y → T y ∨ ∃ (j : Nat) (q : List Nat), j ≤ i ∧ out[j]? = some q ∧ y ∈ q
theorem Out.ot (hE : ∀ x y, E x y → x < m ∧ y < m) {T : Nat → Prop} {out : List (List Nat)} (h : Out E m T out) : Cs E T → Ot E m T out := by
  induction h with
  | done h => exact fun _ => ⟨fun p hp => by simp at hp, List.Pairwise.nil, fun x hx hn => absurd (h x hx) hn, fun i p x y hp => by simp at hp⟩
  | @step T k r hl _ ih =>
    intro hc
    have hi := ih (hc.add hE hl.2.2.1)
    have hk : ∀ x, x ∈ cmp E m k → ¬ T x := fun x hx t => hl.2.1 (hc.rt t (mem_cmp.1 hx).2.2)
    refine ⟨fun p hp x hx => ?_, ?_, fun x hx hn => ?_, fun i p x y hp hx e => ?_⟩
    · rcases List.mem_cons.1 hp with rfl | hp
      · exact ⟨(mem_cmp.1 hx).1, hk x hx⟩
      · exact ⟨(hi.new p hp x hx).1, fun t => (hi.new p hp x hx).2 (.inl t)⟩
    · rw [List.pairwise_cons]
      exact ⟨fun q hq x hx hxq => (hi.new q hq x hxq).2 (.inr hx), hi.dis⟩
    · by_cases hxk : x ∈ cmp E m k
      · exact ⟨_, List.mem_cons_self, hxk⟩
      · obtain ⟨p, hp, hxp⟩ := hi.all x hx (fun h => h.elim hn hxk)
        exact ⟨p, List.mem_cons_of_mem _ hp, hxp⟩
    · rcases i with _ | i
      · simp only [List.getElem?_cons_zero, Option.some.injEq] at hp
        subst hp
        rcases (hc.add hE hl.2.2.1) x y (.inr hx) e with t | t
        · exact .inl t
        · exact .inr ⟨0, _, Nat.le_refl _, rfl, t⟩
      · rw [List.getElem?_cons_succ] at hp
        rcases hi.ord i p x y hp hx e with (t | t) | ⟨j, q, hj, hq, hy⟩
        · exact .inl t
        · exact .inr ⟨0, _, Nat.zero_le _, rfl, t⟩
        · exact .inr ⟨j + 1, q, by omega, by rw [List.getElem?_cons_succ]; exact hq, hy⟩
theorem Out.ot0 (hE : ∀ x y, E x y → x < m ∧ y < m) {out : List (List Nat)} (h : Out E m (fun _ => False) out) : Ot E m (fun _ => False) out := h.ot hE (fun _ _ f => f.elim)
/-- Two places at which a thing stands are one. -/
theorem Ot.place {out : List (List Nat)} {T : Nat → Prop} (h : Ot E m T out) {i j x : Nat} {p q : List Nat} (hi : out[i]? = some p) (hj : out[j]? = some q) (hp : x ∈ p) (hq : x ∈ q) : i = j := by
  obtain ⟨hil, rfl⟩ := List.getElem?_eq_some_iff.1 hi
  obtain ⟨hjl, rfl⟩ := List.getElem?_eq_some_iff.1 hj
  rcases Nat.lt_trichotomy i j with hlt | rfl | hlt
  · exact absurd hq (List.pairwise_iff_getElem.1 h.dis i j hil hjl hlt x hp)
  · rfl
  · exact absurd hp (List.pairwise_iff_getElem.1 h.dis j i hjl hil hlt x hq)
theorem Out.many (hE : ∀ x y, E x y → x < m ∧ y < m) {out : List (List Nat)} (h : Out E m (fun _ => False) out) : out.flatten.length = m := by
  have ho := h.ot0 hE
  have hn : out.flatten.Nodup := by
    rw [List.Nodup, List.pairwise_flatten]
    refine ⟨fun p hp => ?_, ho.dis.imp fun k => ?_⟩
    · obtain ⟨k, _, rfl⟩ := h.isc p hp
      exact rises_nodup (cmp_rises k)
    · exact fun x hx y hy e => k x hx (e ▸ hy)
  have := len_same (c := List.range m) hn (rises_nodup (range_lt m)) fun x => by
    rw [List.mem_flatten, List.mem_range]
    constructor
    · rintro ⟨p, hp, hx⟩
      exact (ho.new p hp x hx).1
    · intro hx
      exact ho.all x hx (fun f => f)
  simpa using this
end
/-- How many stand in the first k parts. -/
def cn (out : List (List Nat)) (k : Nat) : Nat := (out.take k).flatten.length
theorem cn_zero (out : List (List Nat)) : cn out 0 = 0 := by simp [cn]
theorem cn_succ (out : List (List Nat)) (k : Nat) (h : k < out.length) : cn out (k + 1) = cn out k + out[k].length := by
  unfold cn
  rw [List.take_succ_eq_append_getElem h, List.flatten_append, List.length_append]
  simp
theorem cn_all (out : List (List Nat)) : cn out out.length = out.flatten.length := by unfold cn; rw [List.take_length]
theorem cn_le (out : List (List Nat)) (k : Nat) : cn out k ≤ out.flatten.length := by
  have : out.flatten = (out.take k).flatten ++ (out.drop k).flatten := by rw [← List.flatten_append, List.take_append_drop]
  rw [this, List.length_append]
  exact Nat.le_add_right _ _

end Go.Proofs.YtgpciipemgljcaaGreat.Gp

/-
  The plain theory behind package order: the nodes that count, what is missing, which are ready, and the order in which they are done. No program's function is walked here. No conditions.
-/
namespace Go.Proofs.YtgpciipemgljcaaGreat.Od
open Go.Proofs.YtgpciipemgljcaaGreat.Gp (Rt Out Ot cmp mem_cmp)
set_option linter.unusedVariables false

/-- A node: whose it is, its slot, its number and its deps; where these lie, and how many may. -/
structure No where
  b : Int
  s : Int
  q : Int
  d : List Int
  h : Option Addr
  c : Nat
abbrev Is := Int × Int
def No.i (n : No) : Is := (n.b, n.s)
def wa (n : No) (i : Is) : Bool := At.wt n.d i.1 i.2
def nr (n : No) : Bool := decide (1 ≤ n.b ∧ n.b ≤ 7 ∧ 1 ≤ n.s ∧ n.s ≤ 60 ∧ ∀ x ∈ n.d, x ≤ 60)
theorem nr_iff {n : No} : nr n = true ↔ 1 ≤ n.b ∧ n.b ≤ 7 ∧ 1 ≤ n.s ∧ n.s ≤ 60 ∧ ∀ x ∈ n.d, x ≤ 60 := decide_eq_true_iff
theorem wa_dep {n : No} {i : Is} (h : wa n i = true) : 1 ≤ i.2 ∧ 1 ≤ i.1 ∧ i.1 ≤ (n.d.length : Int) ∧ n.d.getD (i.1 - 1).toNat 0 ∈ n.d ∧ i.2 ≤ n.d.getD (i.1 - 1).toNat 0 := by
  have h1 := At.wt_iff.1 h
  by_cases hk : i.1 < 1 ∨ (n.d.length : Int) < i.1
  · rw [At.dp_out hk] at h1; omega
  · have h2 : i.2 ≤ n.d.getD (i.1 - 1).toNat 0 := by
      rw [At.dp_in (by omega)] at h1; exact h1.2
    refine ⟨h1.1, by omega, by omega, ?_, h2⟩
    have hlt : (i.1 - 1).toNat < n.d.length := by omega
    rw [List.getD_eq_getElem?_getD, List.getElem?_eq_getElem hlt]
    exact List.getElem_mem hlt

/-- One instance ahead of another one. -/
def il (a b : Is) : Prop := a.1 < b.1 ∨ a.1 = b.1 ∧ a.2 < b.2
theorem il_asym {a b : Is} (h : il a b) : ¬ il b a := by unfold il at *; omega
theorem il_ne {a b : Is} (h : il a b) : a ≠ b := by rintro rfl; exact il_asym h h
theorem il_tri {a b : Is} (h : a ≠ b) : il a b ∨ il b a := by
  unfold il
  obtain ⟨a1, a2⟩ := a
  obtain ⟨b1, b2⟩ := b
  simp only [ne_eq, Prod.mk.injEq] at h ⊢
  omega

/-- Two lists that rise and have the same members are the same. -/
theorem same_of_rises {α : Type} {R : α → α → Prop} (ha : ∀ x y, R x y → ¬ R y x) : ∀ {l r : List α}, l.Pairwise R → r.Pairwise R → (∀ x, x ∈ l ↔ x ∈ r) → l = r := by
  intro l
  induction l with
  | nil =>
    intro r _ _ h
    cases r with
    | nil => rfl
    | cons y r => have := (h y).2 (by simp); simp at this
  | cons x l ih =>
    intro r hl hr h
    cases r with
    | nil => have := (h x).1 (by simp); simp at this
    | cons y r =>
      rw [List.pairwise_cons] at hl hr
      have e : x = y := by
        rcases List.mem_cons.1 ((h x).1 (by simp)) with e | hx
        · exact e
        · rcases List.mem_cons.1 ((h y).2 (by simp)) with e | hy
          · exact e.symm
          · exact absurd (hr.1 x hx) (ha _ _ (hl.1 y hy))
      subst e
      congr 1
      refine ih hl.2 hr.2 fun z => ⟨fun hz => ?_, fun hz => ?_⟩
      · rcases List.mem_cons.1 ((h z).1 (List.mem_cons_of_mem _ hz)) with e | k
        · subst e; exact absurd (hl.1 z hz) (ha _ _ (hl.1 z hz))
        · exact k
      · rcases List.mem_cons.1 ((h z).2 (List.mem_cons_of_mem _ hz)) with e | k
        · subst e; exact absurd (hr.1 z hz) (ha _ _ (hr.1 z hz))
        · exact k

/-- The instances that may count: the first so many of a replica; of the first so many replicas. -/
def axr (a j : Nat) : List Is := (List.range j).map fun (b : Nat) => ((a : Int) + 1, (b : Int) + 1)
def axk (k : Nat) : List Is := (List.range k).flatMap fun (a : Nat) => axr a 60
def ax : List Is := axk 7
theorem axr_zero (a : Nat) : axr a 0 = [] := rfl
theorem axr_succ (a j : Nat) : axr a (j + 1) = axr a j ++ [((a : Int) + 1, (j : Int) + 1)] := by simp [axr, List.range_succ]
theorem axk_zero : axk 0 = [] := rfl
theorem axk_succ (k : Nat) : axk (k + 1) = axk k ++ axr k 60 := by simp [axk, List.range_succ]
theorem mem_axr {a j : Nat} {i : Is} : i ∈ axr a j ↔ i.1 = (a : Int) + 1 ∧ 1 ≤ i.2 ∧ i.2 ≤ (j : Int) := by
  simp only [axr, List.mem_map, List.mem_range]
  constructor
  · rintro ⟨b, hb, rfl⟩
    exact ⟨rfl, by show (1 : Int) ≤ (b : Int) + 1; omega, by show (b : Int) + 1 ≤ (j : Int); omega⟩
  · rintro ⟨h1, h2, h3⟩
    refine ⟨(i.2 - 1).toNat, by omega, ?_⟩
    ext
    · simp only; omega
    · simp only; omega
theorem mem_axk {k : Nat} {i : Is} : i ∈ axk k ↔ 1 ≤ i.1 ∧ i.1 ≤ (k : Int) ∧ 1 ≤ i.2 ∧ i.2 ≤ 60 := by
  simp only [axk, List.mem_flatMap, List.mem_range, mem_axr]
  constructor
  · rintro ⟨a, ha, h1, h2, h3⟩
    omega
  · rintro ⟨h1, h2, h3, h4⟩
    exact ⟨(i.1 - 1).toNat, by omega, by omega, h3, by omega⟩
theorem mem_ax {i : Is} : i ∈ ax ↔ 1 ≤ i.1 ∧ i.1 ≤ 7 ∧ 1 ≤ i.2 ∧ i.2 ≤ 60 := mem_axk
theorem axr_rises (a j : Nat) : (axr a j).Pairwise il := by
  unfold axr
  rw [List.pairwise_map]
  exact List.pairwise_lt_range.imp fun h => .inr ⟨rfl, by simp only; omega⟩
theorem axk_rises (k : Nat) : (axk k).Pairwise il := by
  induction k with
  | zero => simp [axk]
  | succ k ih =>
    rw [axk_succ, List.pairwise_append]
    refine ⟨ih, axr_rises _ _, fun a ha b hb => .inl ?_⟩
    have h1 := mem_axk.1 ha
    have h2 := mem_axr.1 hb
    omega
theorem ax_rises : ax.Pairwise il := axk_rises 7

/-- The first near node of the first hundred that has an instance; the one that counts; all that count. -/
def fs (l : List No) (i : Is) : Option No := (l.take 100).find? fun n => nr n && decide (n.i = i)
def ct (l : List No) (D : List Is) (i : Is) : Option No := if i ∈ D then none else fs l i
def cs (l : List No) (D : List Is) : List No := ax.filterMap (ct l D)
theorem fs_some {l : List No} {i : Is} {n : No} (h : fs l i = some n) : n ∈ l ∧ nr n = true ∧ n.i = i := by
  have h1 := List.find?_some h
  simp only [Bool.and_eq_true, decide_eq_true_eq] at h1
  exact ⟨List.mem_of_mem_take (List.mem_of_find?_eq_some h), h1.1, h1.2⟩
theorem fs_ex {l : List No} {n : No} (hn : n ∈ l.take 100) (hr : nr n = true) : ∃ x, fs l n.i = some x := by
  cases hf : fs l n.i with
  | some x => exact ⟨x, rfl⟩
  | none =>
    have := List.find?_eq_none.1 hf n hn
    simp [hr] at this
theorem ct_some {l : List No} {D : List Is} {i : Is} {n : No} : ct l D i = some n ↔ i ∉ D ∧ fs l i = some n := by
  unfold ct
  split
  · rename_i h; simp [h]
  · rename_i h; simp [h]
theorem mem_cs {l : List No} {D : List Is} {n : No} : n ∈ cs l D ↔ ct l D n.i = some n := by
  unfold cs
  rw [List.mem_filterMap]
  constructor
  · rintro ⟨i, _, h⟩
    have := (fs_some (ct_some.1 h).2).2.2
    rwa [this]
  · intro h
    refine ⟨n.i, ?_, h⟩
    have := nr_iff.1 (fs_some (ct_some.1 h).2).2.1
    exact mem_ax.2 ⟨this.1, this.2.1, this.2.2.1, this.2.2.2.1⟩
theorem cs_rises (l : List No) (D : List Is) : (cs l D).Pairwise fun x y => il x.i y.i := by
  unfold cs
  rw [List.pairwise_filterMap]
  refine ax_rises.imp fun {a a'} h x hx y hy => ?_
  rw [(fs_some (ct_some.1 hx).2).2.2, (fs_some (ct_some.1 hy).2).2.2]
  exact h
theorem cs_inj {l : List No} {D : List Is} {x y : No} (hx : x ∈ cs l D) (hy : y ∈ cs l D) (h : x.i = y.i) : x = y := by
  rw [mem_cs] at hx hy
  rw [h, hy] at hx
  exact (Option.some.inj hx).symm
theorem cs_nr {l : List No} {D : List Is} {x : No} (hx : x ∈ cs l D) : nr x = true := (fs_some (ct_some.1 (mem_cs.1 hx)).2).2.1
theorem cs_in {l : List No} {D : List Is} {x : No} (hx : x ∈ cs l D) : x ∈ l := (fs_some (ct_some.1 (mem_cs.1 hx)).2).1
theorem cs_new {l : List No} {D : List Is} {x : No} (hx : x ∈ cs l D) : x.i ∉ D := (ct_some.1 (mem_cs.1 hx)).1

/-- Different instances. -/
def Di (l : List No) : Prop := (l.map No.i).Nodup
theorem Di.one {l : List No} (h : Di l) {x y : No} (hx : x ∈ l) (hy : y ∈ l) (e : x.i = y.i) : x = y := by
  unfold Di at h
  rw [List.Nodup, List.pairwise_map, List.pairwise_iff_getElem] at h
  obtain ⟨i, hi, rfl⟩ := List.getElem_of_mem hx
  obtain ⟨j, hj, rfl⟩ := List.getElem_of_mem hy
  rcases Nat.lt_trichotomy i j with hl | rfl | hl
  · exact absurd e (h i j hi hj hl)
  · rfl
  · exact absurd e.symm (h j i hj hi hl)
theorem mem_cs_di {l : List No} {D : List Is} (hd : ∀ x ∈ l, ∀ y ∈ l, x.i = y.i → x = y) (hl : l.length ≤ 100) {n : No} : n ∈ cs l D ↔ n ∈ l ∧ nr n = true ∧ n.i ∉ D := by
  constructor
  · intro h; exact ⟨cs_in h, cs_nr h, cs_new h⟩
  · rintro ⟨h1, h2, h3⟩
    rw [mem_cs, ct_some]
    refine ⟨h3, ?_⟩
    obtain ⟨x, hx⟩ := fs_ex (l := l) (n := n) (by rw [List.take_of_length_le hl]; exact h1) h2
    have h4 := fs_some hx
    rw [hx, hd x h4.1 n h1 h4.2.2]

/-- Whether an instance is known; whether one is missing; what is missing; whether a node lacks one of these. -/
def kn (c : List No) (D : List Is) (i : Is) : Bool := c.any (fun n => decide (n.i = i)) || decide (i ∈ D)
def mp (c : List No) (D : List Is) (i : Is) : Bool := c.any (fun n => wa n i) && !kn c D i
def ms (c : List No) (D : List Is) : List Is := ax.filter (mp c D)
def lk (m : List Is) (n : No) : Bool := m.any fun i => wa n i
theorem kn_iff {c : List No} {D : List Is} {i : Is} : kn c D i = true ↔ (∃ n ∈ c, n.i = i) ∨ i ∈ D := by simp [kn]
theorem kn_no {c : List No} {D : List Is} {i : Is} : kn c D i = false ↔ (∀ n ∈ c, n.i ≠ i) ∧ i ∉ D := by simp [kn]
theorem mp_iff {c : List No} {D : List Is} {i : Is} : mp c D i = true ↔ (∃ n ∈ c, wa n i = true) ∧ kn c D i = false := by simp [mp]
theorem mem_ms {c : List No} {D : List Is} {i : Is} : i ∈ ms c D ↔ i ∈ ax ∧ mp c D i = true := by simp [ms]
theorem ms_rises (c : List No) (D : List Is) : (ms c D).Pairwise il := ax_rises.filter _
theorem wa_ax {n : No} (hr : nr n = true) (hd : n.d.length ≤ 7) {i : Is} (h : wa n i = true) : i ∈ ax := by
  have h1 := wa_dep h
  have h2 := (nr_iff.1 hr).2.2.2.2 _ h1.2.2.2.1
  exact mem_ax.2 ⟨h1.2.1, by omega, h1.1, by omega⟩
theorem lk_iff {c : List No} {D : List Is} {n : No} (hn : n ∈ c) (hr : nr n = true) (hd : n.d.length ≤ 7) : lk (ms c D) n = true ↔ ∃ i, wa n i = true ∧ kn c D i = false := by
  simp only [lk, List.any_eq_true]
  constructor
  · rintro ⟨i, hi, hw⟩
    exact ⟨i, hw, (mp_iff.1 (mem_ms.1 hi).2).2⟩
  · rintro ⟨i, hw, hk⟩
    exact ⟨i, mem_ms.2 ⟨wa_ax hr hd hw, mp_iff.2 ⟨⟨n, hn, hw⟩, hk⟩⟩, hw⟩

/-- Who waits for whom, by places. -/
def Wg (c : List No) (a b : Nat) : Prop := ∃ x y, c[a]? = some x ∧ c[b]? = some y ∧ wa x y.i = true
theorem wg_in (c : List No) : ∀ x y, Wg c x y → x < c.length ∧ y < c.length := by
  rintro a b ⟨x, y, hx, hy, _⟩
  exact ⟨(List.getElem?_eq_some_iff.1 hx).1, (List.getElem?_eq_some_iff.1 hy).1⟩

open Classical in
/-- Whether a node, and all that it waits for, also by others, lack nothing. -/
noncomputable def gd (c : List No) (D : List Is) (k : Nat) : Bool := decide (∀ j, Rt (Wg c) k j → ∀ x, c[j]? = some x → lk (ms c D) x = false)
theorem gd_iff {c : List No} {D : List Is} {k : Nat} : gd c D k = true ↔ ∀ j, Rt (Wg c) k j → ∀ x, c[j]? = some x → lk (ms c D) x = false := by simp [gd]
noncomputable def rdk (c : List No) (D : List Is) (k : Nat) : List No := ((List.range k).filter (gd c D)).filterMap (c[·]?)
noncomputable def rd (c : List No) (D : List Is) : List No := rdk c D c.length
theorem rdk_yes {c : List No} {D : List Is} {k : Nat} (hk : k < c.length) (hg : gd c D k = true) : rdk c D (k + 1) = rdk c D k ++ [c[k]] := by
  simp [rdk, List.range_succ, List.filter_append, hg, hk]
theorem rdk_no {c : List No} {D : List Is} {k : Nat} (hg : gd c D k = false) : rdk c D (k + 1) = rdk c D k := by
  simp [rdk, List.range_succ, List.filter_append, hg]
theorem mem_rd {c : List No} {D : List Is} {n : No} : n ∈ rd c D ↔ ∃ k, c[k]? = some n ∧ gd c D k = true := by
  unfold rd rdk
  simp only [List.mem_filterMap, List.mem_filter, List.mem_range]
  constructor
  · rintro ⟨k, ⟨_, h⟩, h2⟩; exact ⟨k, h2, h⟩
  · rintro ⟨k, h2, h⟩; exact ⟨k, ⟨(List.getElem?_eq_some_iff.1 h2).1, h⟩, h2⟩
theorem rd_in {c : List No} {D : List Is} {n : No} (h : n ∈ rd c D) : n ∈ c := by
  obtain ⟨k, hk, _⟩ := mem_rd.1 h
  exact List.mem_of_getElem? hk
theorem rdk_rises {c : List No} (D : List Is) (hc : c.Pairwise fun x y => il x.i y.i) (k : Nat) : (rdk c D k).Pairwise fun x y => il x.i y.i := by
  unfold rdk
  rw [List.pairwise_filterMap]
  refine (List.pairwise_lt_range.filter _).imp fun {a a'} h x hx y hy => ?_
  obtain ⟨ha, rfl⟩ := List.getElem?_eq_some_iff.1 hx
  obtain ⟨ha', rfl⟩ := List.getElem?_eq_some_iff.1 hy
  exact List.pairwise_iff_getElem.1 hc a a' ha ha' h
theorem rdk_len (c : List No) (D : List Is) (k : Nat) : (rdk c D k).length ≤ k := by
  unfold rdk
  refine Nat.le_trans (List.length_filterMap_le _ _) (Nat.le_trans (List.length_filter_le _ _) ?_)
  simp

/-- A set of nodes that wait for nothing but each other, and for what is done. -/
structure Cz (c : List No) (D : List Is) (T : No → Prop) : Prop where
  inn : ∀ x, T x → x ∈ c
  shut : ∀ x, T x → ∀ i, wa x i = true → i ∈ D ∨ ∃ y, T y ∧ y.i = i
theorem rd_cz {c : List No} {D : List Is} (hn : ∀ x ∈ c, nr x = true ∧ x.d.length ≤ 7) : Cz c D (· ∈ rd c D) := by
  refine ⟨fun x => rd_in, fun x hx i hw => ?_⟩
  obtain ⟨k, hk, hg⟩ := mem_rd.1 hx
  have hxc := rd_in hx
  have hg' := gd_iff.1 hg
  have hl := hg' k .refl x hk
  by_cases hD : i ∈ D
  · exact .inl hD
  · right
    have hkn : kn c D i = true := by
      rcases hb : kn c D i with _ | _
      · have := (lk_iff hxc (hn x hxc).1 (hn x hxc).2).2 ⟨i, hw, hb⟩
        rw [this] at hl; cases hl
      · rfl
    rcases kn_iff.1 hkn with ⟨y, hy, hi⟩ | h
    · obtain ⟨j, hj⟩ := List.getElem?_of_mem hy
      refine ⟨y, mem_rd.2 ⟨j, hj, gd_iff.2 fun j' hr z hz => hg' j' ?_ z hz⟩, hi⟩
      exact (Rt.one ⟨x, y, hk, hj, by rw [hi]; exact hw⟩).trans hr
    · exact absurd h hD
theorem rd_of_cz {c : List No} {D : List Is} (hn : ∀ x ∈ c, nr x = true ∧ x.d.length ≤ 7) (hi : ∀ x ∈ c, ∀ y ∈ c, x.i = y.i → x = y) {T : No → Prop} (hT : Cz c D T) (hD : ∀ x ∈ c, x.i ∉ D) {n : No} (h : T n) : n ∈ rd c D := by
  obtain ⟨k, hk⟩ := List.getElem?_of_mem (hT.inn n h)
  refine mem_rd.2 ⟨k, hk, gd_iff.2 fun j hr x hx => ?_⟩
  have hTx : ∀ x, c[j]? = some x → T x := hr.stays (fun j => ∀ x, c[j]? = some x → T x) (fun x hx => by rw [hk] at hx; cases hx; exact h) (by
    rintro a b ha ⟨x, y, hx, hy, hw⟩ z hz
    rw [hy] at hz
    cases hz
    rcases hT.shut x (ha x hx) y.i hw with hd | ⟨y', hy', e⟩
    · exact absurd hd (hD y (List.mem_of_getElem? hy))
    · rw [hi y (List.mem_of_getElem? hy) y' (hT.inn y' hy') e.symm]; exact hy')
  have hxc := List.mem_of_getElem? hx
  rcases hb : lk (ms c D) x with _ | _
  · rfl
  · obtain ⟨i, hw, hkn⟩ := (lk_iff hxc (hn x hxc).1 (hn x hxc).2).1 hb
    rcases hT.shut x (hTx x hx) i hw with hd | ⟨y, hy, e⟩
    · have := (kn_no.1 hkn).2; exact absurd hd this
    · exact absurd e ((kn_no.1 hkn).1 y (hT.inn y hy))

/-- One node ahead of another one, of those that wait for each other. -/
def ls (x y : No) : Bool := decide (x.q < y.q ∨ x.q = y.q ∧ (x.b < y.b ∨ x.b = y.b ∧ x.s < y.s))
theorem ls_iff {x y : No} : ls x y = true ↔ x.q < y.q ∨ x.q = y.q ∧ il x.i y.i := decide_eq_true_iff
end Go.Proofs.YtgpciipemgljcaaGreat.Od

/-
  Words for memory that the walks of package order use: nodes and instances in boxes, in slices and in rows of the call's own. No program's function is walked here. No conditions.
-/
namespace Go.Proofs.YtgpciipemgljcaaGreat.Od
open Go.RowKit Go.Sort
open Go.Proofs.YtgpciipemgljcaaGreat.Gp (Off)
set_option linter.unusedVariables false

/-- A number that an int holds. -/
def fits (n : Int) : Prop := -9223372036854775808 ≤ n ∧ n ≤ 9223372036854775807
theorem fits.wf {n : Int} (h : fits n) : (Lit.int .i64 n).wf = true := by
  obtain ⟨h1, h2⟩ := h
  simp only [Lit.wf, Bool.and_eq_true, decide_eq_true_eq]
  exact ⟨h1, h2⟩
def fi (i : Is) : Prop := fits i.1 ∧ fits i.2
def Wf (l : List No) : Prop := ∀ n ∈ l, fi n.i ∧ fits n.q
def Wd (D : List Is) : Prop := ∀ i ∈ D, fi i

/-- An instance, a node as values. -/
abbrev iv (i : Is) : Value := .agg #[.int .i64 i.1, .int .i64 i.2]
abbrev nv (n : No) : Value := .agg #[.int .i64 n.b, .int .i64 n.s, .int .i64 n.q, .slice n.h n.d.length n.c]
abbrev av (n : No) : Value := .agg #[.int .i64 n.q, .slice n.h n.d.length n.c]
abbrev no (n : No) : Obj := .cells #[.int .i64 n.b, .int .i64 n.s, .int .i64 n.q, .slice n.h n.d.length n.c] 30
abbrev io (i : Is) : Obj := .cells #[.int .i64 i.1, .int .i64 i.2] 25

/-- A node, an instance, in cells from a place on. -/
def Nr (w : World) (b o : Nat) (n : No) : Prop := w.cell? ⟨b, o, none⟩ = some (.int .i64 n.b) ∧ w.cell? ⟨b, o + 1, none⟩ = some (.int .i64 n.s) ∧ w.cell? ⟨b, o + 2, none⟩ = some (.int .i64 n.q) ∧ w.cell? ⟨b, o + 3, none⟩ = some (.slice n.h n.d.length n.c)
def Jr (w : World) (b o : Nat) (i : Is) : Prop := w.cell? ⟨b, o, none⟩ = some (.int .i64 i.1) ∧ w.cell? ⟨b, o + 1, none⟩ = some (.int .i64 i.2)
theorem Nr.of {w w' : World} {b o : Nat} {n : No} (h : Nr w b o n) (hb : w'.heap[b]? = w.heap[b]?) : Nr w' b o n := by
  have hc : ∀ j, w'.cell? ⟨b, j, none⟩ = w.cell? ⟨b, j, none⟩ := fun j => World.cell?_of_block hb
  obtain ⟨c0, c1, c2, c3⟩ := h
  exact ⟨(hc _).trans c0, (hc _).trans c1, (hc _).trans c2, (hc _).trans c3⟩
theorem Jr.of {w w' : World} {b o : Nat} {i : Is} (h : Jr w b o i) (hb : w'.heap[b]? = w.heap[b]?) : Jr w' b o i := by
  have hc : ∀ j, w'.cell? ⟨b, j, none⟩ = w.cell? ⟨b, j, none⟩ := fun j => World.cell?_of_block hb
  exact ⟨(hc _).trans h.1, (hc _).trans h.2⟩
theorem Nr.inst {w : World} {b o : Nat} {n : No} (h : Nr w b o n) : Jr w b o n.i := ⟨h.1, h.2.1⟩

/-- The slice at the address A reads as l, and lies below block B. -/
def Nl (w : World) (B : Nat) (A : Option Addr) (l : List No) : Prop := l = [] ∨ ∃ b off, A = some ⟨b, off, none⟩ ∧ b < B ∧ ∀ j x, l[j]? = some x → Nr w b (off + j * 4) x
def Il (w : World) (B : Nat) (A : Option Addr) (l : List Is) : Prop := l = [] ∨ ∃ b off, A = some ⟨b, off, none⟩ ∧ b < B ∧ ∀ j x, l[j]? = some x → Jr w b (off + j * 2) x
theorem Nl.nil {w : World} {B : Nat} {A : Option Addr} : Nl w B A [] := .inl rfl
theorem Il.nil {w : World} {B : Nat} {A : Option Addr} : Il w B A [] := .inl rfl
section
variable {w w' : World} {B B' D : Nat} {A : Option Addr} {l : List No} {m : List Is}
theorem Nl.at_ (h : Nl w B A l) {j : Nat} {x : No} (hj : l[j]? = some x) : ∃ b off, A = some ⟨b, off, none⟩ ∧ b < B ∧ Nr w b (off + j * 4) x := by
  rcases h with rfl | ⟨b, off, hA, hb, hc⟩
  · simp at hj
  · exact ⟨b, off, hA, hb, hc j x hj⟩
theorem Il.at_ (h : Il w B A m) {j : Nat} {x : Is} (hj : m[j]? = some x) : ∃ b off, A = some ⟨b, off, none⟩ ∧ b < B ∧ Jr w b (off + j * 2) x := by
  rcases h with rfl | ⟨b, off, hA, hb, hc⟩
  · simp at hj
  · exact ⟨b, off, hA, hb, hc j x hj⟩
theorem Nl.below (h : Nl w B A l) (hb : Below D w w') (hD : B ≤ D) : Nl w' B A l := by
  rcases h with rfl | ⟨b, off, hA, hlt, hc⟩
  · exact .inl rfl
  · exact .inr ⟨b, off, hA, hlt, fun j x hx => (hc j x hx).of (hb.block b (by omega))⟩
theorem Il.below (h : Il w B A m) (hb : Below D w w') (hD : B ≤ D) : Il w' B A m := by
  rcases h with rfl | ⟨b, off, hA, hlt, hc⟩
  · exact .inl rfl
  · exact .inr ⟨b, off, hA, hlt, fun j x hx => (hc j x hx).of (hb.block b (by omega))⟩
theorem Nl.mono (h : Nl w B A l) (hB : B ≤ B') : Nl w B' A l := by
  rcases h with rfl | ⟨b, off, hA, hlt, hc⟩
  · exact .inl rfl
  · exact .inr ⟨b, off, hA, by omega, hc⟩
theorem Il.mono (h : Il w B A m) (hB : B ≤ B') : Il w B' A m := by
  rcases h with rfl | ⟨b, off, hA, hlt, hc⟩
  · exact .inl rfl
  · exact .inr ⟨b, off, hA, by omega, hc⟩
theorem Nl.up (h : Nl w w.heap.size A l) (hb : Below w.heap.size w w') : Nl w' w'.heap.size A l := (h.below hb (Nat.le_refl _)).mono hb.size
theorem Il.up (h : Il w w.heap.size A m) (hb : Below w.heap.size w w') : Il w' w'.heap.size A m := (h.below hb (Nat.le_refl _)).mono hb.size
theorem Nl.to (h : Nl w B A l) (hb : Below B w w') (hB : B ≤ w'.heap.size) : Nl w' w'.heap.size A l := (h.below hb (Nat.le_refl _)).mono hB
theorem Il.to (h : Il w B A m) (hb : Below B w w') (hB : B ≤ w'.heap.size) : Il w' w'.heap.size A m := (h.below hb (Nat.le_refl _)).mono hB
end

/-- The deps of nodes, below block B. -/
def Dl (w : World) (B : Nat) (l : List No) : Prop := ∀ n ∈ l, At.Sl w B .i64 n.h n.d
theorem Dl.below {w w' : World} {B : Nat} {l : List No} (h : Dl w B l) (hb : Below B w w') : Dl w' B l := fun n hn => (h n hn).below hb
theorem Dl.mono {w : World} {B B' : Nat} {l : List No} (h : Dl w B l) (hB : B ≤ B') : Dl w B' l := fun n hn => (h n hn).mono hB
theorem Dl.to {w w' : World} {B : Nat} {l : List No} (h : Dl w B l) (hb : Below B w w') (hB : B ≤ w'.heap.size) : Dl w' w'.heap.size l := (h.below hb).mono hB
theorem Dl.sub {w : World} {B : Nat} {l m : List No} (h : Dl w B l) (hs : ∀ n ∈ m, n ∈ l) : Dl w B m := fun n hn => h n (hs n hn)
theorem Wf.sub {l m : List No} (h : Wf l) (hs : ∀ n ∈ m, n ∈ l) : Wf m := fun n hn => h n (hs n hn)

/-- Their cells, one behind the other. -/
def ncs : List No → List Value
  | [] => []
  | n :: l => .int .i64 n.b :: .int .i64 n.s :: .int .i64 n.q :: .slice n.h n.d.length n.c :: ncs l
def ics : List Is → List Value
  | [] => []
  | i :: l => .int .i64 i.1 :: .int .i64 i.2 :: ics l
theorem ncs_len : ∀ l, (ncs l).length = l.length * 4
  | [] => rfl
  | x :: l => by simp only [ncs, List.length_cons, ncs_len l]; omega
theorem ics_len : ∀ l, (ics l).length = l.length * 2
  | [] => rfl
  | x :: l => by simp only [ics, List.length_cons, ics_len l]; omega
theorem ncs_append : ∀ l m, ncs (l ++ m) = ncs l ++ ncs m
  | [], m => rfl
  | x :: l, m => by simp [ncs, ncs_append l m]
theorem ics_append : ∀ l m, ics (l ++ m) = ics l ++ ics m
  | [], m => rfl
  | x :: l, m => by simp [ics, ics_append l m]
theorem ncs_one : ∀ l, ∀ u ∈ ncs l, u.oneCell' = true
  | [], u, h => by cases h
  | x :: l, u, h => by
    simp only [ncs, List.mem_cons] at h
    rcases h with rfl | rfl | rfl | rfl | h
    · rfl
    · rfl
    · rfl
    · rfl
    · exact ncs_one l u h
theorem ics_one : ∀ l, ∀ u ∈ ics l, u.oneCell' = true
  | [], u, h => by cases h
  | x :: l, u, h => by
    simp only [ics, List.mem_cons] at h
    rcases h with rfl | rfl | h
    · rfl
    · rfl
    · exact ics_one l u h
theorem ncs_read {w : World} {b : Nat} : ∀ (l : List No) (off : Nat) (hc : ∀ j x, l[j]? = some x → Nr w b (off + j * 4) x) (j : Nat) (u : Value), (ncs l)[j]? = some u → w.cell? ⟨b, off + j, none⟩ = some u
  | [], off, hc, j, u, h => by simp [ncs] at h
  | x :: l, off, hc, j, u, h => by
    obtain ⟨q0, q1, q2, q3⟩ := hc 0 x rfl
    simp only [Nat.zero_mul, Nat.add_zero] at q0 q1 q2 q3
    match j, h with
    | 0, h => simp [ncs] at h; subst h; exact q0
    | 1, h => simp [ncs] at h; subst h; exact q1
    | 2, h => simp [ncs] at h; subst h; exact q2
    | 3, h => simp [ncs] at h; subst h; exact q3
    | j + 4, h =>
      have h' : (ncs l)[j]? = some u := by simpa [ncs] using h
      have := ncs_read l (off + 4) (fun i y hy => by
        have := hc (i + 1) y (by simpa using hy)
        rw [show off + (i + 1) * 4 = off + 4 + i * 4 by omega] at this
        exact this) j u h'
      rw [show off + (j + 4) = off + 4 + j by omega]
      exact this
theorem ics_read {w : World} {b : Nat} : ∀ (l : List Is) (off : Nat) (hc : ∀ j x, l[j]? = some x → Jr w b (off + j * 2) x) (j : Nat) (u : Value), (ics l)[j]? = some u → w.cell? ⟨b, off + j, none⟩ = some u
  | [], off, hc, j, u, h => by simp [ics] at h
  | x :: l, off, hc, j, u, h => by
    obtain ⟨q0, q1⟩ := hc 0 x rfl
    simp only [Nat.zero_mul, Nat.add_zero] at q0 q1
    match j, h with
    | 0, h => simp [ics] at h; subst h; exact q0
    | 1, h => simp [ics] at h; subst h; exact q1
    | j + 2, h =>
      have h' : (ics l)[j]? = some u := by simpa [ics] using h
      have := ics_read l (off + 2) (fun i y hy => by
        have := hc (i + 1) y (by simpa using hy)
        rw [show off + (i + 1) * 2 = off + 2 + i * 2 by omega] at this
        exact this) j u h'
      rw [show off + (j + 2) = off + 2 + j by omega]
      exact this
theorem ncs_at : ∀ (l : List No) (i : Nat) (x : No), l[i]? = some x → (ncs l)[i * 4]? = some (.int .i64 x.b) ∧ (ncs l)[i * 4 + 1]? = some (.int .i64 x.s) ∧ (ncs l)[i * 4 + 2]? = some (.int .i64 x.q) ∧ (ncs l)[i * 4 + 3]? = some (.slice x.h x.d.length x.c)
  | [], i, x, h => by simp at h
  | y :: l, 0, x, h => by simp at h; subst h; exact ⟨rfl, rfl, rfl, rfl⟩
  | y :: l, i + 1, x, h => by
    rw [show (i + 1) * 4 = i * 4 + 4 by omega]
    exact ncs_at l i x (by simpa using h)
theorem ics_at : ∀ (l : List Is) (i : Nat) (x : Is), l[i]? = some x → (ics l)[i * 2]? = some (.int .i64 x.1) ∧ (ics l)[i * 2 + 1]? = some (.int .i64 x.2)
  | [], i, x, h => by simp at h
  | y :: l, 0, x, h => by simp at h; subst h; exact ⟨rfl, rfl⟩
  | y :: l, i + 1, x, h => by
    rw [show (i + 1) * 2 = i * 2 + 2 by omega]
    exact ics_at l i x (by simpa using h)
/-- A row of the call's own is a slice that reads as it. -/
theorem own_nl {w : World} {base : Nat} {v : Value} {l : List No} (h : w.ownsRow base 30 4 v l.length (ncs l)) : ∃ A c, v = .slice A l.length c ∧ Nl w w.heap.size A l ∧ ∀ b o s, A = some ⟨b, o, s⟩ → base ≤ b ∧ o = 0 ∧ s = none := by
  rcases h.2 with ⟨rfl, h0⟩ | ⟨g, cap, cur, rfl, hg, hh, hnc, hcp, hcs, htake⟩
  · exact ⟨none, 0, by rw [h0], .inl (List.length_eq_zero_iff.1 h0), fun b o s e => by cases e⟩
  · refine ⟨_, cap, rfl, .inr ⟨g, 0, rfl, (h.lt g rfl).2, fun i x hx => ?_⟩, fun b o s e => by cases e; exact ⟨hg, rfl, rfl⟩⟩
    have hc : ∀ j u, (ncs l)[j]? = some u → w.cell? ⟨g, 0 + j, none⟩ = some u := fun j u hu => by
      have := h.cells (g := g) rfl j u hu
      rwa [Addr.add_lit] at this
    obtain ⟨q0, q1, q2, q3⟩ := ncs_at l i x hx
    exact ⟨hc _ _ q0, hc _ _ q1, hc _ _ q2, hc _ _ q3⟩
theorem own_il {w : World} {base : Nat} {v : Value} {l : List Is} (h : w.ownsRow base 25 2 v l.length (ics l)) : ∃ A c, v = .slice A l.length c ∧ Il w w.heap.size A l ∧ ∀ b o s, A = some ⟨b, o, s⟩ → base ≤ b ∧ o = 0 ∧ s = none := by
  rcases h.2 with ⟨rfl, h0⟩ | ⟨g, cap, cur, rfl, hg, hh, hnc, hcp, hcs, htake⟩
  · exact ⟨none, 0, by rw [h0], .inl (List.length_eq_zero_iff.1 h0), fun b o s e => by cases e⟩
  · refine ⟨_, cap, rfl, .inr ⟨g, 0, rfl, (h.lt g rfl).2, fun i x hx => ?_⟩, fun b o s e => by cases e; exact ⟨hg, rfl, rfl⟩⟩
    have hc : ∀ j u, (ics l)[j]? = some u → w.cell? ⟨g, 0 + j, none⟩ = some u := fun j u hu => by
      have := h.cells (g := g) rfl j u hu
      rwa [Addr.add_lit] at this
    obtain ⟨q0, q1⟩ := ics_at l i x hx
    exact ⟨hc _ _ q0, hc _ _ q1⟩
theorem info30 : (Tryz.prog.info? 30).map (fun i => (i.zero, i.size, i.bytes)) = some (some (.agg #[.int .i64 0, .int .i64 0, .int .i64 0, .slice none 0 0]), 4, 48) := by kernel_rfl
theorem info25 : (Tryz.prog.info? 25).map (fun i => (i.zero, i.size, i.bytes)) = some (some (.agg #[.int .i64 0, .int .i64 0]), 2, 16) := by kernel_rfl
theorem info28 : (Tryz.prog.info? 28).map (fun i => (i.zero, i.size, i.bytes)) = some (some (.agg #[.int .i64 0, .slice none 0 0]), 2, 32) := by kernel_rfl

/-- A node, an instance in a box of the call's own. -/
def Nb (w : World) (B : Nat) (n : No) : Prop := w.heap[B]? = some (.cells #[.int .i64 n.b, .int .i64 n.s, .int .i64 n.q, .slice n.h n.d.length n.c] 30 (0, 0))
def Jb (w : World) (B : Nat) (i : Is) : Prop := w.heap[B]? = some (.cells #[.int .i64 i.1, .int .i64 i.2] 25 (0, 0))
section
variable {w w' : World} {B D : Nat} {n : No} {i : Is}
theorem Nb.nr (h : Nb w B n) : w.cell? ⟨B, 0, none⟩ = some (.int .i64 n.b) ∧ w.cell? ⟨B, 1, none⟩ = some (.int .i64 n.s) ∧ w.cell? ⟨B, 2, none⟩ = some (.int .i64 n.q) ∧ w.cell? ⟨B, 3, none⟩ = some (.slice n.h n.d.length n.c) :=
  ⟨by rw [cell_of_row w B 0 _ 30 _ h]; rfl, by rw [cell_of_row w B 1 _ 30 _ h]; rfl, by rw [cell_of_row w B 2 _ 30 _ h]; rfl, by rw [cell_of_row w B 3 _ 30 _ h]; rfl⟩
theorem Jb.jr (h : Jb w B i) : w.cell? ⟨B, 0, none⟩ = some (.int .i64 i.1) ∧ w.cell? ⟨B, 1, none⟩ = some (.int .i64 i.2) :=
  ⟨by rw [cell_of_row w B 0 _ 25 _ h]; rfl, by rw [cell_of_row w B 1 _ 25 _ h]; rfl⟩
theorem Nb.lt (h : Nb w B n) : B < w.heap.size := lt_of_block h
theorem Jb.lt (h : Jb w B i) : B < w.heap.size := lt_of_block h
theorem nb_new (w : World) (n : No) : Nb (w.alloc (no n)) w.heap.size n := heap_alloc_new w _
theorem jb_new (w : World) (i : Is) : Jb (w.alloc (io i)) w.heap.size i := heap_alloc_new w _
theorem Nb.old (h : Nb w B n) (o : Obj) : Nb (w.alloc o) B n := (heap_alloc_old w o h.lt).trans h
theorem Jb.old (h : Jb w B i) (o : Obj) : Jb (w.alloc o) B i := (heap_alloc_old w o h.lt).trans h
theorem Nb.on (h : Nb w B n) (hb : Below D w w') (hlt : B < D) : Nb w' B n := (hb.block B hlt).trans h
theorem Jb.on (h : Jb w B i) (hb : Below D w w') (hlt : B < D) : Jb w' B i := (hb.block B hlt).trans h
theorem Nb.free (h : Nb w B n) (k : Nat) : w.frozen? ⟨B, k, none⟩ = false := Lib.frozen_of_heap h k
theorem Jb.free (h : Jb w B i) (k : Nat) : w.frozen? ⟨B, k, none⟩ = false := Lib.frozen_of_heap h k
end

/-- The call gave this bool, number; draws and blocks came behind, nothing else. -/
def BoolPost (w : World) (b : Bool) (e : Ending) (w' : World) : Prop := e = .returned (.bool b) ∧ Below w.heap.size w w'
/-- Draws, and blocks of its own: what a comparison may make. -/
def Gw (w w' : World) : Prop := ∃ q os, w' = grow (w.drewN q) os
def CmpPost (w : World) (z : Int) (e : Ending) (w' : World) : Prop := e = .returned (.int .i64 z) ∧ Gw w w'

end Go.Proofs.YtgpciipemgljcaaGreat.Od
