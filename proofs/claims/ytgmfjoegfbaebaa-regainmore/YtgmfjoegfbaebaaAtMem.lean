/-
  Words for memory that the walks of package attr use: a slice of integers that reads as a list, a slice of attributes, a box that holds one, and a row of the call's own. No program's function is walked here. No conditions.
-/
import Derived.Test.YtgmfjoegfbaebaaRows
import Derived.Test.YtgmfjoegfbaebaaAtPlain
import Derived.WalkKit
import Derived.WalkSpells
import Derived.WalkLawsBesides
import Derived.ProofKit
import Derived.Lib.Hide
import Derived.Lib.MinMax
import Derived.Deep.QuietTactic
import Derived.BigQuiet
import Derived.Deep.RegionHeld3
import Derived.Deep.DrawnRows
namespace Go.Proofs.Ytgmfjoegfbaebaa.At
open Go.RowKit

/-- The slice at the address A reads as the integers xs, all of which lie below block B. -/
def Sl (w : World) (B : Nat) (k : IntKind) (A : Option Addr) (xs : List Int) : Prop :=
  xs = [] ∨ ∃ b off, A = some ⟨b, off, none⟩ ∧ b < B ∧ ∀ j x, xs[j]? = some x → w.cell? ⟨b, off + j, none⟩ = some (.int k x)

theorem Sl.nil {w : World} {B : Nat} {k : IntKind} {A : Option Addr} : Sl w B k A [] := .inl rfl

theorem Sl.at_ {w : World} {B : Nat} {k : IntKind} {A : Option Addr} {xs : List Int} (h : Sl w B k A xs) {j : Nat} (hj : j < xs.length) :
    ∃ b off, A = some ⟨b, off, none⟩ ∧ b < B ∧ w.cell? ⟨b, off + j, none⟩ = some (.int k (xs.getD j 0)) := by
  rcases h with rfl | ⟨b, off, hA, hb, hc⟩
  · simp at hj
  · exact ⟨b, off, hA, hb, by simpa [List.getD, List.getElem?_eq_getElem hj] using hc j xs[j] (List.getElem?_eq_getElem hj)⟩

theorem Sl.below {w w' : World} {B : Nat} {k : IntKind} {A : Option Addr} {xs : List Int} (h : Sl w B k A xs) (hb : Below B w w') : Sl w' B k A xs := by
  rcases h with rfl | ⟨b, off, hA, hlt, hc⟩
  · exact .inl rfl
  · exact .inr ⟨b, off, hA, hlt, fun j x hx => (hb.cell (p := ⟨b, off + j, none⟩) hlt).trans (hc j x hx)⟩

theorem Sl.mono {w : World} {B B' : Nat} {k : IntKind} {A : Option Addr} {xs : List Int} (h : Sl w B k A xs) (hB : B ≤ B') : Sl w B' k A xs := by
  rcases h with rfl | ⟨b, off, hA, hlt, hc⟩
  · exact .inl rfl
  · exact .inr ⟨b, off, hA, by omega, hc⟩

theorem Sl.take {w : World} {B : Nat} {k : IntKind} {A : Option Addr} {xs : List Int} (h : Sl w B k A xs) (n : Nat) : Sl w B k A (xs.take n) := by
  rcases h with rfl | ⟨b, off, hA, hlt, hc⟩
  · exact .inl (by simp)
  · exact .inr ⟨b, off, hA, hlt, fun j x hx => hc j x (by rw [List.getElem?_take] at hx; split at hx <;> simp_all)⟩

theorem Sl.drop {w : World} {B b off : Nat} {k : IntKind} {xs : List Int} (h : Sl w B k (some ⟨b, off, none⟩) xs) (n : Nat) : Sl w B k (some ⟨b, off + n, none⟩) (xs.drop n) := by
  rcases h with rfl | ⟨b', off', hA, hlt, hc⟩
  · exact .inl (by simp)
  · obtain ⟨rfl, rfl⟩ : b = b' ∧ off = off' := by simpa using hA
    exact .inr ⟨b, off + n, rfl, hlt, fun j x hx => by rw [Nat.add_assoc]; exact hc (n + j) x (by rw [List.getElem?_drop] at hx; exact hx)⟩

/-- A row of the call's own is a slice that reads as its list. -/
theorem own_slice {w : World} {base : Nat} {e : TypeId} {k : IntKind} {v : Value} {xs : List Int} (h : w.ownsRow base e 1 v xs.length (xs.map (Value.int k))) :
    ∃ A c, v = .slice A xs.length c ∧ Sl w w.heap.size k A xs ∧ xs.length ≤ c := by
  rcases h.2 with ⟨rfl, h0⟩ | ⟨g, cap, cur, rfl, hg, hh, hnc, hcp, hcs, htake⟩
  · exact ⟨none, 0, by rw [h0], .inl (List.length_eq_zero_iff.1 h0), by omega⟩
  · refine ⟨_, cap, rfl, .inr ⟨g, 0, rfl, lt_of_block hh, fun j x hx => ?_⟩, hnc⟩
    have hj : j < xs.length := (List.getElem?_eq_some_iff.1 hx).1
    rw [Nat.zero_add, h.cellAt j (by omega)]
    simp [hx]

/-- A slice that came in, as the shell tells it, reads as its first elements. -/
theorem sl_of_cells {k : IntKind} {w : World} {x : Addr} {len cap : Nat} {zs : List Int} (hl : len ≤ cap) (hz : zs.length = cap)
    (hcell : ∀ i, i < zs.length → w.cell? (x.add i) = some (.int k (zs.getD i 0))) : Sl w w.heap.size k (some x) (zs.take len) := by
  rcases Nat.eq_zero_or_pos len with rfl | hp
  · exact .inl (by simp)
  · obtain ⟨b, off, sp⟩ := x
    have hc := hcell 0 (by omega)
    have hsp : sp = none := by simpa [Addr.add] using World.cell?_spot hc
    subst hsp
    have hc0 : w.cell? ⟨b, off, none⟩ = some (.int k (zs.getD 0 0)) := by simpa [Addr.add] using hc
    refine .inr ⟨b, off, rfl, World.block_lt_of_cell? w _ hc0, fun j x hx => ?_⟩
    rw [List.getElem?_take] at hx
    split at hx
    · have hj : j < zs.length := (List.getElem?_eq_some_iff.1 hx).1
      have := hcell j hj
      rw [Addr.add_lit] at this
      rw [this]
      simp [List.getD, hx]
    · cases hx

/-- An attribute as a value. -/
def av (a : Int) (A : Option Addr) (n c : Nat) : Value := .agg #[.int .i64 a, .slice A n c]

/-- An attribute in a box. -/
def Rb (w : World) (B : Nat) (a : Int) (A : Option Addr) (n c : Nat) : Prop := w.cell? ⟨B, 0, none⟩ = some (.int .i64 a) ∧ w.cell? ⟨B, 1, none⟩ = some (.slice A n c)
theorem Rb.on {w w' : World} {B D : Nat} {a : Int} {A : Option Addr} {n c : Nat} (h : Rb w B a A n c) (hb : Below D w w') (hlt : B < D) : Rb w' B a A n c :=
  ⟨(hb.cell (p := ⟨B, 0, none⟩) hlt).trans h.1, (hb.cell (p := ⟨B, 1, none⟩) hlt).trans h.2⟩
theorem rb_new (w : World) (a : Int) (A : Option Addr) (n c : Nat) : Rb (w.alloc (.cells #[.int .i64 a, .slice A n c] 30)) w.heap.size a A n c := ⟨by simp, by simp⟩

/-- An instance in a box. -/
def Ib (w : World) (B : Nat) (x y : Int) : Prop := w.cell? ⟨B, 0, none⟩ = some (.int .i64 x) ∧ w.cell? ⟨B, 1, none⟩ = some (.int .i64 y)
theorem Ib.on {w w' : World} {B D : Nat} {x y : Int} (h : Ib w B x y) (hb : Below D w w') (hlt : B < D) : Ib w' B x y :=
  ⟨(hb.cell (p := ⟨B, 0, none⟩) hlt).trans h.1, (hb.cell (p := ⟨B, 1, none⟩) hlt).trans h.2⟩
theorem Sl.up {w w' : World} {k : IntKind} {A : Option Addr} {xs : List Int} (h : Sl w w.heap.size k A xs) (hb : Below w.heap.size w w') : Sl w' w'.heap.size k A xs := (h.below hb).mono hb.size
/-- A slice in the past is one now. -/
theorem Sl.to {w w' : World} {B : Nat} {k : IntKind} {A : Option Addr} {xs : List Int} (h : Sl w B k A xs) (hb : Below B w w') (hB : B ≤ w'.heap.size) : Sl w' w'.heap.size k A xs := (h.below hb).mono hB

/-- A slice of attributes that reads as l. -/
def Rc (w : World) (B : Nat) (A : Option Addr) (l : List (Int × List Int)) : Prop :=
  l = [] ∨ ∃ b off, A = some ⟨b, off, none⟩ ∧ b < B ∧ ∀ i r, l[i]? = some r → w.cell? ⟨b, off + i * 2, none⟩ = some (.int .i64 r.1) ∧
    ∃ A' c', w.cell? ⟨b, off + i * 2 + 1, none⟩ = some (.slice A' r.2.length c') ∧ Sl w B .i64 A' r.2
theorem Rc.at_ {w : World} {B : Nat} {A : Option Addr} {l : List (Int × List Int)} (h : Rc w B A l) {i : Nat} (hi : i < l.length) : ∃ b off A' c', A = some ⟨b, off, none⟩ ∧ b < B ∧ w.cell? ⟨b, off + i * 2, none⟩ = some (.int .i64 (l[i]).1) ∧
    w.cell? ⟨b, off + i * 2 + 1, none⟩ = some (.slice A' (l[i]).2.length c') ∧ Sl w B .i64 A' (l[i]).2 := by
  rcases h with rfl | ⟨b, off, hA, hb, hc⟩
  · simp at hi
  · obtain ⟨h1, A', c', h2, h3⟩ := hc i l[i] (List.getElem?_eq_getElem hi)
    exact ⟨b, off, A', c', hA, hb, h1, h2, h3⟩
theorem Rc.below {w w' : World} {B : Nat} {A : Option Addr} {l : List (Int × List Int)} (h : Rc w B A l) (hb : Below B w w') : Rc w' B A l := by
  rcases h with rfl | ⟨b, off, hA, hlt, hc⟩
  · exact .inl rfl
  · refine .inr ⟨b, off, hA, hlt, fun i r hr => ?_⟩
    obtain ⟨h1, A', c', h2, h3⟩ := hc i r hr
    exact ⟨(hb.cell (p := ⟨b, off + i * 2, none⟩) hlt).trans h1, A', c', (hb.cell (p := ⟨b, off + i * 2 + 1, none⟩) hlt).trans h2, h3.below hb⟩
theorem Rc.mono {w : World} {B B' : Nat} {A : Option Addr} {l : List (Int × List Int)} (h : Rc w B A l) (hB : B ≤ B') : Rc w B' A l := by
  rcases h with rfl | ⟨b, off, hA, hlt, hc⟩
  · exact .inl rfl
  · refine .inr ⟨b, off, hA, by omega, fun i r hr => ?_⟩
    obtain ⟨h1, A', c', h2, h3⟩ := hc i r hr
    exact ⟨h1, A', c', h2, h3.mono hB⟩

/-- Two attributes that were laid one behind the other. -/
theorem rc_two {w : World} {a a' : Int} {A A' : Option Addr} {xs ys : List Int} {c c' : Nat} (hx : Sl w w.heap.size .i64 A xs) (hy : Sl w w.heap.size .i64 A' ys) :
    Rc (w.alloc (.cells #[.int .i64 a, .slice A xs.length c, .int .i64 a', .slice A' ys.length c'] 30)) (w.heap.size + 1) (some ⟨w.heap.size, 0, none⟩) [(a, xs), (a', ys)] := by
  have bel : Below w.heap.size w (w.alloc (.cells #[.int .i64 a, .slice A xs.length c, .int .i64 a', .slice A' ys.length c'] 30)) := (Below.refl _ _).alloc (Nat.le_refl _) _
  refine .inr ⟨_, 0, rfl, by omega, fun i r hr => ?_⟩
  match i, hr with
  | 0, hr => simp at hr; subst hr; exact ⟨by simp, A, c, by simp, (hx.below bel).mono (by omega)⟩
  | 1, hr => simp at hr; subst hr; exact ⟨by simp, A', c', by simp, (hy.below bel).mono (by omega)⟩
theorem rc_four {w : World} {a1 a2 a3 a4 : Int} {A1 A2 A3 A4 : Option Addr} {x1 x2 x3 x4 : List Int} {c1 c2 c3 c4 : Nat} (h1 : Sl w w.heap.size .i64 A1 x1) (h2 : Sl w w.heap.size .i64 A2 x2) (h3 : Sl w w.heap.size .i64 A3 x3) (h4 : Sl w w.heap.size .i64 A4 x4) :
    Rc (w.alloc (.cells #[.int .i64 a1, .slice A1 x1.length c1, .int .i64 a2, .slice A2 x2.length c2, .int .i64 a3, .slice A3 x3.length c3, .int .i64 a4, .slice A4 x4.length c4] 30)) (w.heap.size + 1) (some ⟨w.heap.size, 0, none⟩) [(a1, x1), (a2, x2), (a3, x3), (a4, x4)] := by
  have bel : Below w.heap.size w (w.alloc (.cells #[.int .i64 a1, .slice A1 x1.length c1, .int .i64 a2, .slice A2 x2.length c2, .int .i64 a3, .slice A3 x3.length c3, .int .i64 a4, .slice A4 x4.length c4] 30)) := (Below.refl _ _).alloc (Nat.le_refl _) _
  refine .inr ⟨_, 0, rfl, by omega, fun i r hr => ?_⟩
  match i, hr with
  | 0, hr => simp at hr; subst hr; exact ⟨by simp, A1, c1, by simp, (h1.below bel).mono (by omega)⟩
  | 1, hr => simp at hr; subst hr; exact ⟨by simp, A2, c2, by simp, (h2.below bel).mono (by omega)⟩
  | 2, hr => simp at hr; subst hr; exact ⟨by simp, A3, c3, by simp, (h3.below bel).mono (by omega)⟩
  | 3, hr => simp at hr; subst hr; exact ⟨by simp, A4, c4, by simp, (h4.below bel).mono (by omega)⟩

/-- The call gave this bool, or number; nothing that was there has turned. -/
def BoolPost (w : World) (b : Bool) (e : Ending) (w' : World) : Prop := e = .returned (.bool b) ∧ Below w.heap.size w w'
def IntPost (w : World) (n : Int) (e : Ending) (w' : World) : Prop := e = .returned (.int .i64 n) ∧ Below w.heap.size w w'
def UpPost (w : World) (e : Ending) (w' : World) : Prop := e = .returned (.bool true) ∧ Below w.heap.size w w'
/-- The call gave an attribute. -/
def AtPost (w : World) (a : Int) (xs : List Int) (e : Ending) (w' : World) : Prop := ∃ A c, e = .returned (.agg #[.int .i64 a, .slice A xs.length c]) ∧ Sl w' w'.heap.size .i64 A xs ∧ Below w.heap.size w w'

end Go.Proofs.Ytgmfjoegfbaebaa.At
