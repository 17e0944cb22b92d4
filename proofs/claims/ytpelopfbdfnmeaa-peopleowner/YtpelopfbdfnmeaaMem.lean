/-
  Words for memory that the walks of package people use: a slice of integers that reads as a list, a box that holds a channel, and a row of the call's own. No program's function is walked here. No conditions.
-/
import Derived.Test.YtpelopfbdfnmeaaRows
import Derived.Test.YtpelopfbdfnmeaaPe
import Derived.WalkKit
import Derived.WalkSpells
import Derived.WalkLawsBesides
import Derived.ProofKit
import Derived.Lib.Hide
import Derived.Lib.MinMax
import Derived.Deep.QuietTactic
import Derived.BigQuiet
import Derived.Deep.RegionHeld3
import Derived.Deep.DrawnRows
namespace Go.Proofs.Ytpelopfbdfnmeaa
open Go.RowKit

/-- The slice at the address A reads as the integers xs, all of which lie below block B. -/
def Sl (w : World) (B : Nat) (k : IntKind) (A : Option Addr) (xs : List Int) : Prop :=
  xs = [] ∨ ∃ b off, A = some ⟨b, off, none⟩ ∧ b < B ∧ ∀ j x, xs[j]? = some x → w.cell? ⟨b, off + j, none⟩ = some (.int k x)

theorem Sl.nil {w : World} {B : Nat} {k : IntKind} {A : Option Addr} : Sl w B k A [] := .inl rfl

theorem Sl.at_ {w : World} {B : Nat} {k : IntKind} {A : Option Addr} {xs : List Int} (h : Sl w B k A xs) {j : Nat} (hj : j < xs.length) :
    ∃ b off, A = some ⟨b, off, none⟩ ∧ b < B ∧ w.cell? ⟨b, off + j, none⟩ = some (.int k (xs.getD j 0)) := by
  rcases h with rfl | ⟨b, off, hA, hb, hc⟩
  · simp at hj
  · exact ⟨b, off, hA, hb, by simpa [List.getD, List.getElem?_eq_getElem hj] using hc j xs[j] (List.getElem?_eq_getElem hj)⟩

theorem Sl.below {w w' : World} {B : Nat} {k : IntKind} {A : Option Addr} {xs : List Int} (h : Sl w B k A xs) (hb : Below B w w') : Sl w' B k A xs := by
  rcases h with rfl | ⟨b, off, hA, hlt, hc⟩
  · exact .inl rfl
  · exact .inr ⟨b, off, hA, hlt, fun j x hx => (hb.cell (p := ⟨b, off + j, none⟩) hlt).trans (hc j x hx)⟩

theorem Sl.mono {w : World} {B B' : Nat} {k : IntKind} {A : Option Addr} {xs : List Int} (h : Sl w B k A xs) (hB : B ≤ B') : Sl w B' k A xs := by
  rcases h with rfl | ⟨b, off, hA, hlt, hc⟩
  · exact .inl rfl
  · exact .inr ⟨b, off, hA, by omega, hc⟩

theorem Sl.take {w : World} {B : Nat} {k : IntKind} {A : Option Addr} {xs : List Int} (h : Sl w B k A xs) (n : Nat) : Sl w B k A (xs.take n) := by
  rcases h with rfl | ⟨b, off, hA, hlt, hc⟩
  · exact .inl (by simp)
  · exact .inr ⟨b, off, hA, hlt, fun j x hx => hc j x (by rw [List.getElem?_take] at hx; split at hx <;> simp_all)⟩

theorem Sl.drop {w : World} {B b off : Nat} {k : IntKind} {xs : List Int} (h : Sl w B k (some ⟨b, off, none⟩) xs) (n : Nat) : Sl w B k (some ⟨b, off + n, none⟩) (xs.drop n) := by
  rcases h with rfl | ⟨b', off', hA, hlt, hc⟩
  · exact .inl (by simp)
  · obtain ⟨rfl, rfl⟩ : b = b' ∧ off = off' := by simpa using hA
    exact .inr ⟨b, off + n, rfl, hlt, fun j x hx => by rw [Nat.add_assoc]; exact hc (n + j) x (by rw [List.getElem?_drop] at hx; exact hx)⟩

/-- A row of the call's own is a slice that reads as its list. -/
theorem own_slice {w : World} {base : Nat} {e : TypeId} {k : IntKind} {v : Value} {xs : List Int} (h : w.ownsRow base e 1 v xs.length (xs.map (Value.int k))) :
    ∃ A c, v = .slice A xs.length c ∧ Sl w w.heap.size k A xs ∧ xs.length ≤ c := by
  rcases h.2 with ⟨rfl, h0⟩ | ⟨g, cap, cur, rfl, hg, hh, hnc, hcp, hcs, htake⟩
  · exact ⟨none, 0, by rw [h0], .inl (List.length_eq_zero_iff.1 h0), by omega⟩
  · refine ⟨_, cap, rfl, .inr ⟨g, 0, rfl, lt_of_block hh, fun j x hx => ?_⟩, hnc⟩
    have hj : j < xs.length := (List.getElem?_eq_some_iff.1 hx).1
    rw [Nat.zero_add, h.cellAt j (by omega)]
    simp [hx]

/-- A slice that came in, as the shell tells it, reads as its first elements. -/
theorem sl_of_cells {k : IntKind} {w : World} {x : Addr} {len cap : Nat} {zs : List Int} (hl : len ≤ cap) (hz : zs.length = cap)
    (hcell : ∀ i, i < zs.length → w.cell? (x.add i) = some (.int k (zs.getD i 0))) : Sl w w.heap.size k (some x) (zs.take len) := by
  rcases Nat.eq_zero_or_pos len with rfl | hp
  · exact .inl (by simp)
  · obtain ⟨b, off, sp⟩ := x
    have hc := hcell 0 (by omega)
    have hsp : sp = none := by simpa [Addr.add] using World.cell?_spot hc
    subst hsp
    have hc0 : w.cell? ⟨b, off, none⟩ = some (.int k (zs.getD 0 0)) := by simpa [Addr.add] using hc
    refine .inr ⟨b, off, rfl, World.block_lt_of_cell? w _ hc0, fun j x hx => ?_⟩
    rw [List.getElem?_take] at hx
    split at hx
    · have hj : j < zs.length := (List.getElem?_eq_some_iff.1 hx).1
      have := hcell j hj
      rw [Addr.add_lit] at this
      rw [this]
      simp [List.getD, hx]
    · cases hx

theorem Sl.up {w w' : World} {k : IntKind} {A : Option Addr} {xs : List Int} (h : Sl w w.heap.size k A xs) (hb : Below w.heap.size w w') : Sl w' w'.heap.size k A xs := (h.below hb).mono hb.size
/-- A slice in the past is one now. -/
theorem Sl.to {w w' : World} {B : Nat} {k : IntKind} {A : Option Addr} {xs : List Int} (h : Sl w B k A xs) (hb : Below B w w') (hB : B ≤ w'.heap.size) : Sl w' w'.heap.size k A xs := (h.below hb).mono hB


/-- A channel in a box, cell by cell. -/
def Cb (w : World) (B : Nat) (a o : Int) (A : Option Addr) (n c : Nat) : Prop := w.cell? ⟨B, 0, none⟩ = some (.int .i64 a) ∧ w.cell? ⟨B, 1, none⟩ = some (.int .i64 o) ∧ w.cell? ⟨B, 2, none⟩ = some (.slice A n c)
theorem Cb.on {w w' : World} {B D : Nat} {a o : Int} {A : Option Addr} {n c : Nat} (h : Cb w B a o A n c) (hb : Below D w w') (hlt : B < D) : Cb w' B a o A n c :=
  ⟨(hb.cell (p := ⟨B, 0, none⟩) hlt).trans h.1, (hb.cell (p := ⟨B, 1, none⟩) hlt).trans h.2.1, (hb.cell (p := ⟨B, 2, none⟩) hlt).trans h.2.2⟩
theorem Cb.lt {w : World} {B : Nat} {a o : Int} {A : Option Addr} {n c : Nat} (h : Cb w B a o A n c) : B < w.heap.size := World.block_lt_of_cell? w _ h.1
/-- A channel in a box, to be written to. -/
def Cx (w : World) (B : Nat) (a o : Int) (A : Option Addr) (n c : Nat) : Prop := w.heap[B]? = some (.cells #[.int .i64 a, .int .i64 o, .slice A n c] 24 (0, 0))
theorem Cx.cb {w : World} {B : Nat} {a o : Int} {A : Option Addr} {n c : Nat} (h : Cx w B a o A n c) : Cb w B a o A n c :=
  ⟨by rw [cell_of_row w B 0 _ 24 _ h]; rfl, by rw [cell_of_row w B 1 _ 24 _ h]; rfl, by rw [cell_of_row w B 2 _ 24 _ h]; rfl⟩
theorem Cx.free {w : World} {B : Nat} {a o : Int} {A : Option Addr} {n c : Nat} (h : Cx w B a o A n c) (i : Nat) : w.frozen? ⟨B, i, none⟩ = false := Lib.frozen_of_heap h i
theorem Cx.lt {w : World} {B : Nat} {a o : Int} {A : Option Addr} {n c : Nat} (h : Cx w B a o A n c) : B < w.heap.size := lt_of_block h
theorem cx_new (w : World) (a o : Int) (A : Option Addr) (n c : Nat) : Cx (w.alloc (.cells #[.int .i64 a, .int .i64 o, .slice A n c] 24)) w.heap.size a o A n c := heap_alloc_new w _
theorem Cx.old {w : World} {B : Nat} {a o : Int} {A : Option Addr} {n c : Nat} (h : Cx w B a o A n c) (x : Obj) : Cx (w.alloc x) B a o A n c := (heap_alloc_old w x h.lt).trans h
theorem Cx.on {w w' : World} {B D : Nat} {a o : Int} {A : Option Addr} {n c : Nat} (h : Cx w B a o A n c) (hb : Below D w w') (hlt : B < D) : Cx w' B a o A n c := (hb.block B hlt).trans h
theorem Cx.other {w : World} {B : Nat} {a o : Int} {A : Option Addr} {n c : Nat} (h : Cx w B a o A n c) {p : Addr} (hne : B ≠ p.block) (v : Value) : Cx (w.setCell p v) B a o A n c := (Below.heap_setCell w p v B hne).trans h
theorem Cx.set0 {w : World} {B : Nat} {a o : Int} {A : Option Addr} {n c : Nat} (h : Cx w B a o A n c) (a' : Int) : Cx (w.setCell ⟨B, 0, none⟩ (.int .i64 a')) B a' o A n c := heap_setCell_same w B 0 _ 24 _ h
theorem Cx.set1 {w : World} {B : Nat} {a o : Int} {A : Option Addr} {n c : Nat} (h : Cx w B a o A n c) (o' : Int) : Cx (w.setCell ⟨B, 1, none⟩ (.int .i64 o')) B a o' A n c := heap_setCell_same w B 1 _ 24 _ h
theorem Cx.set2 {w : World} {B : Nat} {a o : Int} {A : Option Addr} {n c : Nat} (h : Cx w B a o A n c) (A' : Option Addr) (n' c' : Nat) : Cx (w.setCell ⟨B, 2, none⟩ (.slice A' n' c')) B a o A' n' c' := heap_setCell_same w B 2 _ 24 _ h
/-- A whole channel stored. -/
theorem Cx.put {w : World} {B : Nat} {a o : Int} {A : Option Addr} {n c : Nat} (h : Cx w B a o A n c) (a' o' : Int) (A' : Option Addr) (n' c' : Nat) :
    Cx (((w.setCell ⟨B, 0, none⟩ (.int .i64 a')).setCell ⟨B, 1, none⟩ (.int .i64 o')).setCell ⟨B, 2, none⟩ (.slice A' n' c')) B a' o' A' n' c' := ((h.set0 a').set1 o').set2 A' n' c'
theorem put_below {D : Nat} {w0 w : World} (B : Nat) (h : Below D w0 w) (hB : D ≤ B) (v0 v1 v2 : Value) : Below D w0 (((w.setCell ⟨B, 0, none⟩ v0).setCell ⟨B, 1, none⟩ v1).setCell ⟨B, 2, none⟩ v2) :=
  ((h.setCell hB _).setCell hB _).setCell hB _

/-- A row of the call's own that holds integers, to be written to. -/
def Rx (w : World) (g : Nat) (ys : List Int) : Prop := w.heap[g]? = some (.cells (ys.map (Value.int .i64)).toArray 3 (0, 0))
theorem Rx.cell {w : World} {g : Nat} {ys : List Int} (h : Rx w g ys) {j : Nat} (hj : j < ys.length) : w.cell? ⟨g, j, none⟩ = some (.int .i64 (ys.getD j 0)) := by
  rw [cell_of_row w g j _ 3 _ h]
  simp [List.getD, hj]
theorem Rx.free {w : World} {g : Nat} {ys : List Int} (h : Rx w g ys) (i : Nat) : w.frozen? ⟨g, i, none⟩ = false := Lib.frozen_of_heap h i
theorem Rx.lt {w : World} {g : Nat} {ys : List Int} (h : Rx w g ys) : g < w.heap.size := lt_of_block h
theorem Rx.on {w w' : World} {g D : Nat} {ys : List Int} (h : Rx w g ys) (hb : Below D w w') (hlt : g < D) : Rx w' g ys := (hb.block g hlt).trans h
theorem Rx.old {w : World} {g : Nat} {ys : List Int} (h : Rx w g ys) (o : Obj) : Rx (w.alloc o) g ys := (heap_alloc_old w o h.lt).trans h
theorem Rx.other {w : World} {g : Nat} {ys : List Int} (h : Rx w g ys) {p : Addr} (hne : g ≠ p.block) (v : Value) : Rx (w.setCell p v) g ys := (Below.heap_setCell w p v g hne).trans h
theorem Rx.set {w : World} {g : Nat} {ys : List Int} (h : Rx w g ys) (j : Nat) (x : Int) : Rx (w.setCell ⟨g, j, none⟩ (.int .i64 x)) g (ys.set j x) := by
  have := heap_setCell_same w g j _ 3 (.int .i64 x) h
  unfold Rx
  rw [this, List.map_set, List.setIfInBounds_toArray]
theorem Rx.sl {w : World} {g : Nat} {ys : List Int} (h : Rx w g ys) : Sl w w.heap.size .i64 (some ⟨g, 0, none⟩) ys :=
  .inr ⟨g, 0, rfl, h.lt, fun j x hx => by
    have hj : j < ys.length := (List.getElem?_eq_some_iff.1 hx).1
    rw [Nat.zero_add, h.cell hj]
    simp [List.getD, hx]⟩
theorem rx_made {w : World} {base g n : Nat} {ys : List Int} (h : w.ownsRow base 3 1 (.slice (some ⟨g, 0, none⟩) n n) n (ys.map (Value.int .i64))) : Rx w g ys := by
  rcases h.2 with ⟨h0, _⟩ | ⟨g', cap, cur, hv, _, hh, _, _, hcs, ht⟩
  · cases h0
  · simp only [Value.slice.injEq, Option.some.injEq, Addr.mk.injEq] at hv
    obtain ⟨⟨rfl, _⟩, _, rfl⟩ := hv
    rw [List.take_of_length_le (by simp [hcs])] at ht
    unfold Rx
    rw [hh, ← ht]
theorem made_ints (k : Nat) : (madeCells (Value.int .i64 0).cells (k * 1)).toList = (List.replicate k (0 : Int)).map (Value.int .i64) := by
  rw [Nat.mul_one]
  show (madeCells #[.int .i64 0] k).toList = _
  rw [toList_madeCells_one]
  simp
theorem info3 : (Try.prog.info? 3).map (fun i => (i.zero, i.size, i.bytes)) = some (some (.int .i64 0), 1, 8) := by kernel_rfl

/-- A row of the call's own that holds l, none of whose blocks is older than base. -/
def Fr (w : World) (base : Nat) (A : Option Addr) (l : List Int) : Prop := l = [] ∨ ∃ g, A = some ⟨g, 0, none⟩ ∧ base ≤ g ∧ g < w.heap.size ∧ ∀ j x, l[j]? = some x → w.cell? ⟨g, j, none⟩ = some (.int .i64 x)
theorem Fr.nil {w : World} {base : Nat} {A : Option Addr} : Fr w base A [] := .inl rfl
theorem Fr.sl {w : World} {base : Nat} {A : Option Addr} {l : List Int} (h : Fr w base A l) : Sl w w.heap.size .i64 A l := by
  rcases h with rfl | ⟨g, rfl, _, hg, hc⟩
  · exact .inl rfl
  · exact .inr ⟨g, 0, rfl, hg, fun j x hx => by rw [Nat.zero_add]; exact hc j x hx⟩
theorem Fr.set {w : World} {base : Nat} {A : Option Addr} {l : List Int} (h : Fr w base A l) (p : Addr) (hp : p.block < base) (v : Value) : Fr (w.setCell p v) base A l := by
  rcases h with rfl | ⟨g, rfl, hb, hg, hc⟩
  · exact .inl rfl
  · have e : ∀ i, (w.setCell p v).cell? ⟨g, i, none⟩ = w.cell? ⟨g, i, none⟩ := fun i => World.cell?_of_block (Below.heap_setCell w p v g (by omega))
    exact .inr ⟨g, rfl, hb, Nat.lt_of_lt_of_le hg (Below.setCell (Below.refl 0 w) (Nat.zero_le _) v).size, fun j x hx => (e j).trans (hc j x hx)⟩
theorem Fr.low {w : World} {base base' : Nat} {A : Option Addr} {l : List Int} (h : Fr w base A l) (hb : base' ≤ base) : Fr w base' A l := by
  rcases h with rfl | ⟨g, rfl, h1, hg, hc⟩
  · exact .inl rfl
  · exact .inr ⟨g, rfl, by omega, hg, hc⟩
theorem Fr.on {w w' : World} {base D : Nat} {A : Option Addr} {l : List Int} (h : Fr w base A l) (hb : Below D w w') (hD : w.heap.size ≤ D) : Fr w' base A l := by
  rcases h with rfl | ⟨g, rfl, h1, hg, hc⟩
  · exact .inl rfl
  · exact .inr ⟨g, rfl, h1, Nat.lt_of_lt_of_le hg hb.size, fun j x hx => (hb.cell (p := ⟨g, j, none⟩) (by show g < D; omega)).trans (hc j x hx)⟩
theorem Rx.fr {w : World} {g base : Nat} {ys : List Int} (h : Rx w g ys) (hb : base ≤ g) : Fr w base (some ⟨g, 0, none⟩) ys :=
  .inr ⟨g, rfl, hb, h.lt, fun j x hx => by
    have hj : j < ys.length := (List.getElem?_eq_some_iff.1 hx).1
    rw [h.cell hj]
    simp [List.getD, hx]⟩
/-- A row of the call's own, as appends leave it. -/
theorem own_fr {w : World} {base : Nat} {v : Value} {xs : List Int} (h : w.ownsRow base 3 1 v xs.length (xs.map (Value.int .i64))) :
    ∃ A c, v = .slice A xs.length c ∧ xs.length ≤ c ∧ Fr w base A xs := by
  rcases h.2 with ⟨rfl, h0⟩ | ⟨g, cap, cur, rfl, hg, hh, hnc, hcp, hcs, htake⟩
  · exact ⟨none, 0, by rw [h0], by omega, .inl (List.length_eq_zero_iff.1 h0)⟩
  · refine ⟨_, cap, rfl, hnc, .inr ⟨g, rfl, hg, lt_of_block hh, fun j x hx => ?_⟩⟩
    have hj : j < xs.length := (List.getElem?_eq_some_iff.1 hx).1
    rw [h.cellAt j (by omega)]
    simp [hx]

/-- The call gave this bool; nothing that was there has turned. -/
def BoolPost (w : World) (b : Bool) (e : Ending) (w' : World) : Prop := e = .returned (.bool b) ∧ Below w.heap.size w w'
def UpPost (w : World) (e : Ending) (w' : World) : Prop := e = .returned (.bool true) ∧ Below w.heap.size w w'
/-- The call gave a slice in a row of its own. -/
def RowPost (w : World) (l : List Int) (e : Ending) (w' : World) : Prop := ∃ A c, e = .returned (.slice A l.length c) ∧ l.length ≤ c ∧ Fr w' w.heap.size A l ∧ Below w.heap.size w w'
/-- The call gave a channel and an error's number; its members are a row of the call's own. -/
def ChPost (w : World) (r : Ch × Nat) (e : Ending) (w' : World) : Prop := ∃ A c, e = .returned (.tuple #[.agg #[.int .i64 r.1.id, .int .i64 r.1.ow, .slice A r.1.l.length c], .int .i64 (r.2 : Int)]) ∧ r.1.l.length ≤ c ∧ Fr w' w.heap.size A r.1.l ∧ Below w.heap.size w w'

end Go.Proofs.Ytpelopfbdfnmeaa
