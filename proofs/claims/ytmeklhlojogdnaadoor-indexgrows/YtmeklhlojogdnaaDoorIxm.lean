/-
  Words for memory that the walks of package index use: an index in memory, with its maps; what may turn when it is written to. No program's function is walked here. No conditions.
-/
import Derived.Test.YtmeklhlojogdnaaDoorMap
import Derived.Test.YtmeklhlojogdnaaDoorPl
import Derived.Test.YtmeklhlojogdnaaDoorAtMem
namespace Go.Proofs.YtmeklhlojogdnaaDoor
open Go.RowKit Go.MapKept
open Go.ChangeMaps (setBlock heap_setBlock_same heap_setBlock_other)
set_option linter.unusedVariables false

/-- Outside of the blocks of O nothing has turned. -/
structure Off (O : Nat → Prop) (w w' : World) : Prop where
  os : w'.os = w.os
  tape : w'.tape = w.tape
  output : w'.output = w.output
  size : w.heap.size ≤ w'.heap.size
  block : ∀ k, k < w.heap.size → ¬ O k → w'.heap[k]? = w.heap[k]?
theorem Off.refl (O : Nat → Prop) (w : World) : Off O w w := ⟨rfl, rfl, rfl, Nat.le_refl _, fun _ _ _ => rfl⟩
theorem Off.trans {O O1 : Nat → Prop} {a b c : World} (h : Off O a b) (k : Off O1 b c) (hO : ∀ r, O1 r → O r ∨ a.heap.size ≤ r) : Off O a c :=
  ⟨k.os.trans h.os, k.tape.trans h.tape, k.output.trans h.output, Nat.le_trans h.size k.size, fun i hi hn => (k.block i (Nat.lt_of_lt_of_le hi h.size) (fun h1 => (hO i h1).elim hn (by omega))).trans (h.block i hi hn)⟩
theorem Off.of_below {O : Nat → Prop} {w w' : World} (h : Below w.heap.size w w') : Off O w w' := ⟨h.os, h.tape, h.output, h.size, fun k hk _ => h.block k hk⟩
theorem Off.then {O : Nat → Prop} {a b c : World} (h : Off O a b) (k : Below b.heap.size b c) : Off O a c := h.trans (Off.of_below (O := O) k) (fun r hr => .inl hr)
theorem Off.below {O : Nat → Prop} {w w' : World} {D : Nat} (h : Off O w w') (hO : ∀ r, O r → D ≤ r) (hD : D ≤ w.heap.size) : Below D w w' :=
  ⟨h.os, h.tape, h.output, h.size, fun k hk => h.block k (by omega) (fun h1 => by have := hO k h1; omega)⟩
theorem Off.drew {O : Nat → Prop} {w w' : World} (h : Off O w w') : Off O w w'.drew := ⟨h.os, h.tape, h.output, h.size, h.block⟩
theorem size_setBlock (w : World) (b : Nat) (o : Obj) : (setBlock w b o).heap.size = w.heap.size := by simp [setBlock]
theorem get_setBlock (w : World) (b : Nat) (o : Obj) (k : Nat) : (setBlock w b o).heap[k]? = if b = k then (if b < w.heap.size then some o else none) else w.heap[k]? := by
  simp only [setBlock, Array.getElem?_setIfInBounds]
theorem set_same {w : World} {b : Nat} (o : Obj) (h : b < w.heap.size) : (setBlock w b o).heap[b]? = some o := by rw [get_setBlock, if_pos rfl, if_pos h]
theorem set_other {w : World} {b k : Nat} (o : Obj) (h : k ≠ b) : (setBlock w b o).heap[k]? = w.heap[k]? := by rw [get_setBlock, if_neg (fun e => h e.symm)]
theorem Off.set {O : Nat → Prop} {a w : World} (h : Off O a w) {b : Nat} (hb : O b) (o : Obj) : Off O a (setBlock w b o) :=
  ⟨h.os, h.tape, h.output, by rw [size_setBlock]; exact h.size, fun k hk hn => (set_other o (fun e => hn (by rw [e]; exact hb))).trans (h.block k hk hn)⟩
theorem Off.alloc {O : Nat → Prop} {a w : World} (h : Off O a w) (o : Obj) : Off O a (w.alloc o) :=
  h.then ((Below.refl _ _).alloc (Nat.le_refl _) _)

theorem mo_lt {α : Type} {d : Kd α} {w : World} {b : Nat} {f : α → Option Value} {c : Nat} (h : Mo d w.heap[b]? f c) : b < w.heap.size := by
  obtain ⟨es, clock, hb, _⟩ := h
  exact lt_of_block hb
theorem mo_row {α : Type} {d : Kd α} {w : World} {b r : Nat} {f : α → Option Value} {c : Nat} {cs : Array Value} {t : TypeId} {fr : Nat × Nat} (h : Mo d w.heap[b]? f c) (hr : w.heap[r]? = some (.cells cs t fr)) : r ≠ b := by
  obtain ⟨es, clock, hb, _⟩ := h
  intro e
  rw [e, hb] at hr
  cases hr
theorem mo_zero {α : Type} {d : Kd α} {o : Option Obj} {f : α → Option Value} (h : Mo d o f 0) (a : α) : f a = none := by
  obtain ⟨es, clock, _, E, hs⟩ := h
  cases hf : f a with
  | none => rfl
  | some v =>
    obtain ⟨e, he, _⟩ := (E.at_ a v).1 hf
    have : es = #[] := Array.eq_empty_of_size_eq_zero hs
    subst this
    simp at he

/-- The map T of maps reads as g. -/
def Tm (w : World) (O : Nat → Prop) (K T : Nat) (g : Ky → Int × Int → Option Int) : Prop :=
  ∃ ft ct, Mo dK w.heap[T]? ft ct ∧ (∀ a, (ft a = none ∧ ∀ i, g a i = none) ∨ ∃ b c, ft a = some (.map (some b)) ∧ O b ∧ b ≠ K ∧ b ≠ T ∧ Mo dI w.heap[b]? (fun i => (g a i).map (Value.int .i64)) c) ∧
    ∀ a a' b, ft a = some (.map (some b)) → ft a' = some (.map (some b)) → a = a'
/-- The map K reads as the keys of what is known. -/
def Km (w : World) (O : Nat → Prop) (K : Nat) (L : List Kn) : Prop :=
  ∃ fk, Mo dI w.heap[K]? fk L.length ∧ ∀ i, (fk i = none ∧ ∀ k ∈ L, k.i ≠ i) ∨ ∃ k ∈ L, k.i = i ∧ ∃ A c, fk i = some (.slice A (kl k.c).length c) ∧ Kr w O A (kl k.c)

theorem Kr.keep {w w' : World} {O O' : Nat → Prop} {A : Option Addr} {l : List Ky} (h : Kr w O A l) (hO : ∀ r, O r → O' r) (hr : ∀ r cs, O r → w.heap[r]? = some (.cells cs 60 (0, 0)) → w'.heap[r]? = w.heap[r]?) : Kr w' O' A l := by
  rcases h with rfl | ⟨r, hA, hOr, hc⟩
  · exact .inl rfl
  · exact .inr ⟨r, hA, hO r hOr, (hr r _ hOr hc).trans hc⟩
theorem Km.keep {w w' : World} {O O' : Nat → Prop} {K : Nat} {L : List Kn} (h : Km w O K L) (hO : ∀ r, O r → O' r) (hK : w'.heap[K]? = w.heap[K]?) (hr : ∀ r cs, O r → w.heap[r]? = some (.cells cs 60 (0, 0)) → w'.heap[r]? = w.heap[r]?) : Km w' O' K L := by
  obtain ⟨fk, hm, hi⟩ := h
  refine ⟨fk, by rw [hK]; exact hm, fun i => ?_⟩
  rcases hi i with h1 | ⟨k, hk, hki, A, c, h1, h2⟩
  · exact .inl h1
  · exact .inr ⟨k, hk, hki, A, c, h1, h2.keep hO hr⟩
theorem Tm.keep {w w' : World} {O O' : Nat → Prop} {K T : Nat} {g : Ky → Int × Int → Option Int} (h : Tm w O K T g) (hO : ∀ r, O r → O' r) (hT : w'.heap[T]? = w.heap[T]?) (hr : ∀ r, O r → w'.heap[r]? = w.heap[r]?) : Tm w' O' K T g := by
  obtain ⟨ft, ct, hm, ha, hin⟩ := h
  refine ⟨ft, ct, by rw [hT]; exact hm, fun a => ?_, hin⟩
  rcases ha a with h1 | ⟨b, c, h1, h2, h3, h4, h5⟩
  · exact .inl h1
  · exact .inr ⟨b, c, h1, hO b h2, h3, h4, by rw [hr b h2]; exact h5⟩
theorem Km.lt {w : World} {O : Nat → Prop} {K : Nat} {L : List Kn} (h : Km w O K L) : K < w.heap.size := by
  obtain ⟨fk, hm, _⟩ := h
  exact mo_lt hm
theorem Tm.lt {w : World} {O : Nat → Prop} {K T : Nat} {g : Ky → Int × Int → Option Int} (h : Tm w O K T g) : T < w.heap.size := by
  obtain ⟨ft, ct, hm, _⟩ := h
  exact mo_lt hm

/-- An index's box. -/
def Xb (w : World) (X : Nat) (n : Int) (kb tb : Option Nat) : Prop := w.heap[X]? = some (.cells #[.int .i64 n, .map kb, .map tb] 55 (0, 0))
theorem Xb.c0 {w : World} {X : Nat} {n : Int} {kb tb : Option Nat} (h : Xb w X n kb tb) : w.cell? ⟨X, 0, none⟩ = some (.int .i64 n) := by rw [cell_of_row w X 0 _ 55 _ h]; rfl
theorem Xb.c1 {w : World} {X : Nat} {n : Int} {kb tb : Option Nat} (h : Xb w X n kb tb) : w.cell? ⟨X, 1, none⟩ = some (.map kb) := by rw [cell_of_row w X 1 _ 55 _ h]; rfl
theorem Xb.c2 {w : World} {X : Nat} {n : Int} {kb tb : Option Nat} (h : Xb w X n kb tb) : w.cell? ⟨X, 2, none⟩ = some (.map tb) := by rw [cell_of_row w X 2 _ 55 _ h]; rfl
theorem Xb.lt {w : World} {X : Nat} {n : Int} {kb tb : Option Nat} (h : Xb w X n kb tb) : X < w.heap.size := lt_of_block h
theorem Xb.free {w : World} {X : Nat} {n : Int} {kb tb : Option Nat} (h : Xb w X n kb tb) (i : Nat) : w.frozen? ⟨X, i, none⟩ = false := Lib.frozen_of_heap h i
theorem Xb.set1 {w : World} {X : Nat} {n : Int} {kb tb : Option Nat} (h : Xb w X n kb tb) (K : Option Nat) : Xb (w.setCell ⟨X, 1, none⟩ (.map K)) X n K tb := heap_setCell_same w X 1 _ 55 _ h
theorem Xb.set2 {w : World} {X : Nat} {n : Int} {kb tb : Option Nat} (h : Xb w X n kb tb) (T : Option Nat) : Xb (w.setCell ⟨X, 2, none⟩ (.map T)) X n kb T := heap_setCell_same w X 2 _ 55 _ h
theorem Xb.on {w w' : World} {X D : Nat} {n : Int} {kb tb : Option Nat} (h : Xb w X n kb tb) (hb : Below D w w') (hlt : X < D) : Xb w' X n kb tb := (hb.block X hlt).trans h

/-- The index at X, among n, which knows L; its blocks are those of O. -/
structure Ix (w : World) (X : Nat) (n : Int) (L : List Kn) (O : Nat → Prop) : Prop where
  wf : Wf (am n) L
  own : O X
  lt : ∀ r, O r → r < w.heap.size
  mem : ∃ kb tb, Xb w X n kb tb ∧ ((kb = none ∧ tb = none ∧ L = []) ∨ ∃ K T g, kb = some K ∧ tb = some T ∧ K ≠ T ∧ O K ∧ O T ∧ Km w O K L ∧ Tm w O K T g ∧ Gq L g)
theorem Ix.same {w w' : World} {X : Nat} {n : Int} {L : List Kn} {O : Nat → Prop} (h : Ix w X n L O) (hs : w.heap.size ≤ w'.heap.size) (hr : ∀ r, O r → w'.heap[r]? = w.heap[r]?) : Ix w' X n L O := by
  obtain ⟨wf, own, lt, kb, tb, hx, hm⟩ := h
  refine ⟨wf, own, fun r h => Nat.lt_of_lt_of_le (lt r h) hs, kb, tb, (hr X own).trans hx, ?_⟩
  rcases hm with h1 | ⟨K, T, g, h1, h2, h3, h4, h5, h6, h7, h8⟩
  · exact .inl h1
  · exact .inr ⟨K, T, g, h1, h2, h3, h4, h5, h6.keep (fun _ h => h) (hr K h4) (fun r _ h _ => hr r h), h7.keep (fun _ h => h) (hr T h5) hr, h8⟩
theorem Ix.on {w w' : World} {X : Nat} {n : Int} {L : List Kn} {O : Nat → Prop} (h : Ix w X n L O) (hb : Below w.heap.size w w') : Ix w' X n L O := h.same hb.size (fun r hr => hb.block r (h.lt r hr))
theorem Ix.off {w w' : World} {X : Nat} {n : Int} {L : List Kn} {O O1 : Nat → Prop} (h : Ix w X n L O) (hb : Off O1 w w') (hd : ∀ r, O r → ¬ O1 r) : Ix w' X n L O := h.same hb.size (fun r hr => hb.block r (h.lt r hr) (hd r hr))

/-- A new index. -/
theorem ix_new (w : World) (n : Int) : Ix (w.alloc (.cells #[.int .i64 n, .map none, .map none] 55)) w.heap.size n [] (fun r => r = w.heap.size) :=
  ⟨wf_nil _, rfl, fun r hr => by rw [hr]; simp, none, none, heap_alloc_new w _, .inl ⟨rfl, rfl, rfl⟩⟩

/-- What is known, in a box, cell by cell. -/
def Nb (w : World) (B : Nat) (k : Kn) : Prop :=
  w.cell? ⟨B, 0, none⟩ = some (.int .i64 k.i.1) ∧ w.cell? ⟨B, 1, none⟩ = some (.int .i64 k.i.2) ∧ w.cell? ⟨B, 2, none⟩ = some (.int .i64 k.c.u) ∧ w.cell? ⟨B, 3, none⟩ = some (.int .i64 k.c.s) ∧ w.cell? ⟨B, 4, none⟩ = some (.int .i64 k.c.k) ∧
  w.cell? ⟨B, 5, none⟩ = some (.int .i64 k.c.h) ∧ w.cell? ⟨B, 6, none⟩ = some (.int .i64 k.c.n) ∧ w.cell? ⟨B, 7, none⟩ = some (.string k.c.t) ∧ w.cell? ⟨B, 8, none⟩ = some (.int .i64 k.q)
theorem Nb.on {w w' : World} {B D : Nat} {k : Kn} (h : Nb w B k) (hb : Below D w w') (hB : B < D) : Nb w' B k := by
  obtain ⟨c0, c1, c2, c3, c4, c5, c6, c7, c8⟩ := h
  exact ⟨(hb.cell (p := ⟨B, 0, none⟩) hB).trans c0, (hb.cell (p := ⟨B, 1, none⟩) hB).trans c1, (hb.cell (p := ⟨B, 2, none⟩) hB).trans c2, (hb.cell (p := ⟨B, 3, none⟩) hB).trans c3, (hb.cell (p := ⟨B, 4, none⟩) hB).trans c4, (hb.cell (p := ⟨B, 5, none⟩) hB).trans c5, (hb.cell (p := ⟨B, 6, none⟩) hB).trans c6, (hb.cell (p := ⟨B, 7, none⟩) hB).trans c7, (hb.cell (p := ⟨B, 8, none⟩) hB).trans c8⟩
theorem Nb.off {w w' : World} {B : Nat} {k : Kn} {O : Nat → Prop} (h : Nb w B k) (hb : Off O w w') (hB : ¬ O B) : Nb w' B k := by
  have hlt : B < w.heap.size := World.block_lt_of_cell? w _ h.1
  have hc : ∀ j, w'.cell? ⟨B, j, none⟩ = w.cell? ⟨B, j, none⟩ := fun j => World.cell?_of_block (hb.block B hlt hB)
  obtain ⟨c0, c1, c2, c3, c4, c5, c6, c7, c8⟩ := h
  exact ⟨(hc 0).trans c0, (hc 1).trans c1, (hc 2).trans c2, (hc 3).trans c3, (hc 4).trans c4, (hc 5).trans c5, (hc 6).trans c6, (hc 7).trans c7, (hc 8).trans c8⟩
theorem Nb.lt {w : World} {B : Nat} {k : Kn} (h : Nb w B k) : B < w.heap.size := World.block_lt_of_cell? w _ h.1
/-- Its cells. -/
abbrev nc (k : Kn) : List Value := [.int .i64 k.i.1, .int .i64 k.i.2, .int .i64 k.c.u, .int .i64 k.c.s, .int .i64 k.c.k, .int .i64 k.c.h, .int .i64 k.c.n, .string k.c.t, .int .i64 k.q]
theorem nb_new (w : World) (k : Kn) : Nb (w.alloc (.cells #[.int .i64 k.i.1, .int .i64 k.i.2, .int .i64 k.c.u, .int .i64 k.c.s, .int .i64 k.c.k, .int .i64 k.c.h, .int .i64 k.c.n, .string k.c.t, .int .i64 k.q] 29)) w.heap.size k := by
  refine ⟨?_, ?_, ?_, ?_, ?_, ?_, ?_, ?_, ?_⟩ <;> simp [go_sem]

end Go.Proofs.YtmeklhlojogdnaaDoor
