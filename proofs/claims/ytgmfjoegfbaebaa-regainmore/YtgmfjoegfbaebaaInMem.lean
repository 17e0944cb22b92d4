/-
  Words for memory that the walks of package instance use: what is known of an instance, as a value and in a box; a row that an answer has of its own. No program's function is walked here. No conditions.
-/
import Derived.Test.YtgmfjoegfbaebaaBaCm
import Derived.Test.YtgmfjoegfbaebaaAtSa
import Derived.Laws.CopyOwn
namespace Go.Proofs.Ytgmfjoegfbaebaa.In
open Go.RowKit
set_option linter.unusedVariables false

/-- What is known of an instance. -/
structure Rd where
  st : Int
  pn : Int
  pb : Int
  vn : Int
  vb : Int
  u : Int
  s : Int
  k : Int
  h : Int
  n : Int
  t : ByteArray
  q : Int
  xs : List Int

abbrev rv (r : Rd) (A : Option Addr) (c : Nat) : Value := .agg #[.int .i64 r.st, .int .i64 r.pn, .int .i64 r.pb, .int .i64 r.vn, .int .i64 r.vb, .int .i64 r.u, .int .i64 r.s, .int .i64 r.k, .int .i64 r.h, .int .i64 r.n, .string r.t, .int .i64 r.q, .slice A r.xs.length c]
abbrev bv (x y : Int) : Value := .agg #[.int .i64 x, .int .i64 y]
abbrev cv (u s k h n : Int) (t : ByteArray) : Value := .agg #[.int .i64 u, .int .i64 s, .int .i64 k, .int .i64 h, .int .i64 n, .string t]
abbrev av (q : Int) (A : Option Addr) (n c : Nat) : Value := .agg #[.int .i64 q, .slice A n c]

/-- A record's cells, in a box. -/
abbrev rcs (r : Rd) (A : Option Addr) (c : Nat) : Array Value := #[.int .i64 r.st, .int .i64 r.pn, .int .i64 r.pb, .int .i64 r.vn, .int .i64 r.vb, .int .i64 r.u, .int .i64 r.s, .int .i64 r.k, .int .i64 r.h, .int .i64 r.n, .string r.t, .int .i64 r.q, .slice A r.xs.length c]
def Rx (w : World) (B : Nat) (r : Rd) (A : Option Addr) (c : Nat) : Prop := w.heap[B]? = some (.cells (rcs r A c) 42 (0, 0))
/-- The same, cell by cell. -/
def Rb (w : World) (B : Nat) (r : Rd) (A : Option Addr) (c : Nat) : Prop :=
  w.cell? ⟨B, 0, none⟩ = some (.int .i64 r.st) ∧ w.cell? ⟨B, 1, none⟩ = some (.int .i64 r.pn) ∧ w.cell? ⟨B, 2, none⟩ = some (.int .i64 r.pb) ∧ w.cell? ⟨B, 3, none⟩ = some (.int .i64 r.vn) ∧ w.cell? ⟨B, 4, none⟩ = some (.int .i64 r.vb) ∧
  w.cell? ⟨B, 5, none⟩ = some (.int .i64 r.u) ∧ w.cell? ⟨B, 6, none⟩ = some (.int .i64 r.s) ∧ w.cell? ⟨B, 7, none⟩ = some (.int .i64 r.k) ∧ w.cell? ⟨B, 8, none⟩ = some (.int .i64 r.h) ∧ w.cell? ⟨B, 9, none⟩ = some (.int .i64 r.n) ∧ w.cell? ⟨B, 10, none⟩ = some (.string r.t) ∧
  w.cell? ⟨B, 11, none⟩ = some (.int .i64 r.q) ∧ w.cell? ⟨B, 12, none⟩ = some (.slice A r.xs.length c)
theorem Rx.rb {w : World} {B : Nat} {r : Rd} {A : Option Addr} {c : Nat} (h : Rx w B r A c) : Rb w B r A c := by
  refine ⟨?_, ?_, ?_, ?_, ?_, ?_, ?_, ?_, ?_, ?_, ?_, ?_, ?_⟩ <;> (rw [cell_of_row w B _ _ 42 _ h]; rfl)
theorem Rb.lt {w : World} {B : Nat} {r : Rd} {A : Option Addr} {c : Nat} (h : Rb w B r A c) : B < w.heap.size := World.block_lt_of_cell? w _ h.1
theorem Rb.on {w w' : World} {B D : Nat} {r : Rd} {A : Option Addr} {c : Nat} (h : Rb w B r A c) (hb : Below D w w') (hB : B < D) : Rb w' B r A c := by
  obtain ⟨c0, c1, c2, c3, c4, c5, c6, c7, c8, c9, c10, c11, c12⟩ := h
  exact ⟨(hb.cell (p := ⟨B, 0, none⟩) hB).trans c0, (hb.cell (p := ⟨B, 1, none⟩) hB).trans c1, (hb.cell (p := ⟨B, 2, none⟩) hB).trans c2, (hb.cell (p := ⟨B, 3, none⟩) hB).trans c3, (hb.cell (p := ⟨B, 4, none⟩) hB).trans c4, (hb.cell (p := ⟨B, 5, none⟩) hB).trans c5, (hb.cell (p := ⟨B, 6, none⟩) hB).trans c6, (hb.cell (p := ⟨B, 7, none⟩) hB).trans c7, (hb.cell (p := ⟨B, 8, none⟩) hB).trans c8, (hb.cell (p := ⟨B, 9, none⟩) hB).trans c9, (hb.cell (p := ⟨B, 10, none⟩) hB).trans c10, (hb.cell (p := ⟨B, 11, none⟩) hB).trans c11, (hb.cell (p := ⟨B, 12, none⟩) hB).trans c12⟩
theorem Rx.lt {w : World} {B : Nat} {r : Rd} {A : Option Addr} {c : Nat} (h : Rx w B r A c) : B < w.heap.size := lt_of_block h
theorem Rx.free {w : World} {B : Nat} {r : Rd} {A : Option Addr} {c : Nat} (h : Rx w B r A c) (i : Nat) : w.frozen? ⟨B, i, none⟩ = false := Lib.frozen_of_heap h i
theorem rx_new (w : World) (r : Rd) (A : Option Addr) (c : Nat) : Rx (w.alloc (.cells (rcs r A c) 42)) w.heap.size r A c := heap_alloc_new w _
theorem Rx.old {w : World} {B : Nat} {r : Rd} {A : Option Addr} {c : Nat} (h : Rx w B r A c) (o : Obj) : Rx (w.alloc o) B r A c := (heap_alloc_old w o h.lt).trans h
theorem Rx.on {w w' : World} {B D : Nat} {r : Rd} {A : Option Addr} {c : Nat} (h : Rx w B r A c) (hb : Below D w w') (hB : B < D) : Rx w' B r A c := (hb.block B hB).trans h
theorem Rx.other {w : World} {B : Nat} {r : Rd} {A : Option Addr} {c : Nat} (h : Rx w B r A c) {p : Addr} (hne : B ≠ p.block) (v : Value) : Rx (w.setCell p v) B r A c := (Below.heap_setCell w p v B hne).trans h

/-- A row that lies above block D and reads as xs. -/
def Fr (D : Nat) (w : World) (A : Option Addr) (xs : List Int) : Prop := xs = [] ∨ ∃ b off, A = some ⟨b, off, none⟩ ∧ D ≤ b ∧ b < w.heap.size ∧ ∀ j x, xs[j]? = some x → w.cell? ⟨b, off + j, none⟩ = some (.int .i64 x)
theorem Fr.sl {D : Nat} {w : World} {A : Option Addr} {xs : List Int} (h : Fr D w A xs) : At.Sl w w.heap.size .i64 A xs := by
  rcases h with rfl | ⟨b, off, h1, _, h3, h4⟩
  · exact .inl rfl
  · exact .inr ⟨b, off, h1, h3, h4⟩
theorem Fr.mono {D D' : Nat} {w : World} {A : Option Addr} {xs : List Int} (h : Fr D w A xs) (hD : D' ≤ D) : Fr D' w A xs := by
  rcases h with rfl | ⟨b, off, h1, h2, h3, h4⟩
  · exact .inl rfl
  · exact .inr ⟨b, off, h1, by omega, h3, h4⟩
theorem Fr.on {D : Nat} {w w' : World} {A : Option Addr} {xs : List Int} (h : Fr D w A xs) (hb : Below w.heap.size w w') : Fr D w' A xs := by
  rcases h with rfl | ⟨b, off, h1, h2, h3, h4⟩
  · exact .inl rfl
  · exact .inr ⟨b, off, h1, h2, Nat.lt_of_lt_of_le h3 hb.size, fun j x hx => (hb.cell (p := ⟨b, off + j, none⟩) h3).trans (h4 j x hx)⟩
theorem Fr.set {D : Nat} {w : World} {A : Option Addr} {xs : List Int} (h : Fr D w A xs) {p : Addr} (hp : p.block < D) (v : Value) : Fr D (w.setCell p v) A xs := by
  rcases h with rfl | ⟨b, off, h1, h2, h3, h4⟩
  · exact .inl rfl
  · have hb : (w.setCell p v).heap[b]? = w.heap[b]? := Below.heap_setCell w p v b (by omega)
    refine .inr ⟨b, off, h1, h2, by simpa using h3, fun j x hx => ?_⟩
    rw [← h4 j x hx]
    unfold World.cell?
    simp only [hb]
theorem own_fr {w : World} {base : Nat} {e : TypeId} {v : Value} {xs : List Int} (h : w.ownsRow base e 1 v xs.length (xs.map (Value.int .i64))) :
    ∃ A c, v = .slice A xs.length c ∧ Fr base w A xs := by
  obtain ⟨A, c, rfl, hs, _⟩ := At.own_slice h
  refine ⟨A, c, rfl, ?_⟩
  rcases h.2 with ⟨_, h0⟩ | ⟨g, cap, cur, hv, hg, _⟩
  · exact .inl (List.length_eq_zero_iff.1 h0)
  · simp only [Value.slice.injEq] at hv
    rcases hs with h | ⟨b, off, h1, h2, h3⟩
    · exact .inl h
    · have hb : b = g := by
        have := h1.symm.trans hv.1
        simp at this
        exact this.1
      exact .inr ⟨b, off, h1, by omega, h2, h3⟩

/-- Thirteen cells in a box. -/
def R13 (w : World) (B : Nat) (d0 d1 d2 d3 d4 d5 d6 d7 d8 d9 d10 d11 d12 : Value) : Prop := w.heap[B]? = some (.cells #[d0, d1, d2, d3, d4, d5, d6, d7, d8, d9, d10, d11, d12] 42 (0, 0))
theorem R13.set0 {w : World} {B : Nat} {d0 d1 d2 d3 d4 d5 d6 d7 d8 d9 d10 d11 d12 : Value} (h : R13 w B d0 d1 d2 d3 d4 d5 d6 d7 d8 d9 d10 d11 d12) (v : Value) : R13 (w.setCell ⟨B, 0, none⟩ v) B v d1 d2 d3 d4 d5 d6 d7 d8 d9 d10 d11 d12 := heap_setCell_same w B 0 _ 42 v h
theorem R13.set1 {w : World} {B : Nat} {d0 d1 d2 d3 d4 d5 d6 d7 d8 d9 d10 d11 d12 : Value} (h : R13 w B d0 d1 d2 d3 d4 d5 d6 d7 d8 d9 d10 d11 d12) (v : Value) : R13 (w.setCell ⟨B, 1, none⟩ v) B d0 v d2 d3 d4 d5 d6 d7 d8 d9 d10 d11 d12 := heap_setCell_same w B 1 _ 42 v h
theorem R13.set2 {w : World} {B : Nat} {d0 d1 d2 d3 d4 d5 d6 d7 d8 d9 d10 d11 d12 : Value} (h : R13 w B d0 d1 d2 d3 d4 d5 d6 d7 d8 d9 d10 d11 d12) (v : Value) : R13 (w.setCell ⟨B, 2, none⟩ v) B d0 d1 v d3 d4 d5 d6 d7 d8 d9 d10 d11 d12 := heap_setCell_same w B 2 _ 42 v h
theorem R13.set3 {w : World} {B : Nat} {d0 d1 d2 d3 d4 d5 d6 d7 d8 d9 d10 d11 d12 : Value} (h : R13 w B d0 d1 d2 d3 d4 d5 d6 d7 d8 d9 d10 d11 d12) (v : Value) : R13 (w.setCell ⟨B, 3, none⟩ v) B d0 d1 d2 v d4 d5 d6 d7 d8 d9 d10 d11 d12 := heap_setCell_same w B 3 _ 42 v h
theorem R13.set4 {w : World} {B : Nat} {d0 d1 d2 d3 d4 d5 d6 d7 d8 d9 d10 d11 d12 : Value} (h : R13 w B d0 d1 d2 d3 d4 d5 d6 d7 d8 d9 d10 d11 d12) (v : Value) : R13 (w.setCell ⟨B, 4, none⟩ v) B d0 d1 d2 d3 v d5 d6 d7 d8 d9 d10 d11 d12 := heap_setCell_same w B 4 _ 42 v h
theorem R13.set5 {w : World} {B : Nat} {d0 d1 d2 d3 d4 d5 d6 d7 d8 d9 d10 d11 d12 : Value} (h : R13 w B d0 d1 d2 d3 d4 d5 d6 d7 d8 d9 d10 d11 d12) (v : Value) : R13 (w.setCell ⟨B, 5, none⟩ v) B d0 d1 d2 d3 d4 v d6 d7 d8 d9 d10 d11 d12 := heap_setCell_same w B 5 _ 42 v h
theorem R13.set6 {w : World} {B : Nat} {d0 d1 d2 d3 d4 d5 d6 d7 d8 d9 d10 d11 d12 : Value} (h : R13 w B d0 d1 d2 d3 d4 d5 d6 d7 d8 d9 d10 d11 d12) (v : Value) : R13 (w.setCell ⟨B, 6, none⟩ v) B d0 d1 d2 d3 d4 d5 v d7 d8 d9 d10 d11 d12 := heap_setCell_same w B 6 _ 42 v h
theorem R13.set7 {w : World} {B : Nat} {d0 d1 d2 d3 d4 d5 d6 d7 d8 d9 d10 d11 d12 : Value} (h : R13 w B d0 d1 d2 d3 d4 d5 d6 d7 d8 d9 d10 d11 d12) (v : Value) : R13 (w.setCell ⟨B, 7, none⟩ v) B d0 d1 d2 d3 d4 d5 d6 v d8 d9 d10 d11 d12 := heap_setCell_same w B 7 _ 42 v h
theorem R13.set8 {w : World} {B : Nat} {d0 d1 d2 d3 d4 d5 d6 d7 d8 d9 d10 d11 d12 : Value} (h : R13 w B d0 d1 d2 d3 d4 d5 d6 d7 d8 d9 d10 d11 d12) (v : Value) : R13 (w.setCell ⟨B, 8, none⟩ v) B d0 d1 d2 d3 d4 d5 d6 d7 v d9 d10 d11 d12 := heap_setCell_same w B 8 _ 42 v h
theorem R13.set9 {w : World} {B : Nat} {d0 d1 d2 d3 d4 d5 d6 d7 d8 d9 d10 d11 d12 : Value} (h : R13 w B d0 d1 d2 d3 d4 d5 d6 d7 d8 d9 d10 d11 d12) (v : Value) : R13 (w.setCell ⟨B, 9, none⟩ v) B d0 d1 d2 d3 d4 d5 d6 d7 d8 v d10 d11 d12 := heap_setCell_same w B 9 _ 42 v h
theorem R13.set10 {w : World} {B : Nat} {d0 d1 d2 d3 d4 d5 d6 d7 d8 d9 d10 d11 d12 : Value} (h : R13 w B d0 d1 d2 d3 d4 d5 d6 d7 d8 d9 d10 d11 d12) (v : Value) : R13 (w.setCell ⟨B, 10, none⟩ v) B d0 d1 d2 d3 d4 d5 d6 d7 d8 d9 v d11 d12 := heap_setCell_same w B 10 _ 42 v h
theorem R13.set11 {w : World} {B : Nat} {d0 d1 d2 d3 d4 d5 d6 d7 d8 d9 d10 d11 d12 : Value} (h : R13 w B d0 d1 d2 d3 d4 d5 d6 d7 d8 d9 d10 d11 d12) (v : Value) : R13 (w.setCell ⟨B, 11, none⟩ v) B d0 d1 d2 d3 d4 d5 d6 d7 d8 d9 d10 v d12 := heap_setCell_same w B 11 _ 42 v h
theorem R13.set12 {w : World} {B : Nat} {d0 d1 d2 d3 d4 d5 d6 d7 d8 d9 d10 d11 d12 : Value} (h : R13 w B d0 d1 d2 d3 d4 d5 d6 d7 d8 d9 d10 d11 d12) (v : Value) : R13 (w.setCell ⟨B, 12, none⟩ v) B d0 d1 d2 d3 d4 d5 d6 d7 d8 d9 d10 d11 v := heap_setCell_same w B 12 _ 42 v h
/-- A whole record stored into a box. -/
abbrev put (w : World) (B : Nat) (r : Rd) (A : Option Addr) (c : Nat) : World := (((((((((((((w.setCell ⟨B, 0, none⟩ (.int .i64 r.st)).setCell ⟨B, 1, none⟩ (.int .i64 r.pn)).setCell ⟨B, 2, none⟩ (.int .i64 r.pb)).setCell ⟨B, 3, none⟩ (.int .i64 r.vn)).setCell ⟨B, 4, none⟩ (.int .i64 r.vb)).setCell ⟨B, 5, none⟩ (.int .i64 r.u)).setCell ⟨B, 6, none⟩ (.int .i64 r.s)).setCell ⟨B, 7, none⟩ (.int .i64 r.k)).setCell ⟨B, 8, none⟩ (.int .i64 r.h)).setCell ⟨B, 9, none⟩ (.int .i64 r.n)).setCell ⟨B, 10, none⟩ (.string r.t)).setCell ⟨B, 11, none⟩ (.int .i64 r.q)).setCell ⟨B, 12, none⟩ (.slice A r.xs.length c))
theorem Rx.put {w : World} {B : Nat} {r : Rd} {A : Option Addr} {c : Nat} (h : Rx w B r A c) (r' : Rd) (A' : Option Addr) (c' : Nat) : Rx (In.put w B r' A' c') B r' A' c' := by
  have h0 : R13 w B (.int .i64 r.st) (.int .i64 r.pn) (.int .i64 r.pb) (.int .i64 r.vn) (.int .i64 r.vb) (.int .i64 r.u) (.int .i64 r.s) (.int .i64 r.k) (.int .i64 r.h) (.int .i64 r.n) (.string r.t) (.int .i64 r.q) (.slice A r.xs.length c) := h
  have h1 := h0.set0 (.int .i64 r'.st)
  have h2 := h1.set1 (.int .i64 r'.pn)
  have h3 := h2.set2 (.int .i64 r'.pb)
  have h4 := h3.set3 (.int .i64 r'.vn)
  have h5 := h4.set4 (.int .i64 r'.vb)
  have h6 := h5.set5 (.int .i64 r'.u)
  have h7 := h6.set6 (.int .i64 r'.s)
  have h8 := h7.set7 (.int .i64 r'.k)
  have h9 := h8.set8 (.int .i64 r'.h)
  have h10 := h9.set9 (.int .i64 r'.n)
  have h11 := h10.set10 (.string r'.t)
  have h12 := h11.set11 (.int .i64 r'.q)
  have h13 := h12.set12 (.slice A' r'.xs.length c')
  exact h13
theorem below_put {D : Nat} {a w : World} (h : Below D a w) {B : Nat} (hB : D ≤ B) (r : Rd) (A : Option Addr) (c : Nat) : Below D a (In.put w B r A c) := by
  have h1 := h.setCell (p := ⟨B, 0, none⟩) hB (.int .i64 r.st)
  have h2 := h1.setCell (p := ⟨B, 1, none⟩) hB (.int .i64 r.pn)
  have h3 := h2.setCell (p := ⟨B, 2, none⟩) hB (.int .i64 r.pb)
  have h4 := h3.setCell (p := ⟨B, 3, none⟩) hB (.int .i64 r.vn)
  have h5 := h4.setCell (p := ⟨B, 4, none⟩) hB (.int .i64 r.vb)
  have h6 := h5.setCell (p := ⟨B, 5, none⟩) hB (.int .i64 r.u)
  have h7 := h6.setCell (p := ⟨B, 6, none⟩) hB (.int .i64 r.s)
  have h8 := h7.setCell (p := ⟨B, 7, none⟩) hB (.int .i64 r.k)
  have h9 := h8.setCell (p := ⟨B, 8, none⟩) hB (.int .i64 r.h)
  have h10 := h9.setCell (p := ⟨B, 9, none⟩) hB (.int .i64 r.n)
  have h11 := h10.setCell (p := ⟨B, 10, none⟩) hB (.string r.t)
  have h12 := h11.setCell (p := ⟨B, 11, none⟩) hB (.int .i64 r.q)
  have h13 := h12.setCell (p := ⟨B, 12, none⟩) hB (.slice A r.xs.length c)
  exact h13
theorem Rx.past {w : World} {B B' : Nat} {r : Rd} {A : Option Addr} {c : Nat} (h : Rx w B' r A c) (hne : B' ≠ B) (r' : Rd) (A' : Option Addr) (c' : Nat) : Rx (In.put w B r' A' c') B' r A c := by
  have h1 := h.other (p := ⟨B, 0, none⟩) hne (.int .i64 r'.st)
  have h2 := h1.other (p := ⟨B, 1, none⟩) hne (.int .i64 r'.pn)
  have h3 := h2.other (p := ⟨B, 2, none⟩) hne (.int .i64 r'.pb)
  have h4 := h3.other (p := ⟨B, 3, none⟩) hne (.int .i64 r'.vn)
  have h5 := h4.other (p := ⟨B, 4, none⟩) hne (.int .i64 r'.vb)
  have h6 := h5.other (p := ⟨B, 5, none⟩) hne (.int .i64 r'.u)
  have h7 := h6.other (p := ⟨B, 6, none⟩) hne (.int .i64 r'.s)
  have h8 := h7.other (p := ⟨B, 7, none⟩) hne (.int .i64 r'.k)
  have h9 := h8.other (p := ⟨B, 8, none⟩) hne (.int .i64 r'.h)
  have h10 := h9.other (p := ⟨B, 9, none⟩) hne (.int .i64 r'.n)
  have h11 := h10.other (p := ⟨B, 10, none⟩) hne (.string r'.t)
  have h12 := h11.other (p := ⟨B, 11, none⟩) hne (.int .i64 r'.q)
  have h13 := h12.other (p := ⟨B, 12, none⟩) hne (.slice A' r'.xs.length c')
  exact h13
theorem Fr.put {D : Nat} {w : World} {A : Option Addr} {xs : List Int} (h : Fr D w A xs) {B : Nat} (hB : B < D) (r' : Rd) (A' : Option Addr) (c' : Nat) : Fr D (In.put w B r' A' c') A xs := by
  have h1 := h.set (p := ⟨B, 0, none⟩) hB (.int .i64 r'.st)
  have h2 := h1.set (p := ⟨B, 1, none⟩) hB (.int .i64 r'.pn)
  have h3 := h2.set (p := ⟨B, 2, none⟩) hB (.int .i64 r'.pb)
  have h4 := h3.set (p := ⟨B, 3, none⟩) hB (.int .i64 r'.vn)
  have h5 := h4.set (p := ⟨B, 4, none⟩) hB (.int .i64 r'.vb)
  have h6 := h5.set (p := ⟨B, 5, none⟩) hB (.int .i64 r'.u)
  have h7 := h6.set (p := ⟨B, 6, none⟩) hB (.int .i64 r'.s)
  have h8 := h7.set (p := ⟨B, 7, none⟩) hB (.int .i64 r'.k)
  have h9 := h8.set (p := ⟨B, 8, none⟩) hB (.int .i64 r'.h)
  have h10 := h9.set (p := ⟨B, 9, none⟩) hB (.int .i64 r'.n)
  have h11 := h10.set (p := ⟨B, 10, none⟩) hB (.string r'.t)
  have h12 := h11.set (p := ⟨B, 11, none⟩) hB (.int .i64 r'.q)
  have h13 := h12.set (p := ⟨B, 12, none⟩) hB (.slice A' r'.xs.length c')
  exact h13
theorem Rb.load {w : World} {B : Nat} {r : Rd} {A : Option Addr} {c : Nat} (h : Rb w B r A c) : (Instr.loadAt 42 (.pointer (some ⟨B, 0, none⟩))).run Try.prog w = .ok (rv r A c) w := by
  obtain ⟨c0, c1, c2, c3, c4, c5, c6, c7, c8, c9, c10, c11, c12⟩ := h
  simp [go_sem, c0, c1, c2, c3, c4, c5, c6, c7, c8, c9, c10, c11, c12]
theorem Rx.deps {w : World} {B : Nat} {r : Rd} {A : Option Addr} {c : Nat} (h : Rx w B r A c) (A' : Option Addr) (c' : Nat) : Rx (w.setCell ⟨B, 12, none⟩ (.slice A' r.xs.length c')) B r A' c' := heap_setCell_same w B 12 _ 42 _ h

/-- A command in a box, cell by cell. -/
def Cb (w : World) (B : Nat) (u s k h n : Int) (t : ByteArray) : Prop :=
  w.cell? ⟨B, 0, none⟩ = some (.int .i64 u) ∧ w.cell? ⟨B, 1, none⟩ = some (.int .i64 s) ∧ w.cell? ⟨B, 2, none⟩ = some (.int .i64 k) ∧ w.cell? ⟨B, 3, none⟩ = some (.int .i64 h) ∧ w.cell? ⟨B, 4, none⟩ = some (.int .i64 n) ∧ w.cell? ⟨B, 5, none⟩ = some (.string t)
theorem cb_new (w : World) (u s k h n : Int) (t : ByteArray) : Cb (w.alloc (.cells #[.int .i64 u, .int .i64 s, .int .i64 k, .int .i64 h, .int .i64 n, .string t] 27)) w.heap.size u s k h n t := by
  refine ⟨?_, ?_, ?_, ?_, ?_, ?_⟩ <;> simp [go_sem]
theorem Cb.on {w w' : World} {B D : Nat} {u s k h n : Int} {t : ByteArray} (hc : Cb w B u s k h n t) (hb : Below D w w') (hB : B < D) : Cb w' B u s k h n t := by
  obtain ⟨c0, c1, c2, c3, c4, c5⟩ := hc
  exact ⟨(hb.cell (p := ⟨B, 0, none⟩) hB).trans c0, (hb.cell (p := ⟨B, 1, none⟩) hB).trans c1, (hb.cell (p := ⟨B, 2, none⟩) hB).trans c2, (hb.cell (p := ⟨B, 3, none⟩) hB).trans c3, (hb.cell (p := ⟨B, 4, none⟩) hB).trans c4, (hb.cell (p := ⟨B, 5, none⟩) hB).trans c5⟩
theorem Cb.lt {w : World} {B : Nat} {u s k h n : Int} {t : ByteArray} (hc : Cb w B u s k h n t) : B < w.heap.size := World.block_lt_of_cell? w _ hc.1
theorem Cb.old {w : World} {B : Nat} {u s k h n : Int} {t : ByteArray} (hc : Cb w B u s k h n t) (o : Obj) : Cb (w.alloc o) B u s k h n t := hc.on ((Below.refl _ _).alloc (Nat.le_refl _) o) hc.lt
/-- An attribute in a box, cell by cell. -/
def Ab (w : World) (B : Nat) (q : Int) (A : Option Addr) (n c : Nat) : Prop := w.cell? ⟨B, 0, none⟩ = some (.int .i64 q) ∧ w.cell? ⟨B, 1, none⟩ = some (.slice A n c)
theorem ab_new (w : World) (q : Int) (A : Option Addr) (n c : Nat) : Ab (w.alloc (.cells #[.int .i64 q, .slice A n c] 30)) w.heap.size q A n c := ⟨by simp, by simp⟩
theorem Ab.on {w w' : World} {B D : Nat} {q : Int} {A : Option Addr} {n c : Nat} (h : Ab w B q A n c) (hb : Below D w w') (hlt : B < D) : Ab w' B q A n c := ⟨(hb.cell (p := ⟨B, 0, none⟩) hlt).trans h.1, (hb.cell (p := ⟨B, 1, none⟩) hlt).trans h.2⟩
theorem Ab.lt {w : World} {B : Nat} {q : Int} {A : Option Addr} {n c : Nat} (h : Ab w B q A n c) : B < w.heap.size := World.block_lt_of_cell? w _ h.1
theorem Ab.old {w : World} {B : Nat} {q : Int} {A : Option Addr} {n c : Nat} (h : Ab w B q A n c) (o : Obj) : Ab (w.alloc o) B q A n c := h.on ((Below.refl _ _).alloc (Nat.le_refl _) o) h.lt

/-- What is done: a step. -/
structure Sd where
  g : Int
  x : Int
  y : Int
  u : Int
  s : Int
  k : Int
  h : Int
  n : Int
  t : ByteArray
  q : Int
  xs : List Int
abbrev sv (p : Sd) (A : Option Addr) (c : Nat) : Value := .agg #[.int .i64 p.g, .int .i64 p.x, .int .i64 p.y, .int .i64 p.u, .int .i64 p.s, .int .i64 p.k, .int .i64 p.h, .int .i64 p.n, .string p.t, .int .i64 p.q, .slice A p.xs.length c]
abbrev scs (p : Sd) (A : Option Addr) (c : Nat) : Array Value := #[.int .i64 p.g, .int .i64 p.x, .int .i64 p.y, .int .i64 p.u, .int .i64 p.s, .int .i64 p.k, .int .i64 p.h, .int .i64 p.n, .string p.t, .int .i64 p.q, .slice A p.xs.length c]
def Sb (w : World) (B : Nat) (p : Sd) (A : Option Addr) (c : Nat) : Prop :=
  w.cell? ⟨B, 0, none⟩ = some (.int .i64 p.g) ∧ w.cell? ⟨B, 1, none⟩ = some (.int .i64 p.x) ∧ w.cell? ⟨B, 2, none⟩ = some (.int .i64 p.y) ∧
  w.cell? ⟨B, 3, none⟩ = some (.int .i64 p.u) ∧ w.cell? ⟨B, 4, none⟩ = some (.int .i64 p.s) ∧ w.cell? ⟨B, 5, none⟩ = some (.int .i64 p.k) ∧ w.cell? ⟨B, 6, none⟩ = some (.int .i64 p.h) ∧ w.cell? ⟨B, 7, none⟩ = some (.int .i64 p.n) ∧ w.cell? ⟨B, 8, none⟩ = some (.string p.t) ∧
  w.cell? ⟨B, 9, none⟩ = some (.int .i64 p.q) ∧ w.cell? ⟨B, 10, none⟩ = some (.slice A p.xs.length c)
theorem Sb.on {w w' : World} {B D : Nat} {p : Sd} {A : Option Addr} {c : Nat} (h : Sb w B p A c) (hb : Below D w w') (hB : B < D) : Sb w' B p A c := by
  obtain ⟨c0, c1, c2, c3, c4, c5, c6, c7, c8, c9, c10⟩ := h
  exact ⟨(hb.cell (p := ⟨B, 0, none⟩) hB).trans c0, (hb.cell (p := ⟨B, 1, none⟩) hB).trans c1, (hb.cell (p := ⟨B, 2, none⟩) hB).trans c2, (hb.cell (p := ⟨B, 3, none⟩) hB).trans c3, (hb.cell (p := ⟨B, 4, none⟩) hB).trans c4, (hb.cell (p := ⟨B, 5, none⟩) hB).trans c5, (hb.cell (p := ⟨B, 6, none⟩) hB).trans c6, (hb.cell (p := ⟨B, 7, none⟩) hB).trans c7, (hb.cell (p := ⟨B, 8, none⟩) hB).trans c8, (hb.cell (p := ⟨B, 9, none⟩) hB).trans c9, (hb.cell (p := ⟨B, 10, none⟩) hB).trans c10⟩
theorem Sb.lt {w : World} {B : Nat} {p : Sd} {A : Option Addr} {c : Nat} (h : Sb w B p A c) : B < w.heap.size := World.block_lt_of_cell? w _ h.1
theorem Sb.old {w : World} {B : Nat} {p : Sd} {A : Option Addr} {c : Nat} (h : Sb w B p A c) (o : Obj) : Sb (w.alloc o) B p A c := h.on ((Below.refl _ _).alloc (Nat.le_refl _) o) h.lt
theorem zero_box (w : World) : Rx (w.alloc (.cells #[.int .i64 0, .int .i64 0, .int .i64 0, .int .i64 0, .int .i64 0, .int .i64 0, .int .i64 0, .int .i64 0, .int .i64 0, .int .i64 0, .string ⟨#[]⟩, .int .i64 0, .slice none 0 0] 42)) w.heap.size ⟨0, 0, 0, 0, 0, 0, 0, 0, 0, 0, ⟨#[]⟩, 0, []⟩ none 0 := heap_alloc_new w _

/-- What a call gave: a record with deps of its own; the same and a bool. -/
def RecPost (w : World) (r : Rd) (e : Ending) (w' : World) : Prop := ∃ A c, e = .returned (rv r A c) ∧ Fr w.heap.size w' A r.xs ∧ Below w.heap.size w w'
def VotePost (w : World) (r : Rd) (b : Bool) (e : Ending) (w' : World) : Prop := ∃ A c, e = .returned (.tuple #[rv r A c, .bool b]) ∧ Fr w.heap.size w' A r.xs ∧ Below w.heap.size w w'
def BoolPost (w : World) (b : Bool) (e : Ending) (w' : World) : Prop := e = .returned (.bool b) ∧ Below w.heap.size w w'
def UpPost (w : World) (e : Ending) (w' : World) : Prop := e = .returned (.bool true) ∧ Below w.heap.size w w'

theorem bytes_same {a b : ByteArray} (h : a.toList = b.toList) : a = b := by
  rw [ByteArray.toList_eq, ByteArray.toList_eq] at h
  obtain ⟨⟨x⟩⟩ := a
  obtain ⟨⟨y⟩⟩ := b
  simp only at h
  rw [h]
/-- '==' between commands. -/
theorem eqc (w : World) (u s k h n u' s' k' h' n' : Int) (t t' : ByteArray) : (binOp .eql 27 (cv u s k h n t) (cv u' s' k' h' n' t')).run Try.prog w =
    .ok (.bool ((u == u') && (s == s') && (k == k') && (h == h') && (n == n') && decide (t = t'))) w := by
  rw [run_eql_struct, show (10000 : Nat) = 9999 + 1 from rfl, run_equalIn_struct w 9999 27 _ _ (by kernel_rfl) (by kernel_rfl)]
  simp [Op.eqFields, go_sem]
  by_cases h1 : u = u' <;> by_cases h2 : s = s' <;> by_cases h3 : k = k' <;> by_cases h4 : h = h' <;> by_cases h5 : n = n' <;> simp [h1, h2, h3, h4, h5]
  by_cases h6 : t = t'
  · simp [h6]
  · have : ¬ t.toList = t'.toList := fun e => h6 (bytes_same e)
    simp [h6, this]
theorem guardc (w : World) (a b : Operand) (xs ys : Array Value) : (eqGuard .eql 27 a b (.agg xs) (.agg ys)).run Try.prog w = .ok () w := run_eqGuard_agg w .eql 27 a b xs ys (by kernel_rfl)

theorem ints_one (k : IntKind) (xs : List Int) : ∀ u ∈ xs.map (Value.int k), u.oneCell' = true := by
  intro u hu
  obtain ⟨n, _, rfl⟩ := List.mem_map.1 hu
  rfl
theorem info3 : (Try.prog.info? 3).map (fun i => (i.zero, i.size, i.bytes)) = some (some (.int .i64 0), 1, 8) := by kernel_rfl

/-- 'append(row of the call's own, any slice...)'. -/
theorem wpList_app {P : Program} {w : World} {ops : Array Oper} {rest : List Oper} {o : Oper} {a : Act} {Q : Exit → Act → World → Prop} (hgd : o.guard = none) (s x : Operand) (t : TypeId)
    (ho : o.op = .call { callee := .builtin .append, args := #[s, x], argTypes := #[t, t] })
    (base : Nat) (e : TypeId) (i : TypeInfo) (z : Value) (bytes : Nat) (ht : P.underlying t = some (.slice e)) (hi : P.info? e = some i) (hz : i.zero = some z)
    (hsize : i.size = 1) (hby : i.bytes = bytes) (hzs : z.cells.size = 1) (v : Value) (n : Nat) (xs : List Value) (hv : a.eval s = v) (hown : w.ownsRow base e 1 v n xs)
    (B : Nat) (ad : Addr) (c : Nat) (news : List Int) (hx : a.eval x = .slice (some ad) news.length c) (hs : At.Sl w B .i64 (some ad) news) (h63 : n + news.length ≤ maxLen) (hbytes : (n + news.length) * bytes ≤ 140737488355328) (hbase : base ≤ w.heap.size)
    (h : ∀ v' w', w'.ownsRow base e 1 v' (n + news.length) (xs ++ news.map (Value.int .i64)) → w.grownBy w' v.ownBlock → wpList P ops Q rest (a.put o.dst v') w') : wpList P ops Q (o :: rest) a w := by
  obtain ⟨v', w', hr, h2, h3, _⟩ := run_append_own (P := P) w base t o.type e i z 1 bytes ht hi hz hsize hby hzs (by decide) v n xs hown ad news.length c (news.map (Value.int .i64)) (by simp)
      (fun j u hu => by
        rcases hs with rfl | ⟨b, off, h, _, hc⟩
        · simp at hu
        · cases h
          rw [List.getElem?_map] at hu
          obtain ⟨x, hx, rfl⟩ := Option.map_eq_some_iff.1 hu
          rw [Addr.add_lit]
          exact hc j x hx) (ints_one .i64 news) h63 hbytes hbase
  refine wpList_plain hgd fun K hK => ?_
  unfold Oper.wp execOp
  simp only [ho, resolve, invoke, builtin, Sem.run_bind, Sem.run_pure, Result.andThen_ok, List.map_toArray, List.map_cons, List.map_nil, hv, hx, hr]
  exact hK _ _ (h v' w' h2 h3)

end Go.Proofs.Ytgmfjoegfbaebaa.In
