/-
  Words for memory that the walks of package regain use: a slice of reports that reads as a list, what was heard in a box, a choice in a box, and what a call gave. No program's function is walked here. No conditions.
-/
import Derived.Test.YtgmfjoegfbaebaaRgPlain
import Derived.Test.YtgmfjoegfbaebaaInOwn
import Derived.Test.YtgmfjoegfbaebaaAtRwi
namespace Go.Proofs.Ytgmfjoegfbaebaa.Rg
open Go.RowKit In
set_option linter.unusedVariables false

abbrev rp (x : Rp) : Value := .agg #[.int .i64 x.f, .int .i64 x.r.st, .int .i64 x.r.pn, .int .i64 x.r.pb, .int .i64 x.r.vn, .int .i64 x.r.vb, .int .i64 x.r.u, .int .i64 x.r.s, .int .i64 x.r.k, .int .i64 x.r.h, .int .i64 x.r.n, .string x.r.t, .int .i64 x.r.q, .slice x.A x.r.xs.length x.c]
abbrev rpc (x : Rp) : List Value := [.int .i64 x.f, .int .i64 x.r.st, .int .i64 x.r.pn, .int .i64 x.r.pb, .int .i64 x.r.vn, .int .i64 x.r.vb, .int .i64 x.r.u, .int .i64 x.r.s, .int .i64 x.r.k, .int .i64 x.r.h, .int .i64 x.r.n, .string x.r.t, .int .i64 x.r.q, .slice x.A x.r.xs.length x.c]
abbrev rr (x : Rp) : Value := rv x.r x.A x.c
/-- A report's cells, from an offset on. -/
def Rq (w : World) (b o : Nat) (x : Rp) : Prop :=
  w.cell? ⟨b, o, none⟩ = some (.int .i64 x.f) ∧ w.cell? ⟨b, o + 1, none⟩ = some (.int .i64 x.r.st) ∧ w.cell? ⟨b, o + 2, none⟩ = some (.int .i64 x.r.pn) ∧ w.cell? ⟨b, o + 3, none⟩ = some (.int .i64 x.r.pb) ∧ w.cell? ⟨b, o + 4, none⟩ = some (.int .i64 x.r.vn) ∧ w.cell? ⟨b, o + 5, none⟩ = some (.int .i64 x.r.vb) ∧ w.cell? ⟨b, o + 6, none⟩ = some (.int .i64 x.r.u) ∧ w.cell? ⟨b, o + 7, none⟩ = some (.int .i64 x.r.s) ∧ w.cell? ⟨b, o + 8, none⟩ = some (.int .i64 x.r.k) ∧ w.cell? ⟨b, o + 9, none⟩ = some (.int .i64 x.r.h) ∧ w.cell? ⟨b, o + 10, none⟩ = some (.int .i64 x.r.n) ∧ w.cell? ⟨b, o + 11, none⟩ = some (.string x.r.t) ∧ w.cell? ⟨b, o + 12, none⟩ = some (.int .i64 x.r.q) ∧ w.cell? ⟨b, o + 13, none⟩ = some (.slice x.A x.r.xs.length x.c)
theorem Rq.on {w w' : World} {B b o : Nat} {x : Rp} (h : Rq w b o x) (hb : Below B w w') (hB : b < B) : Rq w' b o x := by
  obtain ⟨c0, c1, c2, c3, c4, c5, c6, c7, c8, c9, c10, c11, c12, c13⟩ := h
  exact ⟨(hb.cell (p := ⟨b, o, none⟩) hB).trans c0, (hb.cell (p := ⟨b, o + 1, none⟩) hB).trans c1, (hb.cell (p := ⟨b, o + 2, none⟩) hB).trans c2, (hb.cell (p := ⟨b, o + 3, none⟩) hB).trans c3, (hb.cell (p := ⟨b, o + 4, none⟩) hB).trans c4, (hb.cell (p := ⟨b, o + 5, none⟩) hB).trans c5, (hb.cell (p := ⟨b, o + 6, none⟩) hB).trans c6, (hb.cell (p := ⟨b, o + 7, none⟩) hB).trans c7, (hb.cell (p := ⟨b, o + 8, none⟩) hB).trans c8, (hb.cell (p := ⟨b, o + 9, none⟩) hB).trans c9, (hb.cell (p := ⟨b, o + 10, none⟩) hB).trans c10, (hb.cell (p := ⟨b, o + 11, none⟩) hB).trans c11, (hb.cell (p := ⟨b, o + 12, none⟩) hB).trans c12, (hb.cell (p := ⟨b, o + 13, none⟩) hB).trans c13⟩
/-- A slice that reads as reports. -/
def Ls (w : World) (B : Nat) (A : Option Addr) (l : List Rp) : Prop :=
  l = [] ∨ ∃ b off, A = some ⟨b, off, none⟩ ∧ b < B ∧ ∀ j x, l[j]? = some x → Rq w b (off + j * 14) x ∧ At.Sl w B .i64 x.A x.r.xs
theorem Ls.to {w w' : World} {B : Nat} {A : Option Addr} {l : List Rp} (h : Ls w B A l) (hb : Below B w w') (hB : B ≤ w'.heap.size) : Ls w' w'.heap.size A l := by
  rcases h with rfl | ⟨b, off, h1, h2, h3⟩
  · exact .inl rfl
  · exact .inr ⟨b, off, h1, by omega, fun j x hx => ⟨(h3 j x hx).1.on hb h2, (h3 j x hx).2.to hb hB⟩⟩
theorem Ls.below {w w' : World} {B : Nat} {A : Option Addr} {l : List Rp} (h : Ls w B A l) (hb : Below B w w') : Ls w' B A l := by
  rcases h with rfl | ⟨b, off, h1, h2, h3⟩
  · exact .inl rfl
  · exact .inr ⟨b, off, h1, by omega, fun j x hx => ⟨(h3 j x hx).1.on hb h2, (h3 j x hx).2.below hb⟩⟩
theorem Ls.mono {w : World} {B B' : Nat} {A : Option Addr} {l : List Rp} (h : Ls w B A l) (hB : B ≤ B') : Ls w B' A l := by
  rcases h with rfl | ⟨b, off, h1, h2, h3⟩
  · exact .inl rfl
  · exact .inr ⟨b, off, h1, by omega, fun j x hx => ⟨(h3 j x hx).1, (h3 j x hx).2.mono hB⟩⟩
theorem Ls.at_ {w : World} {B : Nat} {A : Option Addr} {l : List Rp} (h : Ls w B A l) {j : Nat} (hj : j < l.length) : ∃ b off, A = some ⟨b, off, none⟩ ∧ b < B ∧ Rq w b (off + j * 14) l[j] ∧ At.Sl w B .i64 l[j].A l[j].r.xs := by
  rcases h with rfl | ⟨b, off, h1, h2, h3⟩
  · simp at hj
  · exact ⟨b, off, h1, h2, (h3 j l[j] (List.getElem?_eq_getElem hj)).1, (h3 j l[j] (List.getElem?_eq_getElem hj)).2⟩
theorem Ls.of {w : World} {B : Nat} {A : Option Addr} {l : List Rp} (h : Ls w B A l) {x : Rp} (hx : x ∈ l) : At.Sl w B .i64 x.A x.r.xs := by
  obtain ⟨j, hj, rfl⟩ := List.mem_iff_getElem.1 hx
  obtain ⟨_, _, _, _, _, hs⟩ := h.at_ hj
  exact hs
/-- How many there are, and how many deps each has. -/
def Few (l : List Rp) : Prop := l.length ≤ 200 ∧ ∀ x ∈ l, x.r.xs.length ≤ 1000
theorem Few.at_ {l : List Rp} (h : Few l) {j : Nat} (hj : j < l.length) : l[j].r.xs.length ≤ 1000 := h.2 _ (List.getElem_mem hj)

/-- What was heard, as a value and in a box. -/
abbrev hv (n : Nat) (o : Int) (A : Option Addr) (m c : Nat) : Value := .agg #[.int .i64 (n : Int), .int .i64 o, .slice A m c]
def Hx (w : World) (B : Nat) (n : Nat) (o : Int) (A : Option Addr) (m c : Nat) : Prop := w.heap[B]? = some (.cells #[.int .i64 (n : Int), .int .i64 o, .slice A m c] 48 (0, 0))
theorem hx_new (w : World) (n : Nat) (o : Int) (A : Option Addr) (m c : Nat) : Hx (w.alloc (.cells #[.int .i64 (n : Int), .int .i64 o, .slice A m c] 48)) w.heap.size n o A m c := heap_alloc_new w _
theorem Hx.cells {w : World} {B n : Nat} {o : Int} {A : Option Addr} {m c : Nat} (h : Hx w B n o A m c) : w.cell? ⟨B, 0, none⟩ = some (.int .i64 (n : Int)) ∧ w.cell? ⟨B, 1, none⟩ = some (.int .i64 o) ∧ w.cell? ⟨B, 2, none⟩ = some (.slice A m c) := by
  refine ⟨?_, ?_, ?_⟩ <;> (rw [cell_of_row w B _ _ 48 _ h]; rfl)
theorem Hx.lt {w : World} {B n : Nat} {o : Int} {A : Option Addr} {m c : Nat} (h : Hx w B n o A m c) : B < w.heap.size := lt_of_block h
theorem Hx.on {w w' : World} {B D n : Nat} {o : Int} {A : Option Addr} {m c : Nat} (h : Hx w B n o A m c) (hb : Below D w w') (hB : B < D) : Hx w' B n o A m c := (hb.block B hB).trans h
theorem Hx.old {w : World} {B n : Nat} {o : Int} {A : Option Addr} {m c : Nat} (h : Hx w B n o A m c) (x : Obj) : Hx (w.alloc x) B n o A m c := (heap_alloc_old w x h.lt).trans h

/-- A choice, as a value and in a box. -/
abbrev chv (x : Ch) (A : Option Addr) (c : Nat) : Value := .agg #[.int .i64 x.k, .int .i64 x.u, .int .i64 x.s, .int .i64 x.d, .int .i64 x.h, .int .i64 x.n, .string x.t, .int .i64 x.q, .slice A x.xs.length c]
abbrev chc (x : Ch) (A : Option Addr) (c : Nat) : Array Value := #[.int .i64 x.k, .int .i64 x.u, .int .i64 x.s, .int .i64 x.d, .int .i64 x.h, .int .i64 x.n, .string x.t, .int .i64 x.q, .slice A x.xs.length c]
def Cx (w : World) (B : Nat) (x : Ch) (A : Option Addr) (c : Nat) : Prop := w.heap[B]? = some (.cells (chc x A c) 32 (0, 0))
def Cc (w : World) (B : Nat) (x : Ch) (A : Option Addr) (c : Nat) : Prop := w.cell? ⟨B, 0, none⟩ = some (.int .i64 x.k) ∧ w.cell? ⟨B, 1, none⟩ = some (.int .i64 x.u) ∧ w.cell? ⟨B, 2, none⟩ = some (.int .i64 x.s) ∧ w.cell? ⟨B, 3, none⟩ = some (.int .i64 x.d) ∧ w.cell? ⟨B, 4, none⟩ = some (.int .i64 x.h) ∧ w.cell? ⟨B, 5, none⟩ = some (.int .i64 x.n) ∧ w.cell? ⟨B, 6, none⟩ = some (.string x.t) ∧ w.cell? ⟨B, 7, none⟩ = some (.int .i64 x.q) ∧ w.cell? ⟨B, 8, none⟩ = some (.slice A x.xs.length c)
theorem Cx.cc {w : World} {B : Nat} {x : Ch} {A : Option Addr} {c : Nat} (h : Cx w B x A c) : Cc w B x A c := by
  refine ⟨?_, ?_, ?_, ?_, ?_, ?_, ?_, ?_, ?_⟩ <;> (rw [cell_of_row w B _ _ 32 _ h]; rfl)
theorem Cx.lt {w : World} {B : Nat} {x : Ch} {A : Option Addr} {c : Nat} (h : Cx w B x A c) : B < w.heap.size := lt_of_block h
theorem Cx.free {w : World} {B : Nat} {x : Ch} {A : Option Addr} {c : Nat} (h : Cx w B x A c) (i : Nat) : w.frozen? ⟨B, i, none⟩ = false := Lib.frozen_of_heap h i
theorem Cx.on {w w' : World} {B D : Nat} {x : Ch} {A : Option Addr} {c : Nat} (h : Cx w B x A c) (hb : Below D w w') (hB : B < D) : Cx w' B x A c := (hb.block B hB).trans h
theorem Cx.old {w : World} {B : Nat} {x : Ch} {A : Option Addr} {c : Nat} (h : Cx w B x A c) (o : Obj) : Cx (w.alloc o) B x A c := (heap_alloc_old w o h.lt).trans h
theorem Cx.other {w : World} {B : Nat} {x : Ch} {A : Option Addr} {c : Nat} (h : Cx w B x A c) {p : Addr} (hne : B ≠ p.block) (v : Value) : Cx (w.setCell p v) B x A c := (Below.heap_setCell w p v B hne).trans h
theorem cx_new (w : World) (x : Ch) (A : Option Addr) (c : Nat) : Cx (w.alloc (.cells (chc x A c) 32)) w.heap.size x A c := heap_alloc_new w _
theorem cx_zero (w : World) : Cx (w.alloc (.cells #[.int .i64 0, .int .i64 0, .int .i64 0, .int .i64 0, .int .i64 0, .int .i64 0, .string ⟨#[]⟩, .int .i64 0, .slice none 0 0] 32)) w.heap.size c0 none 0 := heap_alloc_new w _

/-- Nine cells in a box. -/
def R9 (w : World) (B : Nat) (d0 d1 d2 d3 d4 d5 d6 d7 d8 : Value) : Prop := w.heap[B]? = some (.cells #[d0, d1, d2, d3, d4, d5, d6, d7, d8] 32 (0, 0))
theorem R9.set0 {w : World} {B : Nat} {d0 d1 d2 d3 d4 d5 d6 d7 d8 : Value} (h : R9 w B d0 d1 d2 d3 d4 d5 d6 d7 d8) (v : Value) : R9 (w.setCell ⟨B, 0, none⟩ v) B v d1 d2 d3 d4 d5 d6 d7 d8 := heap_setCell_same w B 0 _ 32 v h
theorem R9.set1 {w : World} {B : Nat} {d0 d1 d2 d3 d4 d5 d6 d7 d8 : Value} (h : R9 w B d0 d1 d2 d3 d4 d5 d6 d7 d8) (v : Value) : R9 (w.setCell ⟨B, 1, none⟩ v) B d0 v d2 d3 d4 d5 d6 d7 d8 := heap_setCell_same w B 1 _ 32 v h
theorem R9.set2 {w : World} {B : Nat} {d0 d1 d2 d3 d4 d5 d6 d7 d8 : Value} (h : R9 w B d0 d1 d2 d3 d4 d5 d6 d7 d8) (v : Value) : R9 (w.setCell ⟨B, 2, none⟩ v) B d0 d1 v d3 d4 d5 d6 d7 d8 := heap_setCell_same w B 2 _ 32 v h
theorem R9.set3 {w : World} {B : Nat} {d0 d1 d2 d3 d4 d5 d6 d7 d8 : Value} (h : R9 w B d0 d1 d2 d3 d4 d5 d6 d7 d8) (v : Value) : R9 (w.setCell ⟨B, 3, none⟩ v) B d0 d1 d2 v d4 d5 d6 d7 d8 := heap_setCell_same w B 3 _ 32 v h
theorem R9.set4 {w : World} {B : Nat} {d0 d1 d2 d3 d4 d5 d6 d7 d8 : Value} (h : R9 w B d0 d1 d2 d3 d4 d5 d6 d7 d8) (v : Value) : R9 (w.setCell ⟨B, 4, none⟩ v) B d0 d1 d2 d3 v d5 d6 d7 d8 := heap_setCell_same w B 4 _ 32 v h
theorem R9.set5 {w : World} {B : Nat} {d0 d1 d2 d3 d4 d5 d6 d7 d8 : Value} (h : R9 w B d0 d1 d2 d3 d4 d5 d6 d7 d8) (v : Value) : R9 (w.setCell ⟨B, 5, none⟩ v) B d0 d1 d2 d3 d4 v d6 d7 d8 := heap_setCell_same w B 5 _ 32 v h
theorem R9.set6 {w : World} {B : Nat} {d0 d1 d2 d3 d4 d5 d6 d7 d8 : Value} (h : R9 w B d0 d1 d2 d3 d4 d5 d6 d7 d8) (v : Value) : R9 (w.setCell ⟨B, 6, none⟩ v) B d0 d1 d2 d3 d4 d5 v d7 d8 := heap_setCell_same w B 6 _ 32 v h
theorem R9.set7 {w : World} {B : Nat} {d0 d1 d2 d3 d4 d5 d6 d7 d8 : Value} (h : R9 w B d0 d1 d2 d3 d4 d5 d6 d7 d8) (v : Value) : R9 (w.setCell ⟨B, 7, none⟩ v) B d0 d1 d2 d3 d4 d5 d6 v d8 := heap_setCell_same w B 7 _ 32 v h
theorem R9.set8 {w : World} {B : Nat} {d0 d1 d2 d3 d4 d5 d6 d7 d8 : Value} (h : R9 w B d0 d1 d2 d3 d4 d5 d6 d7 d8) (v : Value) : R9 (w.setCell ⟨B, 8, none⟩ v) B d0 d1 d2 d3 d4 d5 d6 d7 v := heap_setCell_same w B 8 _ 32 v h
/-- A whole choice stored into a box. -/
abbrev cput (w : World) (B : Nat) (x : Ch) (A : Option Addr) (c : Nat) : World := (((((((((w.setCell ⟨B, 0, none⟩ (.int .i64 x.k)).setCell ⟨B, 1, none⟩ (.int .i64 x.u)).setCell ⟨B, 2, none⟩ (.int .i64 x.s)).setCell ⟨B, 3, none⟩ (.int .i64 x.d)).setCell ⟨B, 4, none⟩ (.int .i64 x.h)).setCell ⟨B, 5, none⟩ (.int .i64 x.n)).setCell ⟨B, 6, none⟩ (.string x.t)).setCell ⟨B, 7, none⟩ (.int .i64 x.q)).setCell ⟨B, 8, none⟩ (.slice A x.xs.length c))
theorem Cx.put {w : World} {B : Nat} {x : Ch} {A : Option Addr} {c : Nat} (h : Cx w B x A c) (x' : Ch) (A' : Option Addr) (c' : Nat) : Cx (cput w B x' A' c') B x' A' c' := by
  have h0 : R9 w B (.int .i64 x.k) (.int .i64 x.u) (.int .i64 x.s) (.int .i64 x.d) (.int .i64 x.h) (.int .i64 x.n) (.string x.t) (.int .i64 x.q) (.slice A x.xs.length c) := h
  have h1 := h0.set0 (.int .i64 x'.k)
  have h2 := h1.set1 (.int .i64 x'.u)
  have h3 := h2.set2 (.int .i64 x'.s)
  have h4 := h3.set3 (.int .i64 x'.d)
  have h5 := h4.set4 (.int .i64 x'.h)
  have h6 := h5.set5 (.int .i64 x'.n)
  have h7 := h6.set6 (.string x'.t)
  have h8 := h7.set7 (.int .i64 x'.q)
  have h9 := h8.set8 (.slice A' x'.xs.length c')
  exact h9
theorem below_cput {D : Nat} {a w : World} (h : Below D a w) {B : Nat} (hB : D ≤ B) (x : Ch) (A : Option Addr) (c : Nat) : Below D a (cput w B x A c) := by
  have h1 := h.setCell (p := ⟨B, 0, none⟩) hB (.int .i64 x.k)
  have h2 := h1.setCell (p := ⟨B, 1, none⟩) hB (.int .i64 x.u)
  have h3 := h2.setCell (p := ⟨B, 2, none⟩) hB (.int .i64 x.s)
  have h4 := h3.setCell (p := ⟨B, 3, none⟩) hB (.int .i64 x.d)
  have h5 := h4.setCell (p := ⟨B, 4, none⟩) hB (.int .i64 x.h)
  have h6 := h5.setCell (p := ⟨B, 5, none⟩) hB (.int .i64 x.n)
  have h7 := h6.setCell (p := ⟨B, 6, none⟩) hB (.string x.t)
  have h8 := h7.setCell (p := ⟨B, 7, none⟩) hB (.int .i64 x.q)
  have h9 := h8.setCell (p := ⟨B, 8, none⟩) hB (.slice A x.xs.length c)
  exact h9
theorem Cx.past {w : World} {B B' : Nat} {y : Ch} {A' : Option Addr} {c' : Nat} (h : Cx w B' y A' c') (hB : B' ≠ B) (x : Ch) (A : Option Addr) (c : Nat) : Cx (cput w B x A c) B' y A' c' := by
  have h1 := h.other (p := ⟨B, 0, none⟩) hB (.int .i64 x.k)
  have h2 := h1.other (p := ⟨B, 1, none⟩) hB (.int .i64 x.u)
  have h3 := h2.other (p := ⟨B, 2, none⟩) hB (.int .i64 x.s)
  have h4 := h3.other (p := ⟨B, 3, none⟩) hB (.int .i64 x.d)
  have h5 := h4.other (p := ⟨B, 4, none⟩) hB (.int .i64 x.h)
  have h6 := h5.other (p := ⟨B, 5, none⟩) hB (.int .i64 x.n)
  have h7 := h6.other (p := ⟨B, 6, none⟩) hB (.string x.t)
  have h8 := h7.other (p := ⟨B, 7, none⟩) hB (.int .i64 x.q)
  have h9 := h8.other (p := ⟨B, 8, none⟩) hB (.slice A x.xs.length c)
  exact h9
theorem _root_.Go.Proofs.Ytgmfjoegfbaebaa.In.Fr.cput {D : Nat} {w : World} {A' : Option Addr} {xs : List Int} (h : Fr D w A' xs) {B : Nat} (hB : B < D) (x : Ch) (A : Option Addr) (c : Nat) : Fr D (cput w B x A c) A' xs := by
  have h1 := h.set (p := ⟨B, 0, none⟩) hB (.int .i64 x.k)
  have h2 := h1.set (p := ⟨B, 1, none⟩) hB (.int .i64 x.u)
  have h3 := h2.set (p := ⟨B, 2, none⟩) hB (.int .i64 x.s)
  have h4 := h3.set (p := ⟨B, 3, none⟩) hB (.int .i64 x.d)
  have h5 := h4.set (p := ⟨B, 4, none⟩) hB (.int .i64 x.h)
  have h6 := h5.set (p := ⟨B, 5, none⟩) hB (.int .i64 x.n)
  have h7 := h6.set (p := ⟨B, 6, none⟩) hB (.string x.t)
  have h8 := h7.set (p := ⟨B, 7, none⟩) hB (.int .i64 x.q)
  have h9 := h8.set (p := ⟨B, 8, none⟩) hB (.slice A x.xs.length c)
  exact h9
theorem _root_.Go.Proofs.Ytgmfjoegfbaebaa.In.Rx.cpast {w : World} {B B' : Nat} {r : Rd} {A' : Option Addr} {c' : Nat} (h : Rx w B' r A' c') (hB : B' ≠ B) (x : Ch) (A : Option Addr) (c : Nat) : Rx (cput w B x A c) B' r A' c' := by
  have h1 := h.other (p := ⟨B, 0, none⟩) hB (.int .i64 x.k)
  have h2 := h1.other (p := ⟨B, 1, none⟩) hB (.int .i64 x.u)
  have h3 := h2.other (p := ⟨B, 2, none⟩) hB (.int .i64 x.s)
  have h4 := h3.other (p := ⟨B, 3, none⟩) hB (.int .i64 x.d)
  have h5 := h4.other (p := ⟨B, 4, none⟩) hB (.int .i64 x.h)
  have h6 := h5.other (p := ⟨B, 5, none⟩) hB (.int .i64 x.n)
  have h7 := h6.other (p := ⟨B, 6, none⟩) hB (.string x.t)
  have h8 := h7.other (p := ⟨B, 7, none⟩) hB (.int .i64 x.q)
  have h9 := h8.other (p := ⟨B, 8, none⟩) hB (.slice A x.xs.length c)
  exact h9
theorem heap_cput {w : World} {B B' : Nat} {o : Option Obj} (h : w.heap[B']? = o) (hB : B' ≠ B) (x : Ch) (A : Option Addr) (c : Nat) : (cput w B x A c).heap[B']? = o := by
  have h1 := (Below.heap_setCell _ ⟨B, 0, none⟩ (.int .i64 x.k) _ hB).trans h
  have h2 := (Below.heap_setCell _ ⟨B, 1, none⟩ (.int .i64 x.u) _ hB).trans h1
  have h3 := (Below.heap_setCell _ ⟨B, 2, none⟩ (.int .i64 x.s) _ hB).trans h2
  have h4 := (Below.heap_setCell _ ⟨B, 3, none⟩ (.int .i64 x.d) _ hB).trans h3
  have h5 := (Below.heap_setCell _ ⟨B, 4, none⟩ (.int .i64 x.h) _ hB).trans h4
  have h6 := (Below.heap_setCell _ ⟨B, 5, none⟩ (.int .i64 x.n) _ hB).trans h5
  have h7 := (Below.heap_setCell _ ⟨B, 6, none⟩ (.string x.t) _ hB).trans h6
  have h8 := (Below.heap_setCell _ ⟨B, 7, none⟩ (.int .i64 x.q) _ hB).trans h7
  have h9 := (Below.heap_setCell _ ⟨B, 8, none⟩ (.slice A x.xs.length c) _ hB).trans h8
  exact h9

/-- What a call gave: a choice with deps of its own, and a bool; a choice; a record and a bool; a number; a bool. -/
def ChoPost (w : World) (x : Ch) (b : Bool) (e : Ending) (w' : World) : Prop := ∃ A c, e = .returned (.tuple #[chv x A c, .bool b]) ∧ Fr w.heap.size w' A x.xs ∧ Below w.heap.size w w'
def ChP (w : World) (x : Ch) (e : Ending) (w' : World) : Prop := ∃ A c, e = .returned (chv x A c) ∧ Fr w.heap.size w' A x.xs ∧ Below w.heap.size w w'
def RcP (w : World) (o : Option Rp) (e : Ending) (w' : World) : Prop := e = .returned (.tuple #[rr (o.getD z0), .bool o.isSome]) ∧ Below w.heap.size w w'
def IntP (w : World) (n : Int) (e : Ending) (w' : World) : Prop := e = .returned (.int .i64 n) ∧ Below w.heap.size w w'
def FndP (w : World) (l : List Rp) (v : Int) (e : Ending) (w' : World) : Prop := ∃ z, e = .returned (.int .i64 z) ∧ Fnd l v z ∧ Below w.heap.size w w'

end Go.Proofs.Ytgmfjoegfbaebaa.Rg
