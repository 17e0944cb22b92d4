/-
  Words for memory that the walks of package text use: a command as a value, in a box; a reader and a writer in a box; the table of what kinds need, and the table of powers of ten. No program's function is walked here. No conditions.
-/
import Derived.Test.YtpeieagfndggbaaDoorRows
import Derived.Test.YtpeieagfndggbaaDoorBy
import Derived.Test.YtpeieagfndggbaaDoorSh
import Derived.WalkKit
import Derived.WalkSpells
import Derived.WalkLawsBesides
import Derived.ProofKit
import Derived.Lib.Hide
import Derived.Laws.BytesArg
import Derived.BigCall
import Derived.BigGuard
import Derived.Recover
import Derived.Defers
import Derived.Lib.OthersKept
namespace Go.Proofs.YtpeieagfndggbaaDoor
open Go.RowKit Tx

/-- A command, as a value. -/
abbrev cv (u s k h n : Int) (t : ByteArray) : Value := .agg #[.int .i64 u, .int .i64 s, .int .i64 k, .int .i64 h, .int .i64 n, .string t]

/-- Block B is a command. -/
def Cx (w : World) (B : Nat) (u s k h n : Int) (t : ByteArray) : Prop := w.heap[B]? = some (.cells #[.int .i64 u, .int .i64 s, .int .i64 k, .int .i64 h, .int .i64 n, .string t] 24 (0, 0))
/-- Block B is a text and a command: a reader (37) or a writer (46). -/
def Rx (T : Nat) (w : World) (B : Nat) (l : ByteArray) (u s k h n : Int) (t : ByteArray) : Prop := w.heap[B]? = some (.cells #[.string l, .int .i64 u, .int .i64 s, .int .i64 k, .int .i64 h, .int .i64 n, .string t] T (0, 0))
/-- A command in a box, cell by cell. -/
def Cb (w : World) (B o : Nat) (u s k h n : Int) (t : ByteArray) : Prop :=
  w.cell? ⟨B, o, none⟩ = some (.int .i64 u) ∧ w.cell? ⟨B, o + 1, none⟩ = some (.int .i64 s) ∧ w.cell? ⟨B, o + 2, none⟩ = some (.int .i64 k) ∧ w.cell? ⟨B, o + 3, none⟩ = some (.int .i64 h) ∧ w.cell? ⟨B, o + 4, none⟩ = some (.int .i64 n) ∧ w.cell? ⟨B, o + 5, none⟩ = some (.string t)
theorem nalloc_new (w : World) (o : Obj) : (w.alloc o).heap[w.heap.size]? = some o := heap_alloc_new w o
theorem nalloc_old (w : World) (o : Obj) {b : Nat} (h : b < w.heap.size) : (w.alloc o).heap[b]? = w.heap[b]? := Below.heap_alloc w o b h
theorem Cx.cb {w : World} {B : Nat} {u s k h n : Int} {t : ByteArray} (hb : Cx w B u s k h n t) : Cb w B 0 u s k h n t :=
  ⟨by rw [cell_of_row w B 0 _ 24 _ hb]; rfl, by rw [cell_of_row w B 1 _ 24 _ hb]; rfl, by rw [cell_of_row w B 2 _ 24 _ hb]; rfl, by rw [cell_of_row w B 3 _ 24 _ hb]; rfl, by rw [cell_of_row w B 4 _ 24 _ hb]; rfl, by rw [cell_of_row w B 5 _ 24 _ hb]; rfl⟩
theorem Rx.cb {T : Nat} {w : World} {B : Nat} {l : ByteArray} {u s k h n : Int} {t : ByteArray} (hb : Rx T w B l u s k h n t) : w.cell? ⟨B, 0, none⟩ = some (.string l) ∧ w.cell? ⟨B, 1, none⟩ = some (.int .i64 u) ∧ w.cell? ⟨B, 2, none⟩ = some (.int .i64 s) ∧ w.cell? ⟨B, 3, none⟩ = some (.int .i64 k) ∧ w.cell? ⟨B, 4, none⟩ = some (.int .i64 h) ∧ w.cell? ⟨B, 5, none⟩ = some (.int .i64 n) ∧ w.cell? ⟨B, 6, none⟩ = some (.string t) :=
  ⟨by rw [cell_of_row w B 0 _ T _ hb]; rfl, by rw [cell_of_row w B 1 _ T _ hb]; rfl, by rw [cell_of_row w B 2 _ T _ hb]; rfl, by rw [cell_of_row w B 3 _ T _ hb]; rfl, by rw [cell_of_row w B 4 _ T _ hb]; rfl, by rw [cell_of_row w B 5 _ T _ hb]; rfl, by rw [cell_of_row w B 6 _ T _ hb]; rfl⟩
theorem Cx.free {w : World} {B : Nat} {u s k h n : Int} {t : ByteArray} (hb : Cx w B u s k h n t) (i : Nat) : w.frozen? ⟨B, i, none⟩ = false := Lib.frozen_of_heap hb i
theorem Rx.free {T : Nat} {w : World} {B : Nat} {l : ByteArray} {u s k h n : Int} {t : ByteArray} (hb : Rx T w B l u s k h n t) (i : Nat) : w.frozen? ⟨B, i, none⟩ = false := Lib.frozen_of_heap hb i
theorem Rx.lt {T : Nat} {w : World} {B : Nat} {l : ByteArray} {u s k h n : Int} {t : ByteArray} (hb : Rx T w B l u s k h n t) : B < w.heap.size := lt_of_block hb
theorem Rx.old {T : Nat} {w : World} {B : Nat} {l : ByteArray} {u s k h n : Int} {t : ByteArray} (hb : Rx T w B l u s k h n t) (o : Obj) : Rx T (w.alloc o) B l u s k h n t := (nalloc_old w o hb.lt).trans hb
theorem Rx.on {T : Nat} {w w' : World} {B D : Nat} {l : ByteArray} {u s k h n : Int} {t : ByteArray} (hb : Rx T w B l u s k h n t) (hbe : Below D w w') (hB : B < D) : Rx T w' B l u s k h n t := (hbe.block B hB).trans hb
theorem Cx.on {w w' : World} {B D : Nat} {u s k h n : Int} {t : ByteArray} (hb : Cx w B u s k h n t) (hbe : Below D w w') (hB : B < D) : Cx w' B u s k h n t := (hbe.block B hB).trans hb
theorem Cx.lt {w : World} {B : Nat} {u s k h n : Int} {t : ByteArray} (hb : Cx w B u s k h n t) : B < w.heap.size := lt_of_block hb
theorem Cb.on {w w' : World} {B o D : Nat} {u s k h n : Int} {t : ByteArray} (hc : Cb w B o u s k h n t) (hb : Below D w w') (hB : B < D) : Cb w' B o u s k h n t := by
  obtain ⟨c0, c1, c2, c3, c4, c5⟩ := hc
  exact ⟨(hb.cell (p := ⟨B, o, none⟩) hB).trans c0, (hb.cell (p := ⟨B, o + 1, none⟩) hB).trans c1, (hb.cell (p := ⟨B, o + 2, none⟩) hB).trans c2, (hb.cell (p := ⟨B, o + 3, none⟩) hB).trans c3, (hb.cell (p := ⟨B, o + 4, none⟩) hB).trans c4, (hb.cell (p := ⟨B, o + 5, none⟩) hB).trans c5⟩

theorem Rx.cell {T : Nat} {w : World} {B : Nat} {l : ByteArray} {u s k h n : Int} {t : ByteArray} (hb : Rx T w B l u s k h n t) : Cb w B 1 u s k h n t := by
  obtain ⟨_, c1, c2, c3, c4, c5, c6⟩ := hb.cb
  exact ⟨c1, c2, c3, c4, c5, c6⟩
theorem Rx.setl {T : Nat} {w : World} {B : Nat} {l : ByteArray} {u s k h n : Int} {t : ByteArray} (hb : Rx T w B l u s k h n t) (l' : ByteArray) : Rx T (w.setCell ⟨B, 0, none⟩ (.string l')) B l' u s k h n t := heap_setCell_same w B 0 _ T _ hb
theorem Rx.setk {T : Nat} {w : World} {B : Nat} {l : ByteArray} {u s k h n : Int} {t : ByteArray} (hb : Rx T w B l u s k h n t) (k' : Int) : Rx T (w.setCell ⟨B, 3, none⟩ (.int .i64 k')) B l u s k' h n t := heap_setCell_same w B 3 _ T _ hb
theorem Rx.seth {T : Nat} {w : World} {B : Nat} {l : ByteArray} {u s k h n : Int} {t : ByteArray} (hb : Rx T w B l u s k h n t) (h' : Int) : Rx T (w.setCell ⟨B, 4, none⟩ (.int .i64 h')) B l u s k h' n t := heap_setCell_same w B 4 _ T _ hb
theorem Rx.setn {T : Nat} {w : World} {B : Nat} {l : ByteArray} {u s k h n : Int} {t : ByteArray} (hb : Rx T w B l u s k h n t) (n' : Int) : Rx T (w.setCell ⟨B, 5, none⟩ (.int .i64 n')) B l u s k h n' t := heap_setCell_same w B 5 _ T _ hb
theorem Rx.sett {T : Nat} {w : World} {B : Nat} {l : ByteArray} {u s k h n : Int} {t : ByteArray} (hb : Rx T w B l u s k h n t) (t' : ByteArray) : Rx T (w.setCell ⟨B, 6, none⟩ (.string t')) B l u s k h n t' := heap_setCell_same w B 6 _ T _ hb

/-- The table of what kinds need, and the library's powers of ten. -/
structure Nd (w : World) : Prop where
  nd : ∀ k : Nat, k < 8 → w.cell? ⟨0, k * 2, none⟩ = some (.bool (numbered k)) ∧ w.cell? ⟨0, k * 2 + 1, none⟩ = some (.bool (worded k))
  tb : Lib.TabIs Tryd.prog w "internal/strconv.uint64pow10" .u64 Lib.pow10Tab
  lt : 4 < w.heap.size
theorem gTab : Tryd.prog.globalNamed "internal/strconv.uint64pow10" = some 4 := by kernel_rfl
theorem Nd.below {w w' : World} {B : Nat} (h : Nd w) (hb : Below B w w') (hB : 4 < B) : Nd w' := by
  refine ⟨fun k hk => ⟨?_, ?_⟩, ?_, ?_⟩
  · exact (hb.cell (p := ⟨0, k * 2, none⟩) (by show 0 < B; omega)).trans (h.nd k hk).1
  · exact (hb.cell (p := ⟨0, k * 2 + 1, none⟩) (by show 0 < B; omega)).trans (h.nd k hk).2
  · have ht := h.tb
    unfold Lib.TabIs World.var? at ht ⊢
    rw [gTab, Option.bind_some] at ht ⊢
    rw [hb.block 4 hB]
    exact ht
  · exact Nat.lt_of_lt_of_le h.lt hb.size
theorem Nd.on {w w' : World} (h : Nd w) (hb : Below w.heap.size w w') : Nd w' := h.below hb h.lt
end Go.Proofs.YtpeieagfndggbaaDoor
