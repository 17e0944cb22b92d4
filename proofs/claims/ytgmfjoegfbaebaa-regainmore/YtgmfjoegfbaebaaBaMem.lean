/-
  Words for memory that the walks of package ballot use: a box that holds a ballot, a slice of ballots that reads as a list, and what a call gave. No program's function is walked here. No conditions.
-/
import Derived.Test.YtgmfjoegfbaebaaRows
import Derived.Test.YtgmfjoegfbaebaaBaPlain
import Derived.WalkKit
import Derived.WalkSpells
import Derived.WalkLawsBesides
import Derived.ProofKit
import Derived.Lib.Hide
import Derived.Lib.MinMax
import Derived.Deep.QuietTactic
import Derived.BigQuiet
import Derived.Deep.RegionHeld3
import Derived.Deep.DrawnRows
namespace Go.Proofs.Ytgmfjoegfbaebaa.Ba
open Go.RowKit

/-- A ballot in a box, cell by cell. -/
def Bb (w : World) (B : Nat) (x y : Int) : Prop := w.cell? ⟨B, 0, none⟩ = some (.int .i64 x) ∧ w.cell? ⟨B, 1, none⟩ = some (.int .i64 y)
theorem Bb.on {w w' : World} {B D : Nat} {x y : Int} (h : Bb w B x y) (hb : Below D w w') (hlt : B < D) : Bb w' B x y :=
  ⟨(hb.cell (p := ⟨B, 0, none⟩) hlt).trans h.1, (hb.cell (p := ⟨B, 1, none⟩) hlt).trans h.2⟩
theorem Bb.lt {w : World} {B : Nat} {x y : Int} (h : Bb w B x y) : B < w.heap.size := World.block_lt_of_cell? w _ h.1
theorem Bb.old {w : World} {B : Nat} {x y : Int} (h : Bb w B x y) (o : Obj) : Bb (w.alloc o) B x y := h.on ((Below.refl _ _).alloc (Nat.le_refl _) o) h.lt

/-- A box of the call's own that holds a ballot, to be written to. -/
def Bx (w : World) (B : Nat) (x y : Int) : Prop := w.heap[B]? = some (.cells #[.int .i64 x, .int .i64 y] 40 (0, 0))
theorem Bx.bb {w : World} {B : Nat} {x y : Int} (h : Bx w B x y) : Bb w B x y := ⟨by rw [cell_of_row w B 0 _ 40 _ h]; rfl, by rw [cell_of_row w B 1 _ 40 _ h]; rfl⟩
theorem Bx.free {w : World} {B : Nat} {x y : Int} (h : Bx w B x y) (i : Nat) : w.frozen? ⟨B, i, none⟩ = false := Lib.frozen_of_heap h i
theorem Bx.lt {w : World} {B : Nat} {x y : Int} (h : Bx w B x y) : B < w.heap.size := lt_of_block h
theorem bx_new (w : World) (x y : Int) : Bx (w.alloc (.cells #[.int .i64 x, .int .i64 y] 40)) w.heap.size x y := heap_alloc_new w _
theorem Bx.old {w : World} {B : Nat} {x y : Int} (h : Bx w B x y) (o : Obj) : Bx (w.alloc o) B x y := (heap_alloc_old w o h.lt).trans h
theorem Bx.other {w : World} {B : Nat} {x y : Int} (h : Bx w B x y) {p : Addr} (hne : B ≠ p.block) (v : Value) : Bx (w.setCell p v) B x y := (Below.heap_setCell w p v B hne).trans h
theorem Bx.on {w w' : World} {B D : Nat} {x y : Int} (h : Bx w B x y) (hb : Below D w w') (hlt : B < D) : Bx w' B x y := (hb.block B hlt).trans h
theorem Bx.set0 {w : World} {B : Nat} {x y : Int} (h : Bx w B x y) (u : Int) : Bx (w.setCell ⟨B, 0, none⟩ (.int .i64 u)) B u y := heap_setCell_same w B 0 _ 40 _ h
theorem Bx.set1 {w : World} {B : Nat} {x y : Int} (h : Bx w B x y) (v : Int) : Bx (w.setCell ⟨B, 1, none⟩ (.int .i64 v)) B x v := heap_setCell_same w B 1 _ 40 _ h

/-- A slice of ballots that reads as l. -/
def Bs (w : World) (B : Nat) (A : Option Addr) (l : List (Int × Int)) : Prop :=
  l = [] ∨ ∃ b off, A = some ⟨b, off, none⟩ ∧ b < B ∧ ∀ i r, l[i]? = some r → w.cell? ⟨b, off + i * 2, none⟩ = some (.int .i64 r.1) ∧ w.cell? ⟨b, off + i * 2 + 1, none⟩ = some (.int .i64 r.2)
theorem Bs.at_ {w : World} {B : Nat} {A : Option Addr} {l : List (Int × Int)} (h : Bs w B A l) {i : Nat} (hi : i < l.length) : ∃ b off, A = some ⟨b, off, none⟩ ∧ b < B ∧ w.cell? ⟨b, off + i * 2, none⟩ = some (.int .i64 (l[i]).1) ∧ w.cell? ⟨b, off + i * 2 + 1, none⟩ = some (.int .i64 (l[i]).2) := by
  rcases h with rfl | ⟨b, off, hA, hb, hc⟩
  · simp at hi
  · exact ⟨b, off, hA, hb, hc i l[i] (List.getElem?_eq_getElem hi)⟩
theorem Bs.below {w w' : World} {B : Nat} {A : Option Addr} {l : List (Int × Int)} (h : Bs w B A l) (hb : Below B w w') : Bs w' B A l := by
  rcases h with rfl | ⟨b, off, hA, hlt, hc⟩
  · exact .inl rfl
  · refine .inr ⟨b, off, hA, hlt, fun i r hr => ?_⟩
    obtain ⟨h1, h2⟩ := hc i r hr
    exact ⟨(hb.cell (p := ⟨b, off + i * 2, none⟩) hlt).trans h1, (hb.cell (p := ⟨b, off + i * 2 + 1, none⟩) hlt).trans h2⟩
theorem Bs.mono {w : World} {B B' : Nat} {A : Option Addr} {l : List (Int × Int)} (h : Bs w B A l) (hB : B ≤ B') : Bs w B' A l := by
  rcases h with rfl | ⟨b, off, hA, hlt, hc⟩
  · exact .inl rfl
  · exact .inr ⟨b, off, hA, by omega, hc⟩
theorem Bs.up {w w' : World} {A : Option Addr} {l : List (Int × Int)} (h : Bs w w.heap.size A l) (hb : Below w.heap.size w w') : Bs w' w'.heap.size A l := (h.below hb).mono hb.size
/-- Two ballots that lie in a block of the world at hand. -/
theorem bs_two_at {V : World} {G : Nat} {x y u v : Int} (h0 : V.cell? ⟨G, 0, none⟩ = some (.int .i64 x)) (h1 : V.cell? ⟨G, 1, none⟩ = some (.int .i64 y)) (h2 : V.cell? ⟨G, 2, none⟩ = some (.int .i64 u)) (h3 : V.cell? ⟨G, 3, none⟩ = some (.int .i64 v)) :
    Bs V V.heap.size (some ⟨G, 0, none⟩) [(x, y), (u, v)] := by
  refine .inr ⟨G, 0, rfl, World.block_lt_of_cell? V _ h0, fun i r hr => ?_⟩
  match i, hr with
  | 0, hr => simp at hr; subst hr; exact ⟨h0, h1⟩
  | 1, hr => simp at hr; subst hr; exact ⟨h2, h3⟩

/-- 'l[1:]' of a slice that reads as a :: t. -/
theorem tail_run {w : World} {B : Nat} {A : Option Addr} {a : Int × Int} {t : List (Int × Int)} (h : Bs w B A (a :: t)) (c n : Nat) (hn : n = (a :: t).length) (hc : (a :: t).length ≤ c) :
    ∃ A', (∀ W, (Instr.sliceAt 72 (.slice A n c) (some (.int .i64 1)) none none).run Try.prog W = .ok (.slice A' t.length (c - 1)) W) ∧
      (∀ W, (Instr.slice 72 (.slice A n c) (some (.int .i64 1)) none none).run Try.prog W = .ok (.slice A' t.length (c - 1)) W) ∧ Bs w B A' t := by
  subst hn
  have hsz : ∀ W, (sizeOf (Try.prog.elem 72)).run Try.prog W = .ok 2 W := fun W => by
    have : Try.prog.elem 72 = 40 := by kernel_rfl
    rw [this]
    simp [go_sem]
  have hu : Try.prog.underlying 72 = some (.slice (Try.prog.elem 72)) := by kernel_rfl
  have hl : (a :: t).length = t.length + 1 := rfl
  have h2 : ∀ W, (Instr.slice 72 (.slice A (a :: t).length c) (some (.int .i64 1)) none none).run Try.prog W = .ok (.slice (if c = 1 then A else A.map (·.add (1 * 2))) t.length (c - 1)) W := fun W => by
    rw [run_slice_l W 72 A (a :: t).length c hu .i64 1 (by omega) (by omega), hsz]
    simp [sliced]
  refine ⟨if c = 1 then A else A.map (·.add (1 * 2)), fun W => by rw [run_sliceAt_slice W 72 _ _ _ _ hu]; exact h2 W, h2, ?_⟩
  by_cases hck : c = 1
  · have : t = [] := List.length_eq_zero_iff.1 (by omega)
    subst this
    exact .inl rfl
  · rw [if_neg hck]
    rcases h with h | ⟨b, off, rfl, hb, hcell⟩
    · cases h
    · refine .inr ⟨b, off + 2, by simp [Addr.add_lit], hb, fun i r hr => ?_⟩
      obtain ⟨q0, q1⟩ := hcell (i + 1) r (by simpa using hr)
      rw [show off + 2 + i * 2 = off + (i + 1) * 2 by omega]
      exact ⟨q0, q1⟩

/-- The call gave this bool, number or ballot; nothing that was there has turned. -/
def BoolPost (w : World) (b : Bool) (e : Ending) (w' : World) : Prop := e = .returned (.bool b) ∧ Below w.heap.size w w'
def IntPost (w : World) (n : Int) (e : Ending) (w' : World) : Prop := e = .returned (.int .i64 n) ∧ Below w.heap.size w w'
def UpPost (w : World) (e : Ending) (w' : World) : Prop := e = .returned (.bool true) ∧ Below w.heap.size w w'
def BalPost (w : World) (x y : Int) (e : Ending) (w' : World) : Prop := e = .returned (.agg #[.int .i64 x, .int .i64 y]) ∧ Below w.heap.size w w'
def NextPost (w : World) (x y : Int) (b : Bool) (e : Ending) (w' : World) : Prop := e = .returned (.tuple #[.agg #[.int .i64 x, .int .i64 y], .bool b]) ∧ Below w.heap.size w w'

/-- '==' and '!=' between ballots. -/
theorem eq23 (w : World) (x y u v : Int) : (binOp .eql 40 (.agg #[.int .i64 x, .int .i64 y]) (.agg #[.int .i64 u, .int .i64 v])).run Try.prog w = .ok (.bool ((x == u) && (y == v))) w := by
  rw [run_eql_struct, show (10000 : Nat) = 9999 + 1 from rfl, run_equalIn_struct w 9999 40 _ _ (by kernel_rfl) (by kernel_rfl)]
  simp [Op.eqFields, go_sem]
  by_cases h : x = u <;> by_cases k : y = v <;> simp [h, k]
theorem guard23 (w : World) (a b : Operand) (xs ys : Array Value) : (eqGuard .eql 40 a b (.agg xs) (.agg ys)).run Try.prog w = .ok () w := run_eqGuard_agg w .eql 40 a b xs ys (by kernel_rfl)
theorem neq23 (w : World) (x y u v : Int) : (binOp .neq 40 (.agg #[.int .i64 x, .int .i64 y]) (.agg #[.int .i64 u, .int .i64 v])).run Try.prog w = .ok (.bool (!((x == u) && (y == v)))) w := by
  have := eq23 w x y u v
  rw [run_eql_struct] at this
  rw [run_neq_struct]
  generalize (Op.equalIn 10000 40 (.agg #[.int .i64 x, .int .i64 y]) (.agg #[.int .i64 u, .int .i64 v])).run Try.prog w = r at *
  cases r with
  | ok b w' =>
    simp only [Result.andThen_ok, Result.ok.injEq, Value.bool.injEq] at this ⊢
    exact ⟨by rw [this.1], this.2⟩
  | _ => simp [Result.andThen] at this
theorem guard23n (w : World) (a b : Operand) (xs ys : Array Value) : (eqGuard .neq 40 a b (.agg xs) (.agg ys)).run Try.prog w = .ok () w := run_eqGuard_agg w .neq 40 a b xs ys (by kernel_rfl)

end Go.Proofs.Ytgmfjoegfbaebaa.Ba
