/-
  Words for memory that the walks of package keys use: a command and a key in a box; a slice that reads as commands, or as keys. No program's function is walked here. No conditions.
-/
import Derived.Test.YtdeaaeejkpghaaaDoorRows
import Derived.WalkKit
import Derived.WalkSpells
import Derived.WalkLawsBesides
import Derived.ProofKit
import Derived.Lib.Hide
import Derived.Laws.BytesArg
namespace Go.Proofs.YtdeaaeejkpghaaaDoor
open Go.RowKit

/-- A command, as a value. -/
abbrev cv (u s k h n : Int) (t : ByteArray) : Value := .agg #[.int .i64 u, .int .i64 s, .int .i64 k, .int .i64 h, .int .i64 n, .string t]
/-- A key, as a value. -/
abbrev kv (a : Bool) (i : Int) (c : Bool) : Value := .agg #[.bool a, .int .i64 i, .bool c]

/-- A command. -/
structure Cd where
  u : Int
  s : Int
  k : Int
  h : Int
  n : Int
  t : ByteArray
/-- A key. -/
structure Ky where
  a : Bool
  i : Int
  c : Bool

/-- A command in a box, cell by cell. -/
def Cb (w : World) (B : Nat) (u s k h n : Int) (t : ByteArray) : Prop :=
  w.cell? ⟨B, 0, none⟩ = some (.int .i64 u) ∧ w.cell? ⟨B, 1, none⟩ = some (.int .i64 s) ∧ w.cell? ⟨B, 2, none⟩ = some (.int .i64 k) ∧ w.cell? ⟨B, 3, none⟩ = some (.int .i64 h) ∧ w.cell? ⟨B, 4, none⟩ = some (.int .i64 n) ∧ w.cell? ⟨B, 5, none⟩ = some (.string t)
theorem cb_new (w : World) (u s k h n : Int) (t : ByteArray) : Cb (w.alloc (.cells #[.int .i64 u, .int .i64 s, .int .i64 k, .int .i64 h, .int .i64 n, .string t] 25)) w.heap.size u s k h n t := by
  refine ⟨?_, ?_, ?_, ?_, ?_, ?_⟩ <;> simp [go_sem]
theorem Cb.on {w w' : World} {B D : Nat} {u s k h n : Int} {t : ByteArray} (hc : Cb w B u s k h n t) (hb : Below D w w') (hB : B < D) : Cb w' B u s k h n t := by
  obtain ⟨c0, c1, c2, c3, c4, c5⟩ := hc
  exact ⟨(hb.cell (p := ⟨B, 0, none⟩) hB).trans c0, (hb.cell (p := ⟨B, 1, none⟩) hB).trans c1, (hb.cell (p := ⟨B, 2, none⟩) hB).trans c2, (hb.cell (p := ⟨B, 3, none⟩) hB).trans c3, (hb.cell (p := ⟨B, 4, none⟩) hB).trans c4, (hb.cell (p := ⟨B, 5, none⟩) hB).trans c5⟩
theorem Cb.lt {w : World} {B : Nat} {u s k h n : Int} {t : ByteArray} (hc : Cb w B u s k h n t) : B < w.heap.size := World.block_lt_of_cell? w _ hc.1

/-- A key in a box. -/
def Kb (w : World) (B : Nat) (a : Bool) (i : Int) (c : Bool) : Prop :=
  w.cell? ⟨B, 0, none⟩ = some (.bool a) ∧ w.cell? ⟨B, 1, none⟩ = some (.int .i64 i) ∧ w.cell? ⟨B, 2, none⟩ = some (.bool c)
theorem Kb.on {w w' : World} {B D : Nat} {a c : Bool} {i : Int} (hc : Kb w B a i c) (hb : Below D w w') (hB : B < D) : Kb w' B a i c :=
  ⟨(hb.cell (p := ⟨B, 0, none⟩) hB).trans hc.1, (hb.cell (p := ⟨B, 1, none⟩) hB).trans hc.2.1, (hb.cell (p := ⟨B, 2, none⟩) hB).trans hc.2.2⟩
theorem Kb.lt {w : World} {B : Nat} {a c : Bool} {i : Int} (hc : Kb w B a i c) : B < w.heap.size := World.block_lt_of_cell? w _ hc.1

/-- The slice at the address A reads as the keys l, all of which lie below block B. -/
def Ks (w : World) (B : Nat) (A : Option Addr) (l : List Ky) : Prop :=
  l = [] ∨ ∃ b off, A = some ⟨b, off, none⟩ ∧ b < B ∧ ∀ j x, l[j]? = some x → w.cell? ⟨b, off + j * 3, none⟩ = some (.bool x.a) ∧ w.cell? ⟨b, off + j * 3 + 1, none⟩ = some (.int .i64 x.i) ∧ w.cell? ⟨b, off + j * 3 + 2, none⟩ = some (.bool x.c)
theorem Ks.nil {w : World} {B : Nat} {A : Option Addr} : Ks w B A [] := .inl rfl
theorem Ks.below {w w' : World} {B D : Nat} {A : Option Addr} {l : List Ky} (h : Ks w B A l) (hb : Below D w w') (hD : B ≤ D) : Ks w' B A l := by
  rcases h with rfl | ⟨b, off, hA, hlt, hc⟩
  · exact .inl rfl
  · refine .inr ⟨b, off, hA, hlt, fun j x hx => ?_⟩
    obtain ⟨q0, q1, q2⟩ := hc j x hx
    have hbD : b < D := by omega
    exact ⟨(hb.cell (p := ⟨b, off + j * 3, none⟩) hbD).trans q0, (hb.cell (p := ⟨b, off + j * 3 + 1, none⟩) hbD).trans q1, (hb.cell (p := ⟨b, off + j * 3 + 2, none⟩) hbD).trans q2⟩
theorem Ks.mono {w : World} {B B' : Nat} {A : Option Addr} {l : List Ky} (h : Ks w B A l) (hB : B ≤ B') : Ks w B' A l := by
  rcases h with rfl | ⟨b, off, hA, hlt, hc⟩
  · exact .inl rfl
  · exact .inr ⟨b, off, hA, by omega, hc⟩

/-- The slice at the address A reads as the commands l, all of which lie below block B. -/
def Cs (w : World) (B : Nat) (A : Option Addr) (l : List Cd) : Prop :=
  l = [] ∨ ∃ b off, A = some ⟨b, off, none⟩ ∧ b < B ∧ ∀ j x, l[j]? = some x → w.cell? ⟨b, off + j * 6, none⟩ = some (.int .i64 x.u) ∧ w.cell? ⟨b, off + j * 6 + 1, none⟩ = some (.int .i64 x.s) ∧ w.cell? ⟨b, off + j * 6 + 2, none⟩ = some (.int .i64 x.k) ∧ w.cell? ⟨b, off + j * 6 + 3, none⟩ = some (.int .i64 x.h) ∧ w.cell? ⟨b, off + j * 6 + 4, none⟩ = some (.int .i64 x.n) ∧ w.cell? ⟨b, off + j * 6 + 5, none⟩ = some (.string x.t)
theorem Cs.nil {w : World} {B : Nat} {A : Option Addr} : Cs w B A [] := .inl rfl
theorem Cs.below {w w' : World} {B D : Nat} {A : Option Addr} {l : List Cd} (h : Cs w B A l) (hb : Below D w w') (hD : B ≤ D) : Cs w' B A l := by
  rcases h with rfl | ⟨b, off, hA, hlt, hc⟩
  · exact .inl rfl
  · refine .inr ⟨b, off, hA, hlt, fun j x hx => ?_⟩
    obtain ⟨q0, q1, q2, q3, q4, q5⟩ := hc j x hx
    have hbD : b < D := by omega
    exact ⟨(hb.cell (p := ⟨b, off + j * 6, none⟩) hbD).trans q0, (hb.cell (p := ⟨b, off + j * 6 + 1, none⟩) hbD).trans q1, (hb.cell (p := ⟨b, off + j * 6 + 2, none⟩) hbD).trans q2, (hb.cell (p := ⟨b, off + j * 6 + 3, none⟩) hbD).trans q3, (hb.cell (p := ⟨b, off + j * 6 + 4, none⟩) hbD).trans q4, (hb.cell (p := ⟨b, off + j * 6 + 5, none⟩) hbD).trans q5⟩
theorem Cs.mono {w : World} {B B' : Nat} {A : Option Addr} {l : List Cd} (h : Cs w B A l) (hB : B ≤ B') : Cs w B' A l := by
  rcases h with rfl | ⟨b, off, hA, hlt, hc⟩
  · exact .inl rfl
  · exact .inr ⟨b, off, hA, by omega, hc⟩

end Go.Proofs.YtdeaaeejkpghaaaDoor
