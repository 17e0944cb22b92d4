/-
  Words for memory that the walks of package graph use: a row of the call's own, cell by cell; a graph; slices of integers, of edges and of lists that read as lists; what a call may turn. No program's function is walked here. No conditions.
-/
import Derived.Test.YtnfjfpiijikniaaRows
import Derived.Test.YtnfjfpiijikniaaTh
import Derived.WalkKit
import Derived.WalkSpells
import Derived.WalkLawsBesides
import Derived.ProofKit
import Derived.Lib.Hide
import Derived.Lib.MinMax
import Derived.Deep.QuietTactic
import Derived.BigQuiet
import Derived.Deep.RegionHeld3
import Derived.Deep.DrawnRows
namespace Go.Proofs.Ytnfjfpiijikniaa.Gp
open Go.RowKit
set_option linter.unusedVariables false

/-- A row of n cells, told by a function. -/
def tab (f : Nat → Value) (n : Nat) : Array Value := ((List.range n).map f).toArray
theorem tab_get (f : Nat → Value) (n i : Nat) : (tab f n)[i]? = if i < n then some (f i) else none := by
  simp only [tab, List.getElem?_toArray, List.getElem?_map]
  split
  · rename_i h; simp [h]
  · rename_i h; simp [h]
theorem tab_size (f : Nat → Value) (n : Nat) : (tab f n).size = n := by simp [tab]
theorem tab_ext {f : Nat → Value} {n : Nat} {a : Array Value} (hs : a.size = n) (h : ∀ i, i < n → a[i]? = some (f i)) : a = tab f n := by
  apply Array.ext_getElem?
  intro i
  rw [tab_get]
  split
  · rename_i hi; exact h i hi
  · rename_i hi; exact Array.getElem?_eq_none (by omega)
theorem tab_set (f : Nat → Value) (n i : Nat) (v : Value) : (tab f n).setIfInBounds i v = tab (fun x => if x = i then v else f x) n := by
  refine tab_ext (by simp [tab_size]) fun j hj => ?_
  rw [Array.getElem?_setIfInBounds, tab_get, if_pos hj, tab_size]
  by_cases h : i = j
  · subst h; simp [hj]
  · rw [if_neg h, if_neg (fun e => h e.symm)]
theorem tab_congr {f g : Nat → Value} {n : Nat} (h : ∀ i, i < n → f i = g i) : tab f n = tab g n :=
  tab_ext (tab_size f n) fun i hi => by rw [tab_get, if_pos hi, h i hi]

/-- Block b is a row of n cells of type t. -/
def Tb (w : World) (b : Nat) (t : TypeId) (f : Nat → Value) (n : Nat) : Prop := w.heap[b]? = some (.cells (tab f n) t (0, 0))
section
variable {w w' : World} {b : Nat} {t : TypeId} {f : Nat → Value} {n : Nat}
theorem Tb.cell (h : Tb w b t f n) {i : Nat} (hi : i < n) : w.cell? ⟨b, i, none⟩ = some (f i) := by rw [cell_of_row w b i _ t _ h, tab_get, if_pos hi]
theorem Tb.free (h : Tb w b t f n) (i : Nat) : w.frozen? ⟨b, i, none⟩ = false := Lib.frozen_of_heap h i
theorem Tb.lt (h : Tb w b t f n) : b < w.heap.size := lt_of_block h
theorem Tb.old (h : Tb w b t f n) (o : Obj) : Tb (w.alloc o) b t f n := (heap_alloc_old w o h.lt).trans h
theorem Tb.other (h : Tb w b t f n) {p : Addr} (hne : b ≠ p.block) (v : Value) : Tb (w.setCell p v) b t f n := (Below.heap_setCell w p v b hne).trans h
theorem Tb.same (h : Tb w b t f n) (e : w'.heap[b]? = w.heap[b]?) : Tb w' b t f n := e.trans h
theorem Tb.on (h : Tb w b t f n) {D : Nat} (hb : Below D w w') (hlt : b < D) : Tb w' b t f n := (hb.block b hlt).trans h
theorem Tb.set (h : Tb w b t f n) (i : Nat) (v : Value) : Tb (w.setCell ⟨b, i, none⟩ v) b t (fun x => if x = i then v else f x) n := by
  have := heap_setCell_same w b i _ t v h
  unfold Tb
  rw [this, tab_set]
theorem Tb.congr (h : Tb w b t f n) {g : Nat → Value} (e : ∀ i, i < n → f i = g i) : Tb w b t g n := by
  unfold Tb at *
  rw [h, tab_congr e]
theorem tb_made {base : Nat} {z : Value} (h : w.ownsRow base t 1 (.slice (some ⟨b, 0, none⟩) n n) n (madeCells z.cells (n * 1)).toList) (hz : z.cells = #[z]) : Tb w b t (fun _ => z) n := by
  rcases h.2 with ⟨h0, _⟩ | ⟨g', cap, cur, hv, _, hh, _, _, hcs, ht⟩
  · cases h0
  · simp only [Value.slice.injEq, Option.some.injEq, Addr.mk.injEq] at hv
    obtain ⟨⟨rfl, _⟩, _, rfl⟩ := hv
    rw [List.take_of_length_le (by simp [hcs])] at ht
    unfold Tb
    rw [hh]
    congr 2
    rw [Nat.mul_one] at hcs ht
    refine tab_ext hcs fun i hi => ?_
    rw [← Array.getElem?_toList, ht, hz, toList_madeCells_one, List.getElem?_replicate, if_pos hi]
end
theorem info3 : (Try.prog.info? 3).map (fun i => (i.zero, i.size, i.bytes)) = some (some (.int .i64 0), 1, 8) := by kernel_rfl
theorem info4 : (Try.prog.info? 4).map (fun i => (i.zero, i.size, i.bytes)) = some (some (.bool false), 1, 1) := by kernel_rfl
theorem info29 : (Try.prog.info? 29).map (fun i => (i.zero, i.size, i.bytes)) = some (some (.slice none 0 0), 1, 24) := by kernel_rfl
theorem info38 : (Try.prog.info? 38).map (fun i => (i.zero, i.size, i.bytes)) = some (some (.slice none 0 0), 1, 24) := by kernel_rfl

/-- A row of bools. -/
def Br (w : World) (b : Nat) (f : Nat → Bool) (n : Nat) : Prop := Tb w b 4 (fun j => .bool (f j)) n
theorem Br.cell {w : World} {b n : Nat} {f : Nat → Bool} (h : Br w b f n) {i : Nat} (hi : i < n) : w.cell? ⟨b, i, none⟩ = some (.bool (f i)) := Tb.cell h hi
theorem Br.set {w : World} {b n : Nat} {f : Nat → Bool} (h : Br w b f n) (i : Nat) (v : Bool) : Br (w.setCell ⟨b, i, none⟩ (.bool v)) b (fun x => if x = i then v else f x) n :=
  (Tb.set h i (.bool v)).congr fun j _ => by by_cases e : j = i <;> simp [e]
theorem Br.congr {w : World} {b n : Nat} {f g : Nat → Bool} (h : Br w b f n) (e : ∀ i, i < n → f i = g i) : Br w b g n := Tb.congr h fun i hi => by rw [e i hi]
theorem Br.upd {w : World} {b n : Nat} {f : Nat → Bool} (h : Br w b f n) (i : Nat) : Br (w.setCell ⟨b, i, none⟩ (.bool true)) b (upd f i) n :=
  (h.set i true).congr fun j _ => by
    unfold Gp.upd
    by_cases e : j = i
    · simp [e]
    · rw [if_neg e]; simp [e]

/-- A graph: a row of rows of bools, each in a block of its own. -/
structure Gr (w : World) (b : Nat) (R : Nat → Nat) (n : Nat) (G : Nat → Nat → Bool) : Prop where
  hdr : Tb w b 38 (fun i => .slice (some ⟨R i, 0, none⟩) n n) n
  row : ∀ i, i < n → Br w (R i) (G i) n
  one : ∀ i j, i < n → j < n → R i = R j → i = j
theorem Tb.apart {w : World} {b b' : Nat} {t t' : TypeId} {f f' : Nat → Value} {n n' : Nat} (h : Tb w b t f n) (h' : Tb w b' t' f' n') (ht : t ≠ t') : b ≠ b' := by
  rintro rfl
  unfold Tb at *
  rw [h] at h'
  simp only [Option.some.injEq, Obj.cells.injEq] at h'
  exact ht h'.2.1
section
variable {w w' : World} {b n : Nat} {R : Nat → Nat} {G : Nat → Nat → Bool}
theorem Gr.same (h : Gr w b R n G) (h0 : w'.heap[b]? = w.heap[b]?) (h1 : ∀ i, i < n → w'.heap[R i]? = w.heap[R i]?) : Gr w' b R n G := ⟨h.hdr.same h0, fun i hi => Tb.same (h.row i hi) (h1 i hi), h.one⟩
theorem Gr.lt (h : Gr w b R n G) : b < w.heap.size := h.hdr.lt
theorem Gr.rlt (h : Gr w b R n G) {i : Nat} (hi : i < n) : R i < w.heap.size := Tb.lt (h.row i hi)
theorem Gr.ne (h : Gr w b R n G) {i : Nat} (hi : i < n) : b ≠ R i := h.hdr.apart (h.row i hi) (by decide)
theorem Gr.up (h : Gr w b R n G) (hb : Below w.heap.size w w') : Gr w' b R n G := h.same (hb.block b h.lt) fun i hi => hb.block (R i) (h.rlt hi)
theorem Gr.on (h : Gr w b R n G) {D : Nat} (hb : Below D w w') (h0 : b < D) (h1 : ∀ i, i < n → R i < D) : Gr w' b R n G := h.same (hb.block b h0) fun i hi => hb.block (R i) (h1 i hi)
theorem Gr.old (h : Gr w b R n G) (o : Obj) : Gr (w.alloc o) b R n G := h.up ((Below.refl _ _).alloc (Nat.le_refl _) o)
theorem Gr.drew (h : Gr w b R n G) : Gr w.drew b R n G := h.same rfl fun _ _ => rfl
theorem Gr.other (h : Gr w b R n G) {p : Addr} (h0 : b ≠ p.block) (h1 : ∀ i, i < n → R i ≠ p.block) (v : Value) : Gr (w.setCell p v) b R n G := h.same (Below.heap_setCell w p v b h0) fun i hi => Below.heap_setCell w p v (R i) (h1 i hi)
theorem Gr.hcell (h : Gr w b R n G) {i : Nat} (hi : i < n) : w.cell? ⟨b, i, none⟩ = some (.slice (some ⟨R i, 0, none⟩) n n) := h.hdr.cell hi
theorem Gr.cell (h : Gr w b R n G) {i j : Nat} (hi : i < n) (hj : j < n) : w.cell? ⟨R i, j, none⟩ = some (.bool (G i j)) := (h.row i hi).cell hj
theorem Gr.set (h : Gr w b R n G) {i : Nat} (hi : i < n) (j : Nat) (v : Bool) : Gr (w.setCell ⟨R i, j, none⟩ (.bool v)) b R n (fun x y => if x = i ∧ y = j then v else G x y) :=
  ⟨h.hdr.other (h.ne hi) _, fun k hk => by
    by_cases e : k = i
    · subst e
      exact ((h.row k hk).set j v).congr fun y _ => by simp
    · exact Br.congr (f := G k) ((h.row k hk).other (fun e2 => e (h.one _ _ hk hi e2)) _) fun y _ => by rw [if_neg (fun c => e c.1)], h.one⟩
theorem Gr.congr (h : Gr w b R n G) {H : Nat → Nat → Bool} (e : ∀ i j, i < n → j < n → G i j = H i j) : Gr w b R n H := ⟨h.hdr, fun i hi => (h.row i hi).congr fun j hj => e i j hi hj, h.one⟩
end

/-- The edges of a graph in memory. -/
def Eg (n : Nat) (G : Nat → Nat → Bool) (a b : Nat) : Prop := a < n ∧ b < n ∧ G a b = true
theorem eg_in (n : Nat) (G : Nat → Nat → Bool) : ∀ x y, Eg n G x y → x < n ∧ y < n := fun x y h => ⟨h.1, h.2.1⟩

/-- The slice at the address A reads as the integers xs, all of which lie below block B. -/
def Sl (w : World) (B : Nat) (A : Option Addr) (xs : List Int) : Prop :=
  xs = [] ∨ ∃ b off, A = some ⟨b, off, none⟩ ∧ b < B ∧ ∀ j x, xs[j]? = some x → w.cell? ⟨b, off + j, none⟩ = some (.int .i64 x)
theorem Sl.at_ {w : World} {B : Nat} {A : Option Addr} {xs : List Int} (h : Sl w B A xs) {j : Nat} (hj : j < xs.length) :
    ∃ b off, A = some ⟨b, off, none⟩ ∧ b < B ∧ w.cell? ⟨b, off + j, none⟩ = some (.int .i64 xs[j]) := by
  rcases h with rfl | ⟨b, off, hA, hb, hc⟩
  · simp at hj
  · exact ⟨b, off, hA, hb, hc j xs[j] (List.getElem?_eq_getElem hj)⟩
theorem Sl.below {w w' : World} {B : Nat} {A : Option Addr} {xs : List Int} (h : Sl w B A xs) (hb : Below B w w') : Sl w' B A xs := by
  rcases h with rfl | ⟨b, off, hA, hlt, hc⟩
  · exact .inl rfl
  · exact .inr ⟨b, off, hA, hlt, fun j x hx => (hb.cell (p := ⟨b, off + j, none⟩) hlt).trans (hc j x hx)⟩
theorem Sl.mono {w : World} {B B' : Nat} {A : Option Addr} {xs : List Int} (h : Sl w B A xs) (hB : B ≤ B') : Sl w B' A xs := by
  rcases h with rfl | ⟨b, off, hA, hlt, hc⟩
  · exact .inl rfl
  · exact .inr ⟨b, off, hA, by omega, hc⟩
theorem Sl.to {w w' : World} {B : Nat} {A : Option Addr} {xs : List Int} (h : Sl w B A xs) (hb : Below B w w') (hB : B ≤ w'.heap.size) : Sl w' w'.heap.size A xs := (h.below hb).mono hB

/-- A slice of edges that reads as l. -/
def Es (w : World) (B : Nat) (A : Option Addr) (l : List (Int × Int)) : Prop :=
  l = [] ∨ ∃ b off, A = some ⟨b, off, none⟩ ∧ b < B ∧ ∀ i r, l[i]? = some r → w.cell? ⟨b, off + i * 2, none⟩ = some (.int .i64 r.1) ∧ w.cell? ⟨b, off + i * 2 + 1, none⟩ = some (.int .i64 r.2)
theorem Es.at_ {w : World} {B : Nat} {A : Option Addr} {l : List (Int × Int)} (h : Es w B A l) {i : Nat} (hi : i < l.length) : ∃ b off, A = some ⟨b, off, none⟩ ∧ b < B ∧ w.cell? ⟨b, off + i * 2, none⟩ = some (.int .i64 (l[i]).1) ∧ w.cell? ⟨b, off + i * 2 + 1, none⟩ = some (.int .i64 (l[i]).2) := by
  rcases h with rfl | ⟨b, off, hA, hb, hc⟩
  · simp at hi
  · exact ⟨b, off, hA, hb, hc i l[i] (List.getElem?_eq_getElem hi)⟩
theorem Es.below {w w' : World} {B : Nat} {A : Option Addr} {l : List (Int × Int)} (h : Es w B A l) (hb : Below B w w') : Es w' B A l := by
  rcases h with rfl | ⟨b, off, hA, hlt, hc⟩
  · exact .inl rfl
  · refine .inr ⟨b, off, hA, hlt, fun i r hr => ?_⟩
    obtain ⟨h1, h2⟩ := hc i r hr
    exact ⟨(hb.cell (p := ⟨b, off + i * 2, none⟩) hlt).trans h1, (hb.cell (p := ⟨b, off + i * 2 + 1, none⟩) hlt).trans h2⟩
theorem Es.mono {w : World} {B B' : Nat} {A : Option Addr} {l : List (Int × Int)} (h : Es w B A l) (hB : B ≤ B') : Es w B' A l := by
  rcases h with rfl | ⟨b, off, hA, hlt, hc⟩
  · exact .inl rfl
  · exact .inr ⟨b, off, hA, by omega, hc⟩
theorem Es.to {w w' : World} {B : Nat} {A : Option Addr} {l : List (Int × Int)} (h : Es w B A l) (hb : Below B w w') (hB : B ≤ w'.heap.size) : Es w' w'.heap.size A l := (h.below hb).mono hB

/-- The things' number, and the edges between things, as the document has them. -/
def am (n : Int) : Nat := (min (max n 0) 100).toNat
theorem am_le (n : Int) : am n ≤ 100 := by unfold am; omega
theorem am_in {n : Int} (h0 : 0 ≤ n) (h1 : n ≤ 100) : (am n : Int) = n := by unfold am; omega
def Ed (m : Nat) (l : List (Int × Int)) (a b : Nat) : Prop := a < m ∧ b < m ∧ ((a : Int), (b : Int)) ∈ l
theorem ed_in (m : Nat) (l : List (Int × Int)) : ∀ x y, Ed m l x y → x < m ∧ y < m := fun x y h => ⟨h.1, h.2.1⟩
open Classical in
noncomputable def ge (l : List (Int × Int)) (a b : Nat) : Bool := decide (((a : Int), (b : Int)) ∈ l)
theorem eg_ge (m : Nat) (l : List (Int × Int)) : Eg m (ge l) = Ed m l := by
  funext a b
  simp [Eg, Ed, ge]

/-- The call gave this bool, or number; nothing that was there has turned. -/
def BoolPost (w : World) (b : Bool) (e : Ending) (w' : World) : Prop := e = .returned (.bool b) ∧ Below w.heap.size w w'
def IntPost (w : World) (n : Int) (e : Ending) (w' : World) : Prop := e = .returned (.int .i64 n) ∧ Below w.heap.size w w'
def UpPost (w : World) (e : Ending) (w' : World) : Prop := e = .returned (.bool true) ∧ Below w.heap.size w w'
/-- The call gave a graph in blocks of its own. -/
def GrPost (w : World) (n : Nat) (G : Nat → Nat → Bool) (e : Ending) (w' : World) : Prop :=
  ∃ b R, e = .returned (.slice (some ⟨b, 0, none⟩) n n) ∧ Gr w' b R n G ∧ w.heap.size ≤ b ∧ (∀ i, i < n → w.heap.size ≤ R i) ∧ Below w.heap.size w w'

/-- Outside of the blocks of O nothing has turned. -/
structure Off (O : Nat → Prop) (w w' : World) : Prop where
  os : w'.os = w.os
  tape : w'.tape = w.tape
  output : w'.output = w.output
  size : w.heap.size ≤ w'.heap.size
  block : ∀ k, k < w.heap.size → ¬ O k → w'.heap[k]? = w.heap[k]?
theorem Off.refl (O : Nat → Prop) (w : World) : Off O w w := ⟨rfl, rfl, rfl, Nat.le_refl _, fun _ _ _ => rfl⟩
theorem Off.trans {O O1 : Nat → Prop} {a b c : World} (h : Off O a b) (k : Off O1 b c) (hO : ∀ r, O1 r → O r ∨ a.heap.size ≤ r) : Off O a c :=
  ⟨k.os.trans h.os, k.tape.trans h.tape, k.output.trans h.output, Nat.le_trans h.size k.size, fun i hi hn => (k.block i (Nat.lt_of_lt_of_le hi h.size) (fun h1 => (hO i h1).elim hn (by omega))).trans (h.block i hi hn)⟩
theorem Off.of_below {O : Nat → Prop} {w w' : World} (h : Below w.heap.size w w') : Off O w w' := ⟨h.os, h.tape, h.output, h.size, fun k hk _ => h.block k hk⟩
theorem Off.then {O : Nat → Prop} {a b c : World} (h : Off O a b) (k : Below b.heap.size b c) : Off O a c := h.trans (Off.of_below (O := O) k) (fun r hr => .inl hr)
theorem Off.below {O : Nat → Prop} {w w' : World} {D : Nat} (h : Off O w w') (hO : ∀ r, O r → D ≤ r) (hD : D ≤ w.heap.size) : Below D w w' :=
  ⟨h.os, h.tape, h.output, h.size, fun k hk => h.block k (by omega) (fun h1 => by have := hO k h1; omega)⟩
theorem Off.drew {O : Nat → Prop} {w w' : World} (h : Off O w w') : Off O w w'.drew := ⟨h.os, h.tape, h.output, h.size, h.block⟩
theorem Off.alloc {O : Nat → Prop} {a w : World} (h : Off O a w) (o : Obj) : Off O a (w.alloc o) := h.then ((Below.refl _ _).alloc (Nat.le_refl _) _)
theorem Off.set {O : Nat → Prop} {a w : World} (h : Off O a w) {p : Addr} (hp : O p.block ∨ a.heap.size ≤ p.block) (v : Value) : Off O a (w.setCell p v) :=
  ⟨h.os, h.tape, h.output, by simp [World.setCell]; exact h.size, fun k hk hn => (Below.heap_setCell w p v k (fun e => hp.elim (fun c => hn (e ▸ c)) (by omega))).trans (h.block k hk hn)⟩
theorem Off.grown {O : Nat → Prop} {a w w' : World} {row : Option Nat} (h : Off O a w) (hg : w.grownBy w' row) (hr : ∀ k, row = some k → O k ∨ a.heap.size ≤ k) : Off O a w' :=
  ⟨hg.os.trans h.os, hg.tape.trans h.tape, hg.output.trans h.output, Nat.le_trans h.size hg.size, fun k hk hn => (hg.block k (Nat.lt_of_lt_of_le hk h.size) (fun e => (hr k e.symm).elim hn (by omega))).trans (h.block k hk hn)⟩

end Go.Proofs.Ytnfjfpiijikniaa.Gp
