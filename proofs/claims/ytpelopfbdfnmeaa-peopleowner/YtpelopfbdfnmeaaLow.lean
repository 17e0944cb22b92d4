/-
  Words for PeopleOwner: a list that lies in neither of two blocks; what the loop of joins and leaves keeps. No program's function is walked here. No conditions.
-/
import Derived.Test.YtpelopfbdfnmeaaOpen
namespace Go.Proofs.Ytpelopfbdfnmeaa
open Go.RowKit
/-- A slice that reads as l and lies in neither of two blocks. -/
def S2 (w : World) (X Y : Nat) (A : Option Addr) (l : List Int) : Prop := l = [] ∨ ∃ b off, A = some ⟨b, off, none⟩ ∧ b < w.heap.size ∧ b ≠ X ∧ b ≠ Y ∧ ∀ j x, l[j]? = some x → w.cell? ⟨b, off + j, none⟩ = some (.int .i64 x)
theorem S2.sl {w : World} {X Y : Nat} {A : Option Addr} {l : List Int} (h : S2 w X Y A l) : Sl w w.heap.size .i64 A l := by
  rcases h with rfl | ⟨b, off, rfl, hb, _, _, hc⟩
  · exact .inl rfl
  · exact .inr ⟨b, off, rfl, hb, hc⟩
theorem S2.set {w : World} {X Y : Nat} {A : Option Addr} {l : List Int} (h : S2 w X Y A l) (p : Addr) (hp : p.block = X ∨ p.block = Y) (v : Value) : S2 (w.setCell p v) X Y A l := by
  rcases h with rfl | ⟨b, off, rfl, hb, hx, hy, hc⟩
  · exact .inl rfl
  · have e : ∀ i, (w.setCell p v).cell? ⟨b, i, none⟩ = w.cell? ⟨b, i, none⟩ := fun i => World.cell?_of_block (Below.heap_setCell w p v b (by omega))
    exact .inr ⟨b, off, rfl, Nat.lt_of_lt_of_le hb (Below.setCell (Below.refl 0 w) (Nat.zero_le _) v).size, hx, hy, fun j x hj => (e _).trans (hc j x hj)⟩
theorem S2.on {w w' : World} {X Y D : Nat} {A : Option Addr} {l : List Int} (h : S2 w X Y A l) (hb : Below D w w') (hD : w.heap.size ≤ D) : S2 w' X Y A l := by
  rcases h with rfl | ⟨b, off, rfl, hb', hx, hy, hc⟩
  · exact .inl rfl
  · exact .inr ⟨b, off, rfl, Nat.lt_of_lt_of_le hb' hb.size, hx, hy, fun j x hj => (hb.cell (p := ⟨b, off + j, none⟩) (by show b < D; omega)).trans (hc j x hj)⟩
/-- The second block is a new one. -/
theorem S2.new {w w' : World} {X Y Y' : Nat} {A : Option Addr} {l : List Int} (h : S2 w X Y A l) (hb : Below w.heap.size w w') (hY : w.heap.size ≤ Y') : S2 w' X Y' A l := by
  rcases h with rfl | ⟨b, off, rfl, hb', hx, hy, hc⟩
  · exact .inl rfl
  · exact .inr ⟨b, off, rfl, Nat.lt_of_lt_of_le hb' hb.size, hx, by omega, fun j x hj => (hb.cell (p := ⟨b, off + j, none⟩) hb').trans (hc j x hj)⟩
theorem S2.one {w : World} {X Y : Nat} {A : Option Addr} {l : List Int} (h : S2 w X Y A l) : S2 w X X A l := by
  rcases h with rfl | ⟨b, off, rfl, hb', hx, hy, hc⟩
  · exact .inl rfl
  · exact .inr ⟨b, off, rfl, hb', hx, hx, hc⟩
/-- A new row, and a box that is newer. -/
theorem fr_s2a {w w' : World} {D X : Nat} {A : Option Addr} {l : List Int} (h : Fr w D A l) (hX : X < D) (hb : Below w.heap.size w w') : S2 w' X w.heap.size A l := by
  rcases h with rfl | ⟨g, rfl, h1, hg, hc⟩
  · exact .inl rfl
  · exact .inr ⟨g, 0, rfl, Nat.lt_of_lt_of_le hg hb.size, by omega, by omega, fun j x hj => by rw [Nat.zero_add]; exact (hb.cell (p := ⟨g, j, none⟩) hg).trans (hc j x hj)⟩
/-- A new row, and boxes that are older. -/
theorem fr_s2b {w : World} {D X Y : Nat} {A : Option Addr} {l : List Int} (h : Fr w D A l) (hX : X < D) (hY : Y < D) : S2 w X Y A l := by
  rcases h with rfl | ⟨g, rfl, h1, hg, hc⟩
  · exact .inl rfl
  · exact .inr ⟨g, 0, rfl, hg, by omega, by omega, fun j x hj => by rw [Nat.zero_add]; exact hc j x hj⟩
/-- A new row, and a box that is laid behind it. -/
theorem fr_s2n {w : World} {D : Nat} {A : Option Addr} {l : List Int} (h : Fr w D A l) (o : Obj) : S2 (w.alloc o) w.heap.size w.heap.size A l := by
  rcases h with rfl | ⟨g, rfl, h1, hg, hc⟩
  · exact .inl rfl
  · have hb : Below w.heap.size w (w.alloc o) := (Below.refl _ _).alloc (Nat.le_refl _) _
    exact .inr ⟨g, 0, rfl, Nat.lt_of_lt_of_le hg hb.size, by omega, by omega, fun j x hj => by rw [Nat.zero_add]; exact (hb.cell (p := ⟨g, j, none⟩) hg).trans (hc j x hj)⟩

/-- The channel as it stands, in the box X. -/
def S8 (w W : World) (X : Nat) (a0 a1 : Int) (A : Option Addr) (c : Nat) (l : List Int) : Prop := w.heap.size ≤ X ∧ Cx W X a0 a1 A l.length c ∧ l.length ≤ c ∧ S2 W X X A l ∧ mb a0 a1 l = true ∧ Below w.heap.size w W
/-- The same, and what a call gave, in the box Y: where it gave no error, it is a channel of the same number and owner that may be. -/
structure Ow (w W : World) (X Y : Nat) (a0 a1 : Int) (A : Option Addr) (c : Nat) (l : List Int) (i o : Int) (A1 : Option Addr) (c1 : Nat) (l1 : List Int) (e : Int) : Prop where
  lx : w.heap.size ≤ X
  ly : w.heap.size ≤ Y
  xy : X < Y
  cx : Cx W X a0 a1 A l.length c
  cy : Cx W Y i o A1 l1.length c1
  sx : S2 W X Y A l
  sy : S2 W X Y A1 l1
  hc : l.length ≤ c
  hc1 : l1.length ≤ c1
  hm : mb a0 a1 l = true
  he : e = 0 → i = a0 ∧ o = a1 ∧ mb a0 a1 l1 = true
  hb : Below w.heap.size w W
theorem ow_mk {w W W' : World} {X Y : Nat} {a0 a1 i o e : Int} {A A1 : Option Addr} {c c1 : Nat} {l l1 : List Int} (h : S8 w W X a0 a1 A c l) (h1 : Below W.heap.size W W') (hx : Cx W' Y i o A1 l1.length c1) (hy : W.heap.size ≤ Y) (hf : S2 W' X Y A1 l1) (hc1 : l1.length ≤ c1) (he : e = 0 → i = a0 ∧ o = a1 ∧ mb a0 a1 l1 = true) :
    Ow w W' X Y a0 a1 A c l i o A1 c1 l1 e := by
  obtain ⟨g0, g1, g2, g3, g4, g5⟩ := h
  have g6 := g5.size
  have g7 := g1.lt
  exact ⟨g0, by omega, by omega, g1.on h1 g7, hx, g3.new h1 hy, hf, g2, hc1, g4, he, g5.trans (h1.mono g6)⟩
theorem Ow.leave {w W W' : World} {X Y : Nat} {a0 a1 i o e : Int} {A A1 : Option Addr} {c c1 : Nat} {l l1 : List Int} {i2 o2 e2 : Int} {A2 : Option Addr} {c2 : Nat} {l2 : List Int} (h : Ow w W X Y a0 a1 A c l i o A1 c1 l1 e) (h1 : Below W.heap.size W W') (hf : Fr W' W.heap.size A2 l2) (hc2 : l2.length ≤ c2) (he : e2 = 0 → i2 = a0 ∧ o2 = a1 ∧ mb a0 a1 l2 = true) :
    Ow w (((W'.setCell ⟨Y, 0, none⟩ (.int .i64 i2)).setCell ⟨Y, 1, none⟩ (.int .i64 o2)).setCell ⟨Y, 2, none⟩ (.slice A2 l2.length c2)) X Y a0 a1 A c l i2 o2 A2 c2 l2 e2 := by
  have g1 := h.cx.lt
  have g2 := h.cy.lt
  have g3 := h.hb.size
  have hX := h.cx.on h1 g1
  have hY := h.cy.on h1 g2
  have hS := h.sx.on h1 (Nat.le_refl _)
  have n0 : X ≠ (⟨Y, 0, none⟩ : Addr).block := Nat.ne_of_lt h.xy
  have n1 : X ≠ (⟨Y, 1, none⟩ : Addr).block := Nat.ne_of_lt h.xy
  have n2 : X ≠ (⟨Y, 2, none⟩ : Addr).block := Nat.ne_of_lt h.xy
  refine ⟨h.lx, h.ly, h.xy, ((hX.other n0 _).other n1 _).other n2 _, hY.put i2 o2 A2 l2.length c2, ((hS.set _ (.inr rfl) _).set _ (.inr rfl) _).set _ (.inr rfl) _, ?_, h.hc, hc2, h.hm, he, put_below _ (h.hb.trans (h1.mono g3)) h.ly _ _ _⟩
  exact (((fr_s2b hf g1 g2).set _ (.inr rfl) _).set _ (.inr rfl) _).set _ (.inr rfl) _
theorem Ow.keep {w W : World} {X Y : Nat} {a0 a1 i o e : Int} {A A1 : Option Addr} {c c1 : Nat} {l l1 : List Int} (h : Ow w W X Y a0 a1 A c l i o A1 c1 l1 e) : S8 w W X a0 a1 A c l := ⟨h.lx, h.cx, h.hc, h.sx.one, h.hm, h.hb⟩
theorem Ow.take {w W : World} {X Y : Nat} {a0 a1 i o e : Int} {A A1 : Option Addr} {c c1 : Nat} {l l1 : List Int} (h : Ow w W X Y a0 a1 A c l i o A1 c1 l1 e) (he : e = 0) :
    S8 w (((W.setCell ⟨X, 0, none⟩ (.int .i64 a0)).setCell ⟨X, 1, none⟩ (.int .i64 a1)).setCell ⟨X, 2, none⟩ (.slice A1 l1.length c1)) X a0 a1 A1 c1 l1 :=
  ⟨h.lx, h.cx.put a0 a1 A1 l1.length c1, h.hc1, (((h.sy.one.set _ (.inl rfl) _).set _ (.inl rfl) _).set _ (.inl rfl) _), (h.he he).2.2, put_below _ h.hb h.lx _ _ _⟩
theorem S8.on {w W W' : World} {X : Nat} {a0 a1 : Int} {A : Option Addr} {c : Nat} {l : List Int} (h : S8 w W X a0 a1 A c l) (hb : Below W.heap.size W W') : S8 w W' X a0 a1 A c l :=
  ⟨h.1, h.2.1.on hb h.2.1.lt, h.2.2.1, h.2.2.2.1.on hb (Nat.le_refl _), h.2.2.2.2.1, h.2.2.2.2.2.trans (hb.mono h.2.2.2.2.2.size)⟩
theorem join_keeps {a0 a1 n : Int} {l : List Int} : ((joins ⟨a0, a1, l⟩ n).2 : Int) = 0 → (joins ⟨a0, a1, l⟩ n).1.id = a0 ∧ (joins ⟨a0, a1, l⟩ n).1.ow = a1 ∧ mb a0 a1 (joins ⟨a0, a1, l⟩ n).1.l = true := fun h => by
  rcases hj : joins ⟨a0, a1, l⟩ n with ⟨x, e⟩
  rw [hj] at h
  have h0 : e = 0 := by have : (e : Int) = 0 := h; omega
  subst h0
  obtain ⟨-, -, -, -, rfl, f⟩ := joins_may hj
  exact ⟨rfl, rfl, mb_iff.2 f⟩
theorem leave_keeps {a0 a1 n : Int} {l : List Int} : ((leaves ⟨a0, a1, l⟩ n).2 : Int) = 0 → (leaves ⟨a0, a1, l⟩ n).1.id = a0 ∧ (leaves ⟨a0, a1, l⟩ n).1.ow = a1 ∧ mb a0 a1 (leaves ⟨a0, a1, l⟩ n).1.l = true := fun h => by
  rcases hj : leaves ⟨a0, a1, l⟩ n with ⟨x, e⟩
  rw [hj] at h
  have h0 : e = 0 := by have : (e : Int) = 0 := h; omega
  subst h0
  obtain ⟨-, -, -, rfl, f⟩ := leaves_may hj
  exact ⟨rfl, rfl, mb_iff.2 f⟩
end Go.Proofs.Ytpelopfbdfnmeaa
