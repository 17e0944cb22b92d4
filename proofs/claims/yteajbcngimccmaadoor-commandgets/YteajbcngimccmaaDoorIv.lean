/-
  Words for the walk of the document's Get of a command. No conditions.
-/
import Derived.Test.YteajbcngimccmaaDoorGet4
import Derived.Test.YteajbcngimccmaaDoorRnums
import Derived.Test.YteajbcngimccmaaDoorRmay
namespace Go.Proofs.YteajbcngimccmaaDoor
open Go.RowKit
set_option linter.unusedVariables false

theorem run_res17 {V : World} {tm : Array Value} {B : Nat} {u s k h n : Int} {t : ByteArray} {x : Value} (h2 : tm[2]?.getD undef = .pointer (some ⟨B, 0, none⟩)) (h3 : tm[3]?.getD undef = x) (hb : Cb V B u s k h n t) :
    (results Tryd.f17 tm).run Tryd.prog V = .ok (.tuple #[cv u s k h n t, x]) V := by
  obtain ⟨c0, c1, c2, c3, c4, c5⟩ := hb
  simp [results, Tryd.results17, h2, h3, go_sem, c0, c1, c2, c3, c4, c5]

theorem Bx.on {w w' : World} {B : Nat} {u s k h n : Int} {t : ByteArray} (hb : Bx w B u s k h n t) (hw : Below w.heap.size w w') : Bx w' B u s k h n t := (hw.block B hb.lt).trans hb

/-- How the document's Get stands ahead of its command: its result, its nought. -/
def Jv (w W : World) : Prop := Bx W w.heap.size 0 0 0 0 0 { data := #[] } ∧ Bx W (w.heap.size + 1) 0 0 0 0 0 { data := #[] } ∧ Below w.heap.size w W
theorem Jv.on {w W W' : World} (i : Jv w W) (h : Below W.heap.size W W') : Jv w W' := ⟨i.1.on h, i.2.1.on h, i.2.2.trans (h.mono i.2.2.size)⟩
/-- .. behind it: its command is block X. -/
def Iv (w W : World) (X : Nat) (u s k h n : Int) (t : ByteArray) : Prop := Jv w W ∧ Bx W X u s k h n t ∧ w.heap.size + 1 < X
theorem Iv.on {w W W' : World} {X : Nat} {u s k h n : Int} {t : ByteArray} (i : Iv w W X u s k h n t) (hb : Below W.heap.size W W') : Iv w W' X u s k h n t := ⟨i.1.on hb, i.2.1.on hb, i.2.2⟩
theorem Jv.start (w : World) : Jv w ((w.alloc (.cells #[.int .i64 0, .int .i64 0, .int .i64 0, .int .i64 0, .int .i64 0, .string { data := #[] }] 23)).alloc (.cells #[.int .i64 0, .int .i64 0, .int .i64 0, .int .i64 0, .int .i64 0, .string { data := #[] }] 23)) := by
  have h1 : (w.alloc (.cells #[.int .i64 0, .int .i64 0, .int .i64 0, .int .i64 0, .int .i64 0, .string { data := #[] }] 23)).heap.size = w.heap.size + 1 := by simp
  have b1 := bx_new (w.alloc (.cells #[.int .i64 0, .int .i64 0, .int .i64 0, .int .i64 0, .int .i64 0, .string { data := #[] }] 23)) 0 0 0 0 0 { data := #[] }
  rw [h1] at b1
  exact ⟨(bx_new w 0 0 0 0 0 { data := #[] }).old _, b1, ((Below.refl _ _).alloc (Nat.le_refl _) _).alloc (by omega) _⟩
theorem Jv.lt {w W : World} (i : Jv w W) : w.heap.size + 1 < W.heap.size := i.2.1.lt
theorem Jv.cmd {w W : World} (i : Jv w W) (k : Int) : Iv w (W.alloc (.cells #[.int .i64 0, .int .i64 0, .int .i64 k, .int .i64 0, .int .i64 0, .string { data := #[] }] 23)) W.heap.size 0 0 k 0 0 { data := #[] } :=
  ⟨⟨i.1.old _, i.2.1.old _, i.2.2.alloc i.2.2.size _⟩, bx_new W 0 0 k 0 0 { data := #[] }, i.lt⟩
theorem Jv.set {w W : World} (i : Jv w W) {p : Addr} (hp : w.heap.size + 1 < p.block) (v : Value) : Jv w (W.setCell p v) := ⟨i.1.other (by omega) v, i.2.1.other (by omega) v, i.2.2.setCell (by omega) v⟩
theorem Iv.set3 {w W : World} {X : Nat} {u s k h n : Int} {t : ByteArray} (i : Iv w W X u s k h n t) (u' s' h' : Int) : Iv w (((W.setCell ⟨X, 0, none⟩ (.int .i64 u')).setCell ⟨X, 1, none⟩ (.int .i64 s')).setCell ⟨X, 3, none⟩ (.int .i64 h')) X u' s' k h' n t :=
  ⟨((i.1.set i.2.2 _).set i.2.2 _).set i.2.2 _, heap_setCell_same _ _ 3 _ 23 _ (heap_setCell_same _ _ 1 _ 23 _ (heap_setCell_same W _ 0 _ 23 _ i.2.1)), i.2.2⟩
theorem Iv.setn {w W : World} {X : Nat} {u s k h n : Int} {t : ByteArray} (i : Iv w W X u s k h n t) (n' : Int) : Iv w (W.setCell ⟨X, 4, none⟩ (.int .i64 n')) X u s k h n' t := ⟨i.1.set i.2.2 _, heap_setCell_same W _ 4 _ 23 _ i.2.1, i.2.2⟩
theorem Iv.sett {w W : World} {X : Nat} {u s k h n : Int} {t : ByteArray} (i : Iv w W X u s k h n t) (t' : ByteArray) : Iv w (W.setCell ⟨X, 5, none⟩ (.string t')) X u s k h n t' := ⟨i.1.set i.2.2 _, heap_setCell_same W _ 5 _ 23 _ i.2.1, i.2.2⟩

theorem set3_on {W : World} {X D : Nat} (hD : D ≤ X) (u v x : Value) : Below D W (((W.setCell ⟨X, 0, none⟩ u).setCell ⟨X, 1, none⟩ v).setCell ⟨X, 3, none⟩ x) := (((Below.refl D W).setCell hD _).setCell hD _).setCell hD _
theorem set1_on {W : World} {X D : Nat} (o : Nat) (hD : D ≤ X) (u : Value) : Below D W (W.setCell ⟨X, o, none⟩ u) := (Below.refl D W).setCell hD _

theorem row_at {w : World} {base : Nat} {v : Value} {x : Int} {xs : List Int} (h : w.ownsRow base 3 1 v (x :: xs).length ((x :: xs).map (Value.int .i64))) :
    ∃ g cap, v = .slice (some ⟨g, 0, none⟩) (x :: xs).length cap ∧ base ≤ g ∧ ∀ j y, (x :: xs)[j]? = some y → w.cell? ⟨g, j, none⟩ = some (.int .i64 y) := by
  rcases h.2 with ⟨_, h0⟩ | ⟨g, cap, cur, rfl, hg, hh, hnc, hcp, hcs, htake⟩
  · simp at h0
  · refine ⟨g, cap, rfl, hg, fun j y hy => ?_⟩
    have hj : j < (x :: xs).length := (List.getElem?_eq_some_iff.1 hy).1
    rw [h.cellAt j (by omega), List.getElem?_map, hy]
    rfl

end Go.Proofs.YteajbcngimccmaaDoor
