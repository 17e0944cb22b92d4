/-
  The walk of the reader's 'command': what the bytes say, whether or not it may be ('cst'). Conditions: the reader is a block of its own, behind the table of what kinds need, which reads as its initialiser lays it; the bytes are bytes, fewer than 2^62.
-/
import Derived.Test.YteajbcngimccmaaDoorRd
namespace Go.Proofs.YteajbcngimccmaaDoor
open Go.RowKit
set_option linter.unusedVariables false

/-- Block B is a command. -/
def Bx (w : World) (B : Nat) (u s k h n : Int) (t : ByteArray) : Prop := w.heap[B]? = some (.cells #[.int .i64 u, .int .i64 s, .int .i64 k, .int .i64 h, .int .i64 n, .string t] 23 (0, 0))
theorem Bx.cb {w : World} {B : Nat} {u s k h n : Int} {t : ByteArray} (hb : Bx w B u s k h n t) : Cb w B u s k h n t :=
  ⟨by rw [cell_of_row w B 0 _ 23 _ hb]; rfl, by rw [cell_of_row w B 1 _ 23 _ hb]; rfl, by rw [cell_of_row w B 2 _ 23 _ hb]; rfl, by rw [cell_of_row w B 3 _ 23 _ hb]; rfl, by rw [cell_of_row w B 4 _ 23 _ hb]; rfl, by rw [cell_of_row w B 5 _ 23 _ hb]; rfl⟩
theorem Bx.free {w : World} {B : Nat} {u s k h n : Int} {t : ByteArray} (hb : Bx w B u s k h n t) (i : Nat) : w.frozen? ⟨B, i, none⟩ = false := Lib.frozen_of_heap hb i
theorem Bx.lt {w : World} {B : Nat} {u s k h n : Int} {t : ByteArray} (hb : Bx w B u s k h n t) : B < w.heap.size := lt_of_block hb
theorem bx_new (w : World) (u s k h n : Int) (t : ByteArray) : Bx (w.alloc (.cells #[.int .i64 u, .int .i64 s, .int .i64 k, .int .i64 h, .int .i64 n, .string t] 23)) w.heap.size u s k h n t := heap_alloc_new w _
theorem Bx.old {w : World} {B : Nat} {u s k h n : Int} {t : ByteArray} (hb : Bx w B u s k h n t) (o : Obj) : Bx (w.alloc o) B u s k h n t := (heap_alloc_old w o hb.lt).trans hb
theorem Bx.only {w w' : World} {R B : Nat} {u s k h n : Int} {t : ByteArray} (hb : Bx w B u s k h n t) (ho : Only R w w') (hne : B ≠ R) : Bx w' B u s k h n t := (ho.2.2 B hne).trans hb
theorem Bx.other {w : World} {B : Nat} {u s k h n : Int} {t : ByteArray} (hb : Bx w B u s k h n t) {p : Addr} (hne : B ≠ p.block) (v : Value) : Bx (w.setCell p v) B u s k h n t := (Below.heap_setCell w p v B hne).trans hb

theorem Rd.other {w : World} {R : Nat} {l : List Int} {e : Int} (h : Rd w R l e) {p : Addr} (hp : R < p.block) (v : Value) : Rd (w.setCell p v) R l e := by
  obtain ⟨A, c, hh, hs, hc⟩ := h
  exact ⟨A, c, (Below.heap_setCell w p v R (by omega)).trans hh, hs.below ((Below.refl R w).setCell (by omega) _), hc⟩
theorem Rd.alloc {w : World} {R : Nat} {l : List Int} {e : Int} (h : Rd w R l e) (o : Obj) : Rd (w.alloc o) R l e := by
  obtain ⟨A, c, hh, hs, hc⟩ := h
  have hlt := lt_of_block hh
  exact ⟨A, c, (heap_alloc_old w o hlt).trans hh, hs.below ((Below.refl R w).alloc (by omega) _), hc⟩

/-- How 'command' stands: its result's block, its command's, the reader's. -/
def In (w W : World) (R : Nat) (u s k h n : Int) (t : ByteArray) (l : List Int) (e : Int) : Prop :=
  Bx W w.heap.size 0 0 0 0 0 { data := #[] } ∧ Bx W (w.heap.size + 1) u s k h n t ∧ Rd W R l e ∧ Nd W ∧ Below R w W ∧ W.heap.size = w.heap.size + 2 ∧ R < w.heap.size ∧ 0 < R
theorem In.call {w W W' : World} {R : Nat} {u s k h n : Int} {t : ByteArray} {l l' : List Int} {e e' : Int} (i : In w W R u s k h n t l e) (hr : Rd W' R l' e') (ho : Only R W W') : In w W' R u s k h n t l' e' := by
  obtain ⟨i1, i2, i3, i4, i5, i6, i7, i8⟩ := i
  exact ⟨i1.only ho (by omega), i2.only ho (by omega), hr, i4.below ho.1 i8, i5.trans ho.1, ho.2.1.trans i6, i7, i8⟩
theorem In.set_u {w W : World} {R : Nat} {u s k h n : Int} {t : ByteArray} {l : List Int} {e : Int} (i : In w W R u s k h n t l e) (x : Int) : In w (W.setCell ⟨w.heap.size + 1, 0, none⟩ (.int .i64 x)) R x s k h n t l e := by
  obtain ⟨i1, i2, i3, i4, i5, i6, i7, i8⟩ := i
  have hb : Below R W (W.setCell ⟨w.heap.size + 1, 0, none⟩ (.int .i64 x)) := (Below.refl R W).setCell (by show R ≤ w.heap.size + 1; omega) _
  exact ⟨i1.other (by show w.heap.size ≠ w.heap.size + 1; omega) _, heap_setCell_same W _ 0 _ 23 _ i2, i3.other (by show R < w.heap.size + 1; omega) _, i4.below hb i8, i5.trans hb, by simp [i6], i7, i8⟩
theorem In.set_s {w W : World} {R : Nat} {u s k h n : Int} {t : ByteArray} {l : List Int} {e : Int} (i : In w W R u s k h n t l e) (x : Int) : In w (W.setCell ⟨w.heap.size + 1, 1, none⟩ (.int .i64 x)) R u x k h n t l e := by
  obtain ⟨i1, i2, i3, i4, i5, i6, i7, i8⟩ := i
  have hb : Below R W (W.setCell ⟨w.heap.size + 1, 1, none⟩ (.int .i64 x)) := (Below.refl R W).setCell (by show R ≤ w.heap.size + 1; omega) _
  exact ⟨i1.other (by show w.heap.size ≠ w.heap.size + 1; omega) _, heap_setCell_same W _ 1 _ 23 _ i2, i3.other (by show R < w.heap.size + 1; omega) _, i4.below hb i8, i5.trans hb, by simp [i6], i7, i8⟩
theorem In.set_h {w W : World} {R : Nat} {u s k h n : Int} {t : ByteArray} {l : List Int} {e : Int} (i : In w W R u s k h n t l e) (x : Int) : In w (W.setCell ⟨w.heap.size + 1, 3, none⟩ (.int .i64 x)) R u s k x n t l e := by
  obtain ⟨i1, i2, i3, i4, i5, i6, i7, i8⟩ := i
  have hb : Below R W (W.setCell ⟨w.heap.size + 1, 3, none⟩ (.int .i64 x)) := (Below.refl R W).setCell (by show R ≤ w.heap.size + 1; omega) _
  exact ⟨i1.other (by show w.heap.size ≠ w.heap.size + 1; omega) _, heap_setCell_same W _ 3 _ 23 _ i2, i3.other (by show R < w.heap.size + 1; omega) _, i4.below hb i8, i5.trans hb, by simp [i6], i7, i8⟩
theorem In.set_n {w W : World} {R : Nat} {u s k h n : Int} {t : ByteArray} {l : List Int} {e : Int} (i : In w W R u s k h n t l e) (x : Int) : In w (W.setCell ⟨w.heap.size + 1, 4, none⟩ (.int .i64 x)) R u s k h x t l e := by
  obtain ⟨i1, i2, i3, i4, i5, i6, i7, i8⟩ := i
  have hb : Below R W (W.setCell ⟨w.heap.size + 1, 4, none⟩ (.int .i64 x)) := (Below.refl R W).setCell (by show R ≤ w.heap.size + 1; omega) _
  exact ⟨i1.other (by show w.heap.size ≠ w.heap.size + 1; omega) _, heap_setCell_same W _ 4 _ 23 _ i2, i3.other (by show R < w.heap.size + 1; omega) _, i4.below hb i8, i5.trans hb, by simp [i6], i7, i8⟩
theorem In.set_t {w W : World} {R : Nat} {u s k h n : Int} {t : ByteArray} {l : List Int} {e : Int} (i : In w W R u s k h n t l e) (x : ByteArray) : In w (W.setCell ⟨w.heap.size + 1, 5, none⟩ (.string x)) R u s k h n x l e := by
  obtain ⟨i1, i2, i3, i4, i5, i6, i7, i8⟩ := i
  have hb : Below R W (W.setCell ⟨w.heap.size + 1, 5, none⟩ (.string x)) := (Below.refl R W).setCell (by show R ≤ w.heap.size + 1; omega) _
  exact ⟨i1.other (by show w.heap.size ≠ w.heap.size + 1; omega) _, heap_setCell_same W _ 5 _ 23 _ i2, i3.other (by show R < w.heap.size + 1; omega) _, i4.below hb i8, i5.trans hb, by simp [i6], i7, i8⟩
theorem In.start {w w1 : World} {R : Nat} {l' : List Int} {e' : Int} (k : Int) (hN : Nd w) (hR : R < w.heap.size) (h0 : 0 < R)
    (ho : Only R (w.alloc (.cells #[.int .i64 0, .int .i64 0, .int .i64 0, .int .i64 0, .int .i64 0, .string { data := #[] }] 23)) w1) (hr : Rd w1 R l' e') :
    In w (w1.alloc (.cells #[.int .i64 0, .int .i64 0, .int .i64 k, .int .i64 0, .int .i64 0, .string { data := #[] }] 23)) R 0 0 k 0 0 { data := #[] } l' e' := by
  have b0 := (bx_new w 0 0 0 0 0 { data := #[] }).only ho (by omega)
  have z1 : w1.heap.size = w.heap.size + 1 := ho.2.1.trans (by simp)
  have b1 := bx_new w1 0 0 k 0 0 { data := #[] }
  rw [z1] at b1
  have q : Below R w w1 := ((Below.refl R w).alloc (by omega) _).trans ho.1
  have q' : Below R w (w1.alloc (.cells #[.int .i64 0, .int .i64 0, .int .i64 k, .int .i64 0, .int .i64 0, .string { data := #[] }] 23)) := q.alloc (by omega) _
  exact ⟨b0.old _, b1, hr.alloc _, hN.below q' h0, q', by simp [z1], hR, h0⟩

theorem run_res26 {V : World} {tm : Array Value} {B : Nat} {u s k h n : Int} {t : ByteArray} (h2 : tm[2]?.getD undef = .pointer (some ⟨B, 0, none⟩)) (hb : Cb V B u s k h n t) :
    (results Tryd.f26 tm).run Tryd.prog V = .ok (cv u s k h n t) V := by
  obtain ⟨c0, c1, c2, c3, c4, c5⟩ := hb
  simp [results, Tryd.results26, h2, go_sem, c0, c1, c2, c3, c4, c5]

/-- What 'command' leaves. -/
def CPost (w : World) (R : Nat) (v : Value) (l : List Int) (e' : Int) (e : Ending) (w' : World) : Prop := e = .returned v ∧ Rd w' R l e' ∧ Below R w w'

theorem In.done {w W : World} {R : Nat} {u s k h n : Int} {t : ByteArray} {l : List Int} {e : Int} (i : In w W R u s k h n t l e) :
    ∃ W', ((((((W.setCell ⟨w.heap.size, 0, none⟩ (.int .i64 u)).setCell ⟨w.heap.size, 1, none⟩ (.int .i64 s)).setCell ⟨w.heap.size, 2, none⟩ (.int .i64 k)).setCell ⟨w.heap.size, 3, none⟩ (.int .i64 h)).setCell ⟨w.heap.size, 4, none⟩ (.int .i64 n)).setCell ⟨w.heap.size, 5, none⟩ (.string t)) = W' ∧
      Cb W' w.heap.size u s k h n t ∧ Rd W' R l e ∧ Below R w W' := by
  obtain ⟨i1, i2, i3, i4, i5, i6, i7, i8⟩ := i
  refine ⟨_, rfl, ?_, ?_, ?_⟩
  · exact Bx.cb (heap_setCell_same _ _ 5 _ 23 _ (heap_setCell_same _ _ 4 _ 23 _ (heap_setCell_same _ _ 3 _ 23 _ (heap_setCell_same _ _ 2 _ 23 _ (heap_setCell_same _ _ 1 _ 23 _ (heap_setCell_same W _ 0 _ 23 _ i1))))))
  · exact (((((i3.other i7 _).other i7 _).other i7 _).other i7 _).other i7 _).other i7 _
  · have : R ≤ w.heap.size := by omega
    exact (((((i5.setCell this _).setCell this _).setCell this _).setCell this _).setCell this _).setCell this _

set_option maxHeartbeats 1000000 in
theorem cmd_nop (R : Nat) (w : World) (hN : Nd w) (hR : R < w.heap.size) (h0 : 0 < R) (l0 l1 : List Int) (e0 e1 : Int) (hr0 : Rd w R l0 e0)
    (HK : ∀ W, Rd W R l0 e0 → Hid (Calls Tryd.prog 32 #[.pointer (some ⟨R, 0, none⟩)] W (RPost W R (.int .i64 0) l1 e1))) : Calls Tryd.prog 26 #[.pointer (some ⟨R, 0, none⟩)] w (CPost w R (cv 0 0 0 0 0 { data := #[] }) l1 e1) := by
  go_enter Tryd.func26, Tryd.ntmps26
  go_wp2_with fail
  refine (HK _ (hr0.alloc _)).out.mono ?_
  rintro e w1 ⟨rfl, HR, HO⟩
  have z1 : w1.heap.size = w.heap.size + 1 := HO.2.1.trans (by simp)
  have HR1 := Lib.hid HR
  have HB : Hid (Below R w w1) := ((Below.refl R w).alloc (by omega) _).trans HO.1
  have i1 := (bx_new w 0 0 0 0 0 { data := #[] }).only HO (by omega)
  obtain ⟨d0, d1, d2, d3, d4, d5⟩ := i1.cb
  have g0 := i1.free 0
  have g1 := i1.free 1
  have g2 := i1.free 2
  have g3 := i1.free 3
  have g4 := i1.free 4
  have g5 := i1.free 5
  have zz : w.heap.size < w1.heap.size := by omega
  clear HR HO
  go_wp2
  try simp only [Exit.inBlock, Exit.then]
  have B9 : Bx ((((((w1.setCell ⟨w.heap.size, 0, none⟩ (.int .i64 0)).setCell ⟨w.heap.size, 1, none⟩ (.int .i64 0)).setCell ⟨w.heap.size, 2, none⟩ (.int .i64 0)).setCell ⟨w.heap.size, 3, none⟩ (.int .i64 0)).setCell ⟨w.heap.size, 4, none⟩ (.int .i64 0)).setCell ⟨w.heap.size, 5, none⟩ (.string { data := #[] })) w.heap.size 0 0 0 0 0 { data := #[] } :=
    heap_setCell_same _ _ 5 _ 23 _ (heap_setCell_same _ _ 4 _ 23 _ (heap_setCell_same _ _ 3 _ 23 _ (heap_setCell_same _ _ 2 _ 23 _ (heap_setCell_same _ _ 1 _ 23 _ (heap_setCell_same w1 _ 0 _ 23 _ i1)))))
  have this : R ≤ w.heap.size := by omega
  have r9 := ((((((HR1.out.other (p := ⟨w.heap.size, 0, none⟩) hR (.int .i64 0)).other (p := ⟨w.heap.size, 1, none⟩) hR (.int .i64 0)).other (p := ⟨w.heap.size, 2, none⟩) hR (.int .i64 0)).other (p := ⟨w.heap.size, 3, none⟩) hR (.int .i64 0)).other (p := ⟨w.heap.size, 4, none⟩) hR (.int .i64 0)).other (p := ⟨w.heap.size, 5, none⟩) hR (.string { data := #[] }))
  have b9 := ((((((HB.out.setCell (p := ⟨w.heap.size, 0, none⟩) this (.int .i64 0)).setCell (p := ⟨w.heap.size, 1, none⟩) this (.int .i64 0)).setCell (p := ⟨w.heap.size, 2, none⟩) this (.int .i64 0)).setCell (p := ⟨w.heap.size, 3, none⟩) this (.int .i64 0)).setCell (p := ⟨w.heap.size, 4, none⟩) this (.int .i64 0)).setCell (p := ⟨w.heap.size, 5, none⟩) this (.string { data := #[] }))
  generalize ((((((w1.setCell ⟨w.heap.size, 0, none⟩ (.int .i64 0)).setCell ⟨w.heap.size, 1, none⟩ (.int .i64 0)).setCell ⟨w.heap.size, 2, none⟩ (.int .i64 0)).setCell ⟨w.heap.size, 3, none⟩ (.int .i64 0)).setCell ⟨w.heap.size, 4, none⟩ (.int .i64 0)).setCell ⟨w.heap.size, 5, none⟩ (.string { data := #[] })) = X9 at *
  exact bodyPost_ret (run_res26 (B := w.heap.size) rfl (B9.old _).cb) rfl ⟨rfl, r9.alloc _, b9.alloc (by have := B9.lt; omega) _⟩

set_option maxHeartbeats 1000000 in
theorem cmd_ft (R : Nat) (w : World) (hN : Nd w) (hR : R < w.heap.size) (h0 : 0 < R) (j : Nat) (hj : j < 8) (hk : ((j : Int) == 0) = false) (hq : ndN j = false) (hr : ndT j = true) (l0 l1 l2 l3 l4 l5 l6 l7 : List Int) (e0 e1 e2 e3 e4 e5 e6 e7 u s h n m : Int) (x : List Int) (hr0 : Rd w R l0 e0)
    (HK : ∀ W, Rd W R l0 e0 → Hid (Calls Tryd.prog 32 #[.pointer (some ⟨R, 0, none⟩)] W (RPost W R (.int .i64 j) l1 e1)))
    (HU : ∀ W, Rd W R l1 e1 → Hid (Calls Tryd.prog 33 #[.pointer (some ⟨R, 0, none⟩)] W (RPost W R (.int .i64 u) l2 e2)))
    (HS : ∀ W, Rd W R l2 e2 → Hid (Calls Tryd.prog 33 #[.pointer (some ⟨R, 0, none⟩)] W (RPost W R (.int .i64 s) l3 e3)))
    (HC : ∀ W, Rd W R l3 e3 → Hid (Calls Tryd.prog 33 #[.pointer (some ⟨R, 0, none⟩)] W (RPost W R (.int .i64 h) l4 e4)))
    (HM : ∀ W, Rd W R l4 e4 → Hid (Calls Tryd.prog 33 #[.pointer (some ⟨R, 0, none⟩)] W (RPost W R (.int .i64 m) l5 e5)))
    (HT : ∀ W, Rd W R l5 e5 → Hid (Calls Tryd.prog 34 #[.pointer (some ⟨R, 0, none⟩), .int .i64 m] W (RPost W R (.string (strOfNums x)) l6 e6)))
    : Calls Tryd.prog 26 #[.pointer (some ⟨R, 0, none⟩)] w (CPost w R (cv u s j h 0 (strOfNums x)) l6 e6) := by
  generalize strOfNums x = tx at *
  go_enter Tryd.func26, Tryd.ntmps26
  go_wp2_with fail
  refine (HK _ (hr0.alloc _)).out.mono ?_
  rintro e w1 ⟨rfl, HR, HO⟩
  have z1 : w1.heap.size = w.heap.size + 1 := HO.2.1.trans (by simp)
  have I := In.start (j : Int) hN hR h0 HO HR
  clear HR HO
  go_wp2_with fail
  generalize w1.alloc (.cells #[.int .i64 0, .int .i64 0, .int .i64 (j : Int), .int .i64 0, .int .i64 0, .string { data := #[] }] 23) = W1 at *
  refine (HU W1 I.2.2.1).out.mono ?_
  rintro e V1 ⟨rfl, HR, HO⟩
  have I := I.call HR HO
  clear HR HO
  obtain ⟨c0, c1, c2, c3, c4, c5⟩ := I.2.1.cb
  have f0 := I.2.1.free 0
  have f1 := I.2.1.free 1
  have f3 := I.2.1.free 3
  have f4 := I.2.1.free 4
  have f5 := I.2.1.free 5
  obtain ⟨n0, n1⟩ := I.2.2.2.1 j hj
  rw [hq] at n0
  rw [hr] at n1
  have zz := I.2.2.2.2.2.1
  go_wp2_with fail
  clear c0 c1 c2 c3 c4 c5 f0 f1 f3 f4 f5 n0 n1 zz
  have I := I.set_u u
  generalize V1.setCell ⟨w.heap.size + 1, 0, none⟩ (.int .i64 u) = W2 at *
  refine (HS W2 I.2.2.1).out.mono ?_
  rintro e V2 ⟨rfl, HR, HO⟩
  have I := I.call HR HO
  clear HR HO
  obtain ⟨c0, c1, c2, c3, c4, c5⟩ := I.2.1.cb
  have f0 := I.2.1.free 0
  have f1 := I.2.1.free 1
  have f3 := I.2.1.free 3
  have f4 := I.2.1.free 4
  have f5 := I.2.1.free 5
  obtain ⟨n0, n1⟩ := I.2.2.2.1 j hj
  rw [hq] at n0
  rw [hr] at n1
  have zz := I.2.2.2.2.2.1
  go_wp2_with fail
  clear c0 c1 c2 c3 c4 c5 f0 f1 f3 f4 f5 n0 n1 zz
  have I := I.set_s s
  generalize V2.setCell ⟨w.heap.size + 1, 1, none⟩ (.int .i64 s) = W3 at *
  refine (HC W3 I.2.2.1).out.mono ?_
  rintro e V3 ⟨rfl, HR, HO⟩
  have I := I.call HR HO
  clear HR HO
  obtain ⟨c0, c1, c2, c3, c4, c5⟩ := I.2.1.cb
  have f0 := I.2.1.free 0
  have f1 := I.2.1.free 1
  have f3 := I.2.1.free 3
  have f4 := I.2.1.free 4
  have f5 := I.2.1.free 5
  obtain ⟨n0, n1⟩ := I.2.2.2.1 j hj
  rw [hq] at n0
  rw [hr] at n1
  have zz := I.2.2.2.2.2.1
  go_wp2_with fail
  clear c0 c1 c2 c3 c4 c5 f0 f1 f3 f4 f5 n0 n1 zz
  have I := I.set_h h
  generalize V3.setCell ⟨w.heap.size + 1, 3, none⟩ (.int .i64 h) = W4 at *
  refine (HM W4 I.2.2.1).out.mono ?_
  rintro e V4 ⟨rfl, HR, HO⟩
  have I := I.call HR HO
  clear HR HO
  obtain ⟨c0, c1, c2, c3, c4, c5⟩ := I.2.1.cb
  have f0 := I.2.1.free 0
  have f1 := I.2.1.free 1
  have f3 := I.2.1.free 3
  have f4 := I.2.1.free 4
  have f5 := I.2.1.free 5
  obtain ⟨n0, n1⟩ := I.2.2.2.1 j hj
  rw [hq] at n0
  rw [hr] at n1
  have zz := I.2.2.2.2.2.1
  go_wp2_with fail
  clear c0 c1 c2 c3 c4 c5 f0 f1 f3 f4 f5 n0 n1 zz
  refine (HT V4 I.2.2.1).out.mono ?_
  rintro e V5 ⟨rfl, HR, HO⟩
  have I := I.call HR HO
  clear HR HO
  obtain ⟨c0, c1, c2, c3, c4, c5⟩ := I.2.1.cb
  have f0 := I.2.1.free 0
  have f1 := I.2.1.free 1
  have f3 := I.2.1.free 3
  have f4 := I.2.1.free 4
  have f5 := I.2.1.free 5
  obtain ⟨n0, n1⟩ := I.2.2.2.1 j hj
  rw [hq] at n0
  rw [hr] at n1
  have zz := I.2.2.2.2.2.1
  obtain ⟨d0, d1, d2, d3, d4, d5⟩ := I.1.cb
  have g0 := I.1.free 0
  have g1 := I.1.free 1
  have g2 := I.1.free 2
  have g3 := I.1.free 3
  have g4 := I.1.free 4
  have g5 := I.1.free 5
  have I := I.set_t tx
  obtain ⟨W9, hW9, k9, r9, b9⟩ := I.done
  go_wp2
  try simp only [Exit.inBlock, Exit.then]
  try rw [hW9]
  exact bodyPost_ret (run_res26 (B := w.heap.size) rfl k9) rfl ⟨rfl, r9, b9⟩

set_option maxHeartbeats 1000000 in
theorem cmd_tt (R : Nat) (w : World) (hN : Nd w) (hR : R < w.heap.size) (h0 : 0 < R) (j : Nat) (hj : j < 8) (hk : ((j : Int) == 0) = false) (hq : ndN j = true) (hr : ndT j = true) (l0 l1 l2 l3 l4 l5 l6 l7 : List Int) (e0 e1 e2 e3 e4 e5 e6 e7 u s h n m : Int) (x : List Int) (hr0 : Rd w R l0 e0)
    (HK : ∀ W, Rd W R l0 e0 → Hid (Calls Tryd.prog 32 #[.pointer (some ⟨R, 0, none⟩)] W (RPost W R (.int .i64 j) l1 e1)))
    (HU : ∀ W, Rd W R l1 e1 → Hid (Calls Tryd.prog 33 #[.pointer (some ⟨R, 0, none⟩)] W (RPost W R (.int .i64 u) l2 e2)))
    (HS : ∀ W, Rd W R l2 e2 → Hid (Calls Tryd.prog 33 #[.pointer (some ⟨R, 0, none⟩)] W (RPost W R (.int .i64 s) l3 e3)))
    (HC : ∀ W, Rd W R l3 e3 → Hid (Calls Tryd.prog 33 #[.pointer (some ⟨R, 0, none⟩)] W (RPost W R (.int .i64 h) l4 e4)))
    (HN : ∀ W, Rd W R l4 e4 → Hid (Calls Tryd.prog 33 #[.pointer (some ⟨R, 0, none⟩)] W (RPost W R (.int .i64 n) l5 e5)))
    (HM : ∀ W, Rd W R l5 e5 → Hid (Calls Tryd.prog 33 #[.pointer (some ⟨R, 0, none⟩)] W (RPost W R (.int .i64 m) l6 e6)))
    (HT : ∀ W, Rd W R l6 e6 → Hid (Calls Tryd.prog 34 #[.pointer (some ⟨R, 0, none⟩), .int .i64 m] W (RPost W R (.string (strOfNums x)) l7 e7)))
    : Calls Tryd.prog 26 #[.pointer (some ⟨R, 0, none⟩)] w (CPost w R (cv u s j h n (strOfNums x)) l7 e7) := by
  generalize strOfNums x = tx at *
  go_enter Tryd.func26, Tryd.ntmps26
  go_wp2_with fail
  refine (HK _ (hr0.alloc _)).out.mono ?_
  rintro e w1 ⟨rfl, HR, HO⟩
  have z1 : w1.heap.size = w.heap.size + 1 := HO.2.1.trans (by simp)
  have I := In.start (j : Int) hN hR h0 HO HR
  clear HR HO
  go_wp2_with fail
  generalize w1.alloc (.cells #[.int .i64 0, .int .i64 0, .int .i64 (j : Int), .int .i64 0, .int .i64 0, .string { data := #[] }] 23) = W1 at *
  refine (HU W1 I.2.2.1).out.mono ?_
  rintro e V1 ⟨rfl, HR, HO⟩
  have I := I.call HR HO
  clear HR HO
  obtain ⟨c0, c1, c2, c3, c4, c5⟩ := I.2.1.cb
  have f0 := I.2.1.free 0
  have f1 := I.2.1.free 1
  have f3 := I.2.1.free 3
  have f4 := I.2.1.free 4
  have f5 := I.2.1.free 5
  obtain ⟨n0, n1⟩ := I.2.2.2.1 j hj
  rw [hq] at n0
  rw [hr] at n1
  have zz := I.2.2.2.2.2.1
  go_wp2_with fail
  clear c0 c1 c2 c3 c4 c5 f0 f1 f3 f4 f5 n0 n1 zz
  have I := I.set_u u
  generalize V1.setCell ⟨w.heap.size + 1, 0, none⟩ (.int .i64 u) = W2 at *
  refine (HS W2 I.2.2.1).out.mono ?_
  rintro e V2 ⟨rfl, HR, HO⟩
  have I := I.call HR HO
  clear HR HO
  obtain ⟨c0, c1, c2, c3, c4, c5⟩ := I.2.1.cb
  have f0 := I.2.1.free 0
  have f1 := I.2.1.free 1
  have f3 := I.2.1.free 3
  have f4 := I.2.1.free 4
  have f5 := I.2.1.free 5
  obtain ⟨n0, n1⟩ := I.2.2.2.1 j hj
  rw [hq] at n0
  rw [hr] at n1
  have zz := I.2.2.2.2.2.1
  go_wp2_with fail
  clear c0 c1 c2 c3 c4 c5 f0 f1 f3 f4 f5 n0 n1 zz
  have I := I.set_s s
  generalize V2.setCell ⟨w.heap.size + 1, 1, none⟩ (.int .i64 s) = W3 at *
  refine (HC W3 I.2.2.1).out.mono ?_
  rintro e V3 ⟨rfl, HR, HO⟩
  have I := I.call HR HO
  clear HR HO
  obtain ⟨c0, c1, c2, c3, c4, c5⟩ := I.2.1.cb
  have f0 := I.2.1.free 0
  have f1 := I.2.1.free 1
  have f3 := I.2.1.free 3
  have f4 := I.2.1.free 4
  have f5 := I.2.1.free 5
  obtain ⟨n0, n1⟩ := I.2.2.2.1 j hj
  rw [hq] at n0
  rw [hr] at n1
  have zz := I.2.2.2.2.2.1
  go_wp2_with fail
  clear c0 c1 c2 c3 c4 c5 f0 f1 f3 f4 f5 n0 n1 zz
  have I := I.set_h h
  generalize V3.setCell ⟨w.heap.size + 1, 3, none⟩ (.int .i64 h) = W4 at *
  refine (HN W4 I.2.2.1).out.mono ?_
  rintro e V4 ⟨rfl, HR, HO⟩
  have I := I.call HR HO
  clear HR HO
  obtain ⟨c0, c1, c2, c3, c4, c5⟩ := I.2.1.cb
  have f0 := I.2.1.free 0
  have f1 := I.2.1.free 1
  have f3 := I.2.1.free 3
  have f4 := I.2.1.free 4
  have f5 := I.2.1.free 5
  obtain ⟨n0, n1⟩ := I.2.2.2.1 j hj
  rw [hq] at n0
  rw [hr] at n1
  have zz := I.2.2.2.2.2.1
  go_wp2_with fail
  clear c0 c1 c2 c3 c4 c5 f0 f1 f3 f4 f5 n0 n1 zz
  have I := I.set_n n
  generalize V4.setCell ⟨w.heap.size + 1, 4, none⟩ (.int .i64 n) = W5 at *
  refine (HM W5 I.2.2.1).out.mono ?_
  rintro e V5 ⟨rfl, HR, HO⟩
  have I := I.call HR HO
  clear HR HO
  obtain ⟨c0, c1, c2, c3, c4, c5⟩ := I.2.1.cb
  have f0 := I.2.1.free 0
  have f1 := I.2.1.free 1
  have f3 := I.2.1.free 3
  have f4 := I.2.1.free 4
  have f5 := I.2.1.free 5
  obtain ⟨n0, n1⟩ := I.2.2.2.1 j hj
  rw [hq] at n0
  rw [hr] at n1
  have zz := I.2.2.2.2.2.1
  go_wp2_with fail
  clear c0 c1 c2 c3 c4 c5 f0 f1 f3 f4 f5 n0 n1 zz
  refine (HT V5 I.2.2.1).out.mono ?_
  rintro e V6 ⟨rfl, HR, HO⟩
  have I := I.call HR HO
  clear HR HO
  obtain ⟨c0, c1, c2, c3, c4, c5⟩ := I.2.1.cb
  have f0 := I.2.1.free 0
  have f1 := I.2.1.free 1
  have f3 := I.2.1.free 3
  have f4 := I.2.1.free 4
  have f5 := I.2.1.free 5
  obtain ⟨n0, n1⟩ := I.2.2.2.1 j hj
  rw [hq] at n0
  rw [hr] at n1
  have zz := I.2.2.2.2.2.1
  obtain ⟨d0, d1, d2, d3, d4, d5⟩ := I.1.cb
  have g0 := I.1.free 0
  have g1 := I.1.free 1
  have g2 := I.1.free 2
  have g3 := I.1.free 3
  have g4 := I.1.free 4
  have g5 := I.1.free 5
  have I := I.set_t tx
  obtain ⟨W9, hW9, k9, r9, b9⟩ := I.done
  go_wp2
  try simp only [Exit.inBlock, Exit.then]
  try rw [hW9]
  exact bodyPost_ret (run_res26 (B := w.heap.size) rfl k9) rfl ⟨rfl, r9, b9⟩

set_option maxHeartbeats 1000000 in
theorem cmd_tf (R : Nat) (w : World) (hN : Nd w) (hR : R < w.heap.size) (h0 : 0 < R) (j : Nat) (hj : j < 8) (hk : ((j : Int) == 0) = false) (hq : ndN j = true) (hr : ndT j = false) (l0 l1 l2 l3 l4 l5 l6 l7 : List Int) (e0 e1 e2 e3 e4 e5 e6 e7 u s h n m : Int) (x : List Int) (hr0 : Rd w R l0 e0)
    (HK : ∀ W, Rd W R l0 e0 → Hid (Calls Tryd.prog 32 #[.pointer (some ⟨R, 0, none⟩)] W (RPost W R (.int .i64 j) l1 e1)))
    (HU : ∀ W, Rd W R l1 e1 → Hid (Calls Tryd.prog 33 #[.pointer (some ⟨R, 0, none⟩)] W (RPost W R (.int .i64 u) l2 e2)))
    (HS : ∀ W, Rd W R l2 e2 → Hid (Calls Tryd.prog 33 #[.pointer (some ⟨R, 0, none⟩)] W (RPost W R (.int .i64 s) l3 e3)))
    (HC : ∀ W, Rd W R l3 e3 → Hid (Calls Tryd.prog 33 #[.pointer (some ⟨R, 0, none⟩)] W (RPost W R (.int .i64 h) l4 e4)))
    (HN : ∀ W, Rd W R l4 e4 → Hid (Calls Tryd.prog 33 #[.pointer (some ⟨R, 0, none⟩)] W (RPost W R (.int .i64 n) l5 e5)))
    : Calls Tryd.prog 26 #[.pointer (some ⟨R, 0, none⟩)] w (CPost w R (cv u s j h n { data := #[] }) l5 e5) := by
  go_enter Tryd.func26, Tryd.ntmps26
  go_wp2_with fail
  refine (HK _ (hr0.alloc _)).out.mono ?_
  rintro e w1 ⟨rfl, HR, HO⟩
  have z1 : w1.heap.size = w.heap.size + 1 := HO.2.1.trans (by simp)
  have I := In.start (j : Int) hN hR h0 HO HR
  clear HR HO
  go_wp2_with fail
  generalize w1.alloc (.cells #[.int .i64 0, .int .i64 0, .int .i64 (j : Int), .int .i64 0, .int .i64 0, .string { data := #[] }] 23) = W1 at *
  refine (HU W1 I.2.2.1).out.mono ?_
  rintro e V1 ⟨rfl, HR, HO⟩
  have I := I.call HR HO
  clear HR HO
  obtain ⟨c0, c1, c2, c3, c4, c5⟩ := I.2.1.cb
  have f0 := I.2.1.free 0
  have f1 := I.2.1.free 1
  have f3 := I.2.1.free 3
  have f4 := I.2.1.free 4
  have f5 := I.2.1.free 5
  obtain ⟨n0, n1⟩ := I.2.2.2.1 j hj
  rw [hq] at n0
  rw [hr] at n1
  have zz := I.2.2.2.2.2.1
  go_wp2_with fail
  clear c0 c1 c2 c3 c4 c5 f0 f1 f3 f4 f5 n0 n1 zz
  have I := I.set_u u
  generalize V1.setCell ⟨w.heap.size + 1, 0, none⟩ (.int .i64 u) = W2 at *
  refine (HS W2 I.2.2.1).out.mono ?_
  rintro e V2 ⟨rfl, HR, HO⟩
  have I := I.call HR HO
  clear HR HO
  obtain ⟨c0, c1, c2, c3, c4, c5⟩ := I.2.1.cb
  have f0 := I.2.1.free 0
  have f1 := I.2.1.free 1
  have f3 := I.2.1.free 3
  have f4 := I.2.1.free 4
  have f5 := I.2.1.free 5
  obtain ⟨n0, n1⟩ := I.2.2.2.1 j hj
  rw [hq] at n0
  rw [hr] at n1
  have zz := I.2.2.2.2.2.1
  go_wp2_with fail
  clear c0 c1 c2 c3 c4 c5 f0 f1 f3 f4 f5 n0 n1 zz
  have I := I.set_s s
  generalize V2.setCell ⟨w.heap.size + 1, 1, none⟩ (.int .i64 s) = W3 at *
  refine (HC W3 I.2.2.1).out.mono ?_
  rintro e V3 ⟨rfl, HR, HO⟩
  have I := I.call HR HO
  clear HR HO
  obtain ⟨c0, c1, c2, c3, c4, c5⟩ := I.2.1.cb
  have f0 := I.2.1.free 0
  have f1 := I.2.1.free 1
  have f3 := I.2.1.free 3
  have f4 := I.2.1.free 4
  have f5 := I.2.1.free 5
  obtain ⟨n0, n1⟩ := I.2.2.2.1 j hj
  rw [hq] at n0
  rw [hr] at n1
  have zz := I.2.2.2.2.2.1
  go_wp2_with fail
  clear c0 c1 c2 c3 c4 c5 f0 f1 f3 f4 f5 n0 n1 zz
  have I := I.set_h h
  generalize V3.setCell ⟨w.heap.size + 1, 3, none⟩ (.int .i64 h) = W4 at *
  refine (HN W4 I.2.2.1).out.mono ?_
  rintro e V4 ⟨rfl, HR, HO⟩
  have I := I.call HR HO
  clear HR HO
  obtain ⟨c0, c1, c2, c3, c4, c5⟩ := I.2.1.cb
  have f0 := I.2.1.free 0
  have f1 := I.2.1.free 1
  have f3 := I.2.1.free 3
  have f4 := I.2.1.free 4
  have f5 := I.2.1.free 5
  obtain ⟨n0, n1⟩ := I.2.2.2.1 j hj
  rw [hq] at n0
  rw [hr] at n1
  have zz := I.2.2.2.2.2.1
  obtain ⟨d0, d1, d2, d3, d4, d5⟩ := I.1.cb
  have g0 := I.1.free 0
  have g1 := I.1.free 1
  have g2 := I.1.free 2
  have g3 := I.1.free 3
  have g4 := I.1.free 4
  have g5 := I.1.free 5
  have I := I.set_n n
  obtain ⟨W9, hW9, k9, r9, b9⟩ := I.done
  go_wp2
  try simp only [Exit.inBlock, Exit.then]
  try rw [hW9]
  exact bodyPost_ret (run_res26 (B := w.heap.size) rfl k9) rfl ⟨rfl, r9, b9⟩

set_option maxHeartbeats 1000000 in
theorem cmd_ff (R : Nat) (w : World) (hN : Nd w) (hR : R < w.heap.size) (h0 : 0 < R) (j : Nat) (hj : j < 8) (hk : ((j : Int) == 0) = false) (hq : ndN j = false) (hr : ndT j = false) (l0 l1 l2 l3 l4 l5 l6 l7 : List Int) (e0 e1 e2 e3 e4 e5 e6 e7 u s h n m : Int) (x : List Int) (hr0 : Rd w R l0 e0)
    (HK : ∀ W, Rd W R l0 e0 → Hid (Calls Tryd.prog 32 #[.pointer (some ⟨R, 0, none⟩)] W (RPost W R (.int .i64 j) l1 e1)))
    (HU : ∀ W, Rd W R l1 e1 → Hid (Calls Tryd.prog 33 #[.pointer (some ⟨R, 0, none⟩)] W (RPost W R (.int .i64 u) l2 e2)))
    (HS : ∀ W, Rd W R l2 e2 → Hid (Calls Tryd.prog 33 #[.pointer (some ⟨R, 0, none⟩)] W (RPost W R (.int .i64 s) l3 e3)))
    (HC : ∀ W, Rd W R l3 e3 → Hid (Calls Tryd.prog 33 #[.pointer (some ⟨R, 0, none⟩)] W (RPost W R (.int .i64 h) l4 e4)))
    : Calls Tryd.prog 26 #[.pointer (some ⟨R, 0, none⟩)] w (CPost w R (cv u s j h 0 { data := #[] }) l4 e4) := by
  go_enter Tryd.func26, Tryd.ntmps26
  go_wp2_with fail
  refine (HK _ (hr0.alloc _)).out.mono ?_
  rintro e w1 ⟨rfl, HR, HO⟩
  have z1 : w1.heap.size = w.heap.size + 1 := HO.2.1.trans (by simp)
  have I := In.start (j : Int) hN hR h0 HO HR
  clear HR HO
  go_wp2_with fail
  generalize w1.alloc (.cells #[.int .i64 0, .int .i64 0, .int .i64 (j : Int), .int .i64 0, .int .i64 0, .string { data := #[] }] 23) = W1 at *
  refine (HU W1 I.2.2.1).out.mono ?_
  rintro e V1 ⟨rfl, HR, HO⟩
  have I := I.call HR HO
  clear HR HO
  obtain ⟨c0, c1, c2, c3, c4, c5⟩ := I.2.1.cb
  have f0 := I.2.1.free 0
  have f1 := I.2.1.free 1
  have f3 := I.2.1.free 3
  have f4 := I.2.1.free 4
  have f5 := I.2.1.free 5
  obtain ⟨n0, n1⟩ := I.2.2.2.1 j hj
  rw [hq] at n0
  rw [hr] at n1
  have zz := I.2.2.2.2.2.1
  go_wp2_with fail
  clear c0 c1 c2 c3 c4 c5 f0 f1 f3 f4 f5 n0 n1 zz
  have I := I.set_u u
  generalize V1.setCell ⟨w.heap.size + 1, 0, none⟩ (.int .i64 u) = W2 at *
  refine (HS W2 I.2.2.1).out.mono ?_
  rintro e V2 ⟨rfl, HR, HO⟩
  have I := I.call HR HO
  clear HR HO
  obtain ⟨c0, c1, c2, c3, c4, c5⟩ := I.2.1.cb
  have f0 := I.2.1.free 0
  have f1 := I.2.1.free 1
  have f3 := I.2.1.free 3
  have f4 := I.2.1.free 4
  have f5 := I.2.1.free 5
  obtain ⟨n0, n1⟩ := I.2.2.2.1 j hj
  rw [hq] at n0
  rw [hr] at n1
  have zz := I.2.2.2.2.2.1
  go_wp2_with fail
  clear c0 c1 c2 c3 c4 c5 f0 f1 f3 f4 f5 n0 n1 zz
  have I := I.set_s s
  generalize V2.setCell ⟨w.heap.size + 1, 1, none⟩ (.int .i64 s) = W3 at *
  refine (HC W3 I.2.2.1).out.mono ?_
  rintro e V3 ⟨rfl, HR, HO⟩
  have I := I.call HR HO
  clear HR HO
  obtain ⟨c0, c1, c2, c3, c4, c5⟩ := I.2.1.cb
  have f0 := I.2.1.free 0
  have f1 := I.2.1.free 1
  have f3 := I.2.1.free 3
  have f4 := I.2.1.free 4
  have f5 := I.2.1.free 5
  obtain ⟨n0, n1⟩ := I.2.2.2.1 j hj
  rw [hq] at n0
  rw [hr] at n1
  have zz := I.2.2.2.2.2.1
  obtain ⟨d0, d1, d2, d3, d4, d5⟩ := I.1.cb
  have g0 := I.1.free 0
  have g1 := I.1.free 1
  have g2 := I.1.free 2
  have g3 := I.1.free 3
  have g4 := I.1.free 4
  have g5 := I.1.free 5
  have I := I.set_h h
  obtain ⟨W9, hW9, k9, r9, b9⟩ := I.done
  go_wp2
  try simp only [Exit.inBlock, Exit.then]
  try rw [hW9]
  exact bodyPost_ret (run_res26 (B := w.heap.size) rfl k9) rfl ⟨rfl, r9, b9⟩

/-- What 'command' makes of bytes: a command, what is left, the error. -/
structure Co where
  (u s k h n : Int)
  t : List Int
  l : List Int
  e : Int
def cst (l : List Int) (e : Int) : Co :=
  let a := kst l e
  if a.1 = 0 then ⟨0, 0, 0, 0, 0, [], a.2.1, a.2.2⟩ else
  let b := nx a.2.1 a.2.2
  let c := nx b.2.1 b.2.2
  let d := nx c.2.1 c.2.2
  let f := if ndN a.1 then nx d.2.1 d.2.2 else (0, d.2.1, d.2.2)
  if ndT a.1 then
    let g := nx f.2.1 f.2.2
    let x := tst g.1 g.2.1 g.2.2
    ⟨b.1, c.1, a.1, d.1, f.1, x.1, x.2.1, x.2.2⟩
  else ⟨b.1, c.1, a.1, d.1, f.1, [], f.2.1, f.2.2⟩

theorem nx_mem {l : List Int} {e : Int} : ∀ x ∈ (nx l e).2.1, x ∈ l := by
  intro x hx
  rw [nx] at hx
  split at hx
  · rw [gx] at hx
    split at hx
    · exact List.mem_of_mem_drop hx
    · exact hx
  · exact hx
theorem kst_bd {l : List Int} {e : Int} (hx : ∀ x ∈ l, 0 ≤ x ∧ x ≤ 255) : (0 ≤ (kst l e).1 ∧ (kst l e).1 < 8) ∧ ∀ x ∈ (kst l e).2.1, 0 ≤ x ∧ x ≤ 255 := by
  rw [kst]
  split
  · rename_i h8; exact ⟨⟨(nx_bd hx).1, h8⟩, fun x h => hx x (nx_mem x h)⟩
  · exact ⟨⟨Int.le_refl _, (by show (0 : Int) < 8; decide)⟩, fun x h => hx x (nx_mem x h)⟩

theorem command_any (R : Nat) (w : World) (hN : Nd w) (hR : R < w.heap.size) (h0 : 0 < R) (l : List Int) (e : Int) (hr0 : Rd w R l e) (hx : ∀ x ∈ l, 0 ≤ x ∧ x ≤ 255) (r : Co) (hc : cst l e = r) :
    Calls Tryd.prog 26 #[.pointer (some ⟨R, 0, none⟩)] w (CPost w R (cv r.u r.s r.k r.h r.n (strOfNums r.t)) r.l r.e) := by
  obtain ⟨⟨k0, k8⟩, hx1⟩ := kst_bd (e := e) hx
  have HK : ∀ W, Rd W R l e → Hid (Calls Tryd.prog 32 #[.pointer (some ⟨R, 0, none⟩)] W (RPost W R (.int .i64 (kst l e).1) (kst l e).2.1 (kst l e).2.2)) := fun W h => kind_any R l e W h _ rfl
  have HN : ∀ (l : List Int) (e : Int), ∀ W, Rd W R l e → Hid (Calls Tryd.prog 33 #[.pointer (some ⟨R, 0, none⟩)] W (RPost W R (.int .i64 (nx l e).1) (nx l e).2.1 (nx l e).2.2)) := fun l e W h => number_any R l e W h _ rfl
  unfold cst at hc
  generalize kst l e = a at *
  obtain ⟨k, l1, e1⟩ := a
  simp only at hc k0 k8 hx1 HK
  by_cases hk : k = 0
  · subst hk
    rw [if_pos rfl] at hc
    subst hc
    exact cmd_nop R w hN hR h0 l l1 e e1 hr0 HK
  · rw [if_neg hk] at hc
    obtain ⟨j, rfl⟩ : ∃ j : Nat, k = (j : Int) := ⟨k.toNat, by omega⟩
    have ek : ((j : Int) == 0) = false := by rw [beq_eq_false_iff_ne]; exact hk
    have hb1 := fun x h => hx1 x (nx_mem (e := e1) x h)
    have hU := HN l1 e1
    generalize nx l1 e1 = b at *
    obtain ⟨u, l2, e2⟩ := b
    simp only at hc hU hb1
    have hb2 := fun x h => hb1 x (nx_mem (e := e2) x h)
    have hS := HN l2 e2
    generalize nx l2 e2 = c at *
    obtain ⟨s, l3, e3⟩ := c
    simp only at hc hS hb2
    have hb3 := fun x h => hb2 x (nx_mem (e := e3) x h)
    have hC := HN l3 e3
    generalize nx l3 e3 = d at *
    obtain ⟨h, l4, e4⟩ := d
    simp only at hc hC hb3
    have fT : ∀ (l5 : List Int) (e5 : Int), (∀ x ∈ l5, 0 ≤ x ∧ x ≤ 255) → ∀ W, Rd W R (nx l5 e5).2.1 (nx l5 e5).2.2 → Hid (Calls Tryd.prog 34 #[.pointer (some ⟨R, 0, none⟩), .int .i64 (nx l5 e5).1] W (RPost W R (.string (strOfNums (tst (nx l5 e5).1 (nx l5 e5).2.1 (nx l5 e5).2.2).1)) (tst (nx l5 e5).1 (nx l5 e5).2.1 (nx l5 e5).2.2).2.1 (tst (nx l5 e5).1 (nx l5 e5).2.1 (nx l5 e5).2.2).2.2)) :=
      fun l5 e5 hb W hr => text_any R _ _ _ W hr (nx_bd hb).1 _ rfl
    cases q : ndN (j : Int)
    · rw [q] at hc
      simp only [Bool.false_eq_true, if_false] at hc
      cases r' : ndT (j : Int)
      · rw [r'] at hc
        simp only [Bool.false_eq_true, if_false] at hc
        subst hc
        exact cmd_ff R w hN hR h0 j (by omega) ek q r' l l1 l2 l3 l4 [] [] [] e e1 e2 e3 e4 0 0 0 u s h 0 0 [] hr0 HK hU hS hC
      · rw [r'] at hc
        simp only [if_true] at hc
        subst hc
        exact cmd_ft R w hN hR h0 j (by omega) ek q r' l l1 l2 l3 l4 _ _ [] e e1 e2 e3 e4 _ _ 0 u s h 0 _ _ hr0 HK hU hS hC (HN l4 e4) (fT l4 e4 hb3)
    · rw [q] at hc
      simp only [if_true] at hc
      have hM := HN l4 e4
      have hb4 := fun x h => hb3 x (nx_mem (e := e4) x h)
      generalize nx l4 e4 = f at *
      obtain ⟨n, l5, e5⟩ := f
      simp only at hc hM hb4
      cases r' : ndT (j : Int)
      · rw [r'] at hc
        simp only [Bool.false_eq_true, if_false] at hc
        subst hc
        exact cmd_tf R w hN hR h0 j (by omega) ek q r' l l1 l2 l3 l4 l5 [] [] e e1 e2 e3 e4 e5 0 0 u s h n 0 [] hr0 HK hU hS hC hM
      · rw [r'] at hc
        simp only [if_true] at hc
        subst hc
        exact cmd_tt R w hN hR h0 j (by omega) ek q r' l l1 l2 l3 l4 l5 _ _ e e1 e2 e3 e4 e5 _ _ u s h n _ _ hr0 HK hU hS hC hM (HN l5 e5) (fT l5 e5 hb4)

end Go.Proofs.YteajbcngimccmaaDoor
