/-
  What interferes, in plain words ('itf_eq'); the walks of the document's Interfere and Any: they answer what 'itf' and 'anyI' say. Conditions: of Any, at most a million commands.
-/
import Derived.Test.YtmeklhlojogdnaaDoorItf
import Derived.Test.YtmeklhlojogdnaaDoorRmay
import Derived.Deep.RegionHeld3
import Derived.Deep.DrawnRows
namespace Go.Proofs.YtmeklhlojogdnaaDoor
open Go.RowKit
set_option linter.unusedVariables false

/-- What interferes: two that are on, of one user, or of one channel where not both read. -/
theorem itf_eq (x y : Cd) : itf x y = ((x.on && y.on) && ((x.u == y.u) || ((x.h == y.h) && (!rdB x.k || !rdB y.k)))) := by
  unfold itf
  rcases hx : x.on with _ | _
  · rw [kl_no hx]; rfl
  · rcases hy : y.on with _ | _
    · rw [kl_no hy, kl_yes hx]; rfl
    · rw [kl_yes hx, kl_yes hy]
      simp [sm, mts, mt]

theorem itf_off1 {x y : Cd} (h : x.on = false) : itf x y = false := by rw [itf_eq, h]; rfl
theorem itf_off2 {x y : Cd} (h : y.on = false) : itf x y = false := by rw [itf_eq, h]; simp
theorem itf_on {x y : Cd} (h : x.on = true) (h' : y.on = true) : itf x y = ((x.u == y.u) || ((x.h == y.h) && (!rdB x.k || !rdB y.k))) := by rw [itf_eq, h, h']; rfl
theorem on_k {x : Cd} (h : x.k = 0) : x.on = false := by rw [Cd.on, h]; rfl
theorem on_may {x : Cd} (h : x.may = false) : x.on = false := by rw [Cd.on, h]; simp
theorem on_yes {x : Cd} (h : (x.k == 0) = false) (h' : x.may = true) : x.on = true := by rw [Cd.on, h, h']; rfl
theorem itf_sym (x y : Cd) : itf x y = itf y x := by
  rw [itf_eq, itf_eq, Bool.and_comm x.on, Bool.or_comm (!rdB x.k)]
  congr 2
  · rw [Bool.eq_iff_iff]; simp only [beq_iff_eq]; exact eq_comm
  · congr 1
    rw [Bool.eq_iff_iff]; simp only [beq_iff_eq]; exact eq_comm
/-- A command in a row, cell by cell. -/
def Cr (w : World) (b o : Nat) (u s k h n : Int) (t : ByteArray) : Prop :=
  w.cell? ⟨b, o, none⟩ = some (.int .i64 u) ∧ w.cell? ⟨b, o + 1, none⟩ = some (.int .i64 s) ∧ w.cell? ⟨b, o + 2, none⟩ = some (.int .i64 k) ∧ w.cell? ⟨b, o + 3, none⟩ = some (.int .i64 h) ∧ w.cell? ⟨b, o + 4, none⟩ = some (.int .i64 n) ∧ w.cell? ⟨b, o + 5, none⟩ = some (.string t)
theorem Cr.on {w w' : World} {b o D : Nat} {u s k h n : Int} {t : ByteArray} (hc : Cr w b o u s k h n t) (hb : Below D w w') (hB : b < D) : Cr w' b o u s k h n t := by
  obtain ⟨c0, c1, c2, c3, c4, c5⟩ := hc
  exact ⟨(hb.cell (p := ⟨b, o, none⟩) hB).trans c0, (hb.cell (p := ⟨b, o + 1, none⟩) hB).trans c1, (hb.cell (p := ⟨b, o + 2, none⟩) hB).trans c2, (hb.cell (p := ⟨b, o + 3, none⟩) hB).trans c3, (hb.cell (p := ⟨b, o + 4, none⟩) hB).trans c4, (hb.cell (p := ⟨b, o + 5, none⟩) hB).trans c5⟩
theorem keep4 {w0 v v' : World} {B b o D : Nat} {u s k h n u' s' k' h' n' : Int} {t t' : ByteArray} (hB : B < D) (hB' : b < D) (hS : Cb v B u s k h n t ∧ Cr v b o u' s' k' h' n' t' ∧ Below D w0 v) (hb : Below D v v') : Cb v' B u s k h n t ∧ Cr v' b o u' s' k' h' n' t' ∧ Below D w0 v' := ⟨hS.1.on hb hB, hS.2.1.on hb hB', hS.2.2.trans hb⟩
theorem itf_self (x : Cd) : itf x x = x.on := by rw [itf_eq]; simp

set_option maxHeartbeats 1000000 in
theorem ritf_p (u s k h n u' s' k' h' n' : Int) (t t' : ByteArray) (w : World) (q : Bool)
    (H1 : ∀ W, Hid (Calls Tryd.prog 36 #[cv u s k h n t] W (BoolPost W false))) (H2 : ∀ W, Hid (Calls Tryd.prog 36 #[cv u' s' k' h' n' t'] W (BoolPost W q))) :
    Calls Tryd.prog 28 #[cv u s k h n t, cv u' s' k' h' n' t'] w (BoolPost w false) := by
  go_enter Tryd.func28, Tryd.ntmps28
  go_wp2_with fail
  have BW : Below w.heap.size w ((w.alloc (.cells #[.int .i64 u, .int .i64 s, .int .i64 k, .int .i64 h, .int .i64 n, .string t] 24)).alloc (.cells #[.int .i64 u', .int .i64 s', .int .i64 k', .int .i64 h', .int .i64 n', .string t'] 24)) := ((Below.refl _ _).alloc (Nat.le_refl _) _).alloc (by simp) _
  have Z0 : ((w.alloc (.cells #[.int .i64 u, .int .i64 s, .int .i64 k, .int .i64 h, .int .i64 n, .string t] 24)).alloc (.cells #[.int .i64 u', .int .i64 s', .int .i64 k', .int .i64 h', .int .i64 n', .string t'] 24)).heap.size = w.heap.size + 1 + 1 := by simp
  have C0 : Cb ((w.alloc (.cells #[.int .i64 u, .int .i64 s, .int .i64 k, .int .i64 h, .int .i64 n, .string t] 24)).alloc (.cells #[.int .i64 u', .int .i64 s', .int .i64 k', .int .i64 h', .int .i64 n', .string t'] 24)) w.heap.size u s k h n t := (cb_new w u s k h n t).on ((Below.refl _ _).alloc (Nat.le_refl _) _) (by simp)
  have D0 : Cb ((w.alloc (.cells #[.int .i64 u, .int .i64 s, .int .i64 k, .int .i64 h, .int .i64 n, .string t] 24)).alloc (.cells #[.int .i64 u', .int .i64 s', .int .i64 k', .int .i64 h', .int .i64 n', .string t'] 24)) (w.heap.size + 1) u' s' k' h' n' t' := by
    have := cb_new (w.alloc (.cells #[.int .i64 u, .int .i64 s, .int .i64 k, .int .i64 h, .int .i64 n, .string t] 24)) u' s' k' h' n' t'
    rw [show (w.alloc (.cells #[.int .i64 u, .int .i64 s, .int .i64 k, .int .i64 h, .int .i64 n, .string t] 24)).heap.size = w.heap.size + 1 by simp] at this
    exact this
  generalize ((w.alloc (.cells #[.int .i64 u, .int .i64 s, .int .i64 k, .int .i64 h, .int .i64 n, .string t] 24)).alloc (.cells #[.int .i64 u', .int .i64 s', .int .i64 k', .int .i64 h', .int .i64 n', .string t'] 24)) = W0 at *
  refine (H1 _).out.mono ?_
  rintro e w1 ⟨rfl, B1⟩
  have q1 := B1.size
  have hD1 := D0.on B1 (by omega)
  obtain ⟨r0, r1, r2, r3, r4, r5⟩ := hD1
  go_wp2_with fail
  clear r0 r1 r2 r3 r4 r5
  refine (H2 _).out.mono ?_
  rintro e w2 ⟨rfl, B2⟩
  have q2 := B2.size
  have B02 := B1.trans (B2.mono q1)
  obtain ⟨p0, p1, p2, p3, p4, p5⟩ := C0.on B02 (by omega)
  obtain ⟨r0, r1, r2, r3, r4, r5⟩ := D0.on B02 (by omega)
  go_wp2
  go_ret
  exact ⟨rfl, BW.trans (B02.mono BW.size)⟩

set_option maxHeartbeats 1000000 in
theorem ritf_q (u s k h n u' s' k' h' n' : Int) (t t' : ByteArray) (w : World) 
    (H1 : ∀ W, Hid (Calls Tryd.prog 36 #[cv u s k h n t] W (BoolPost W true))) (H2 : ∀ W, Hid (Calls Tryd.prog 36 #[cv u' s' k' h' n' t'] W (BoolPost W false))) :
    Calls Tryd.prog 28 #[cv u s k h n t, cv u' s' k' h' n' t'] w (BoolPost w false) := by
  go_enter Tryd.func28, Tryd.ntmps28
  go_wp2_with fail
  have BW : Below w.heap.size w ((w.alloc (.cells #[.int .i64 u, .int .i64 s, .int .i64 k, .int .i64 h, .int .i64 n, .string t] 24)).alloc (.cells #[.int .i64 u', .int .i64 s', .int .i64 k', .int .i64 h', .int .i64 n', .string t'] 24)) := ((Below.refl _ _).alloc (Nat.le_refl _) _).alloc (by simp) _
  have Z0 : ((w.alloc (.cells #[.int .i64 u, .int .i64 s, .int .i64 k, .int .i64 h, .int .i64 n, .string t] 24)).alloc (.cells #[.int .i64 u', .int .i64 s', .int .i64 k', .int .i64 h', .int .i64 n', .string t'] 24)).heap.size = w.heap.size + 1 + 1 := by simp
  have C0 : Cb ((w.alloc (.cells #[.int .i64 u, .int .i64 s, .int .i64 k, .int .i64 h, .int .i64 n, .string t] 24)).alloc (.cells #[.int .i64 u', .int .i64 s', .int .i64 k', .int .i64 h', .int .i64 n', .string t'] 24)) w.heap.size u s k h n t := (cb_new w u s k h n t).on ((Below.refl _ _).alloc (Nat.le_refl _) _) (by simp)
  have D0 : Cb ((w.alloc (.cells #[.int .i64 u, .int .i64 s, .int .i64 k, .int .i64 h, .int .i64 n, .string t] 24)).alloc (.cells #[.int .i64 u', .int .i64 s', .int .i64 k', .int .i64 h', .int .i64 n', .string t'] 24)) (w.heap.size + 1) u' s' k' h' n' t' := by
    have := cb_new (w.alloc (.cells #[.int .i64 u, .int .i64 s, .int .i64 k, .int .i64 h, .int .i64 n, .string t] 24)) u' s' k' h' n' t'
    rw [show (w.alloc (.cells #[.int .i64 u, .int .i64 s, .int .i64 k, .int .i64 h, .int .i64 n, .string t] 24)).heap.size = w.heap.size + 1 by simp] at this
    exact this
  generalize ((w.alloc (.cells #[.int .i64 u, .int .i64 s, .int .i64 k, .int .i64 h, .int .i64 n, .string t] 24)).alloc (.cells #[.int .i64 u', .int .i64 s', .int .i64 k', .int .i64 h', .int .i64 n', .string t'] 24)) = W0 at *
  refine (H1 _).out.mono ?_
  rintro e w1 ⟨rfl, B1⟩
  have q1 := B1.size
  have hD1 := D0.on B1 (by omega)
  obtain ⟨r0, r1, r2, r3, r4, r5⟩ := hD1
  go_wp2_with fail
  clear r0 r1 r2 r3 r4 r5
  refine (H2 _).out.mono ?_
  rintro e w2 ⟨rfl, B2⟩
  have q2 := B2.size
  have B02 := B1.trans (B2.mono q1)
  obtain ⟨p0, p1, p2, p3, p4, p5⟩ := C0.on B02 (by omega)
  obtain ⟨r0, r1, r2, r3, r4, r5⟩ := D0.on B02 (by omega)
  go_wp2
  go_ret
  exact ⟨rfl, BW.trans (B02.mono BW.size)⟩

set_option maxHeartbeats 1000000 in
theorem ritf_k (u s h n u' s' k' h' n' : Int) (t t' : ByteArray) (w : World) 
    (H1 : ∀ W, Hid (Calls Tryd.prog 36 #[cv u s 0 h n t] W (BoolPost W true))) (H2 : ∀ W, Hid (Calls Tryd.prog 36 #[cv u' s' k' h' n' t'] W (BoolPost W true))) :
    Calls Tryd.prog 28 #[cv u s 0 h n t, cv u' s' k' h' n' t'] w (BoolPost w false) := by
  go_enter Tryd.func28, Tryd.ntmps28
  go_wp2_with fail
  have BW : Below w.heap.size w ((w.alloc (.cells #[.int .i64 u, .int .i64 s, .int .i64 0, .int .i64 h, .int .i64 n, .string t] 24)).alloc (.cells #[.int .i64 u', .int .i64 s', .int .i64 k', .int .i64 h', .int .i64 n', .string t'] 24)) := ((Below.refl _ _).alloc (Nat.le_refl _) _).alloc (by simp) _
  have Z0 : ((w.alloc (.cells #[.int .i64 u, .int .i64 s, .int .i64 0, .int .i64 h, .int .i64 n, .string t] 24)).alloc (.cells #[.int .i64 u', .int .i64 s', .int .i64 k', .int .i64 h', .int .i64 n', .string t'] 24)).heap.size = w.heap.size + 1 + 1 := by simp
  have C0 : Cb ((w.alloc (.cells #[.int .i64 u, .int .i64 s, .int .i64 0, .int .i64 h, .int .i64 n, .string t] 24)).alloc (.cells #[.int .i64 u', .int .i64 s', .int .i64 k', .int .i64 h', .int .i64 n', .string t'] 24)) w.heap.size u s 0 h n t := (cb_new w u s 0 h n t).on ((Below.refl _ _).alloc (Nat.le_refl _) _) (by simp)
  have D0 : Cb ((w.alloc (.cells #[.int .i64 u, .int .i64 s, .int .i64 0, .int .i64 h, .int .i64 n, .string t] 24)).alloc (.cells #[.int .i64 u', .int .i64 s', .int .i64 k', .int .i64 h', .int .i64 n', .string t'] 24)) (w.heap.size + 1) u' s' k' h' n' t' := by
    have := cb_new (w.alloc (.cells #[.int .i64 u, .int .i64 s, .int .i64 0, .int .i64 h, .int .i64 n, .string t] 24)) u' s' k' h' n' t'
    rw [show (w.alloc (.cells #[.int .i64 u, .int .i64 s, .int .i64 0, .int .i64 h, .int .i64 n, .string t] 24)).heap.size = w.heap.size + 1 by simp] at this
    exact this
  generalize ((w.alloc (.cells #[.int .i64 u, .int .i64 s, .int .i64 0, .int .i64 h, .int .i64 n, .string t] 24)).alloc (.cells #[.int .i64 u', .int .i64 s', .int .i64 k', .int .i64 h', .int .i64 n', .string t'] 24)) = W0 at *
  refine (H1 _).out.mono ?_
  rintro e w1 ⟨rfl, B1⟩
  have q1 := B1.size
  have hD1 := D0.on B1 (by omega)
  obtain ⟨r0, r1, r2, r3, r4, r5⟩ := hD1
  go_wp2_with fail
  clear r0 r1 r2 r3 r4 r5
  refine (H2 _).out.mono ?_
  rintro e w2 ⟨rfl, B2⟩
  have q2 := B2.size
  have B02 := B1.trans (B2.mono q1)
  obtain ⟨p0, p1, p2, p3, p4, p5⟩ := C0.on B02 (by omega)
  obtain ⟨r0, r1, r2, r3, r4, r5⟩ := D0.on B02 (by omega)
  go_wp2
  go_ret
  exact ⟨rfl, BW.trans (B02.mono BW.size)⟩

set_option maxHeartbeats 1000000 in
theorem ritf_l (u s k h n u' s' h' n' : Int) (t t' : ByteArray) (w : World) (hk : (k == 0) = false)
    (H1 : ∀ W, Hid (Calls Tryd.prog 36 #[cv u s k h n t] W (BoolPost W true))) (H2 : ∀ W, Hid (Calls Tryd.prog 36 #[cv u' s' 0 h' n' t'] W (BoolPost W true))) :
    Calls Tryd.prog 28 #[cv u s k h n t, cv u' s' 0 h' n' t'] w (BoolPost w false) := by
  go_enter Tryd.func28, Tryd.ntmps28
  go_wp2_with fail
  have BW : Below w.heap.size w ((w.alloc (.cells #[.int .i64 u, .int .i64 s, .int .i64 k, .int .i64 h, .int .i64 n, .string t] 24)).alloc (.cells #[.int .i64 u', .int .i64 s', .int .i64 0, .int .i64 h', .int .i64 n', .string t'] 24)) := ((Below.refl _ _).alloc (Nat.le_refl _) _).alloc (by simp) _
  have Z0 : ((w.alloc (.cells #[.int .i64 u, .int .i64 s, .int .i64 k, .int .i64 h, .int .i64 n, .string t] 24)).alloc (.cells #[.int .i64 u', .int .i64 s', .int .i64 0, .int .i64 h', .int .i64 n', .string t'] 24)).heap.size = w.heap.size + 1 + 1 := by simp
  have C0 : Cb ((w.alloc (.cells #[.int .i64 u, .int .i64 s, .int .i64 k, .int .i64 h, .int .i64 n, .string t] 24)).alloc (.cells #[.int .i64 u', .int .i64 s', .int .i64 0, .int .i64 h', .int .i64 n', .string t'] 24)) w.heap.size u s k h n t := (cb_new w u s k h n t).on ((Below.refl _ _).alloc (Nat.le_refl _) _) (by simp)
  have D0 : Cb ((w.alloc (.cells #[.int .i64 u, .int .i64 s, .int .i64 k, .int .i64 h, .int .i64 n, .string t] 24)).alloc (.cells #[.int .i64 u', .int .i64 s', .int .i64 0, .int .i64 h', .int .i64 n', .string t'] 24)) (w.heap.size + 1) u' s' 0 h' n' t' := by
    have := cb_new (w.alloc (.cells #[.int .i64 u, .int .i64 s, .int .i64 k, .int .i64 h, .int .i64 n, .string t] 24)) u' s' 0 h' n' t'
    rw [show (w.alloc (.cells #[.int .i64 u, .int .i64 s, .int .i64 k, .int .i64 h, .int .i64 n, .string t] 24)).heap.size = w.heap.size + 1 by simp] at this
    exact this
  generalize ((w.alloc (.cells #[.int .i64 u, .int .i64 s, .int .i64 k, .int .i64 h, .int .i64 n, .string t] 24)).alloc (.cells #[.int .i64 u', .int .i64 s', .int .i64 0, .int .i64 h', .int .i64 n', .string t'] 24)) = W0 at *
  refine (H1 _).out.mono ?_
  rintro e w1 ⟨rfl, B1⟩
  have q1 := B1.size
  have hD1 := D0.on B1 (by omega)
  obtain ⟨r0, r1, r2, r3, r4, r5⟩ := hD1
  go_wp2_with fail
  clear r0 r1 r2 r3 r4 r5
  refine (H2 _).out.mono ?_
  rintro e w2 ⟨rfl, B2⟩
  have q2 := B2.size
  have B02 := B1.trans (B2.mono q1)
  obtain ⟨p0, p1, p2, p3, p4, p5⟩ := C0.on B02 (by omega)
  obtain ⟨r0, r1, r2, r3, r4, r5⟩ := D0.on B02 (by omega)
  go_wp2
  go_ret
  exact ⟨rfl, BW.trans (B02.mono BW.size)⟩

set_option maxHeartbeats 1000000 in
theorem ritf_r (rx ry : Bool) (u s k h n u' s' k' h' n' : Int) (t t' : ByteArray) (w : World) (hk : (k == 0) = false) (hk' : (k' == 0) = false)
    (H1 : ∀ W, Hid (Calls Tryd.prog 36 #[cv u s k h n t] W (BoolPost W true))) (H2 : ∀ W, Hid (Calls Tryd.prog 36 #[cv u' s' k' h' n' t'] W (BoolPost W true))) (H3 : ∀ W, Hid (Calls Tryd.prog 37 #[cv u s k h n t] W (BoolPost W rx))) (H4 : ∀ W, Hid (Calls Tryd.prog 37 #[cv u' s' k' h' n' t'] W (BoolPost W ry))) :
    Calls Tryd.prog 28 #[cv u s k h n t, cv u' s' k' h' n' t'] w (BoolPost w ((u == u') || ((h == h') && (!rx || !ry)))) := by
  go_enter Tryd.func28, Tryd.ntmps28
  go_wp2_with fail
  have BW : Below w.heap.size w ((w.alloc (.cells #[.int .i64 u, .int .i64 s, .int .i64 k, .int .i64 h, .int .i64 n, .string t] 24)).alloc (.cells #[.int .i64 u', .int .i64 s', .int .i64 k', .int .i64 h', .int .i64 n', .string t'] 24)) := ((Below.refl _ _).alloc (Nat.le_refl _) _).alloc (by simp) _
  have Z0 : ((w.alloc (.cells #[.int .i64 u, .int .i64 s, .int .i64 k, .int .i64 h, .int .i64 n, .string t] 24)).alloc (.cells #[.int .i64 u', .int .i64 s', .int .i64 k', .int .i64 h', .int .i64 n', .string t'] 24)).heap.size = w.heap.size + 1 + 1 := by simp
  have C0 : Cb ((w.alloc (.cells #[.int .i64 u, .int .i64 s, .int .i64 k, .int .i64 h, .int .i64 n, .string t] 24)).alloc (.cells #[.int .i64 u', .int .i64 s', .int .i64 k', .int .i64 h', .int .i64 n', .string t'] 24)) w.heap.size u s k h n t := (cb_new w u s k h n t).on ((Below.refl _ _).alloc (Nat.le_refl _) _) (by simp)
  have D0 : Cb ((w.alloc (.cells #[.int .i64 u, .int .i64 s, .int .i64 k, .int .i64 h, .int .i64 n, .string t] 24)).alloc (.cells #[.int .i64 u', .int .i64 s', .int .i64 k', .int .i64 h', .int .i64 n', .string t'] 24)) (w.heap.size + 1) u' s' k' h' n' t' := by
    have := cb_new (w.alloc (.cells #[.int .i64 u, .int .i64 s, .int .i64 k, .int .i64 h, .int .i64 n, .string t] 24)) u' s' k' h' n' t'
    rw [show (w.alloc (.cells #[.int .i64 u, .int .i64 s, .int .i64 k, .int .i64 h, .int .i64 n, .string t] 24)).heap.size = w.heap.size + 1 by simp] at this
    exact this
  generalize ((w.alloc (.cells #[.int .i64 u, .int .i64 s, .int .i64 k, .int .i64 h, .int .i64 n, .string t] 24)).alloc (.cells #[.int .i64 u', .int .i64 s', .int .i64 k', .int .i64 h', .int .i64 n', .string t'] 24)) = W0 at *
  refine (H1 _).out.mono ?_
  rintro e w1 ⟨rfl, B1⟩
  have q1 := B1.size
  have hD1 := D0.on B1 (by omega)
  obtain ⟨r0, r1, r2, r3, r4, r5⟩ := hD1
  go_wp2_with fail
  clear r0 r1 r2 r3 r4 r5
  refine (H2 _).out.mono ?_
  rintro e w2 ⟨rfl, B2⟩
  have q2 := B2.size
  have B02 := B1.trans (B2.mono q1)
  obtain ⟨p0, p1, p2, p3, p4, p5⟩ := C0.on B02 (by omega)
  obtain ⟨r0, r1, r2, r3, r4, r5⟩ := D0.on B02 (by omega)
  go_wp2_with fail
  clear p0 p1 p2 p3 p4 p5 r0 r1 r2 r3 r4 r5
  refine (H3 _).out.mono ?_
  rintro e w3 ⟨rfl, B3⟩
  have q3 := B3.size
  have B03 := B02.trans (B3.mono (by omega))
  obtain ⟨r0, r1, r2, r3, r4, r5⟩ := D0.on B03 (by omega)
  go_wp2_with fail
  clear r0 r1 r2 r3 r4 r5
  refine (H4 _).out.mono ?_
  rintro e w4 ⟨rfl, B4⟩
  have q4 := B4.size
  have B04 := B03.trans (B4.mono (by omega))
  obtain ⟨p0, p1, p2, p3, p4, p5⟩ := C0.on B04 (by omega)
  obtain ⟨r0, r1, r2, r3, r4, r5⟩ := D0.on B04 (by omega)
  have BE := Lib.hid (BW.trans (B04.mono BW.size))
  clear C0 D0 B1 B2 B3 B4 B02 B03 B04 BW
  rcases hu : (u == u') with _ | _
  · rcases hh : (h == h') with _ | _
    · go_wp2
      go_ret
      exact ⟨by rw [hu, hh]; rfl, BE.out⟩
    · cases rx
      · go_wp2
        go_ret
        exact ⟨by rw [hu, hh]; rfl, BE.out⟩
      · go_wp2
        go_ret
        exact ⟨by rw [hu, hh]; rfl, BE.out⟩
  · go_wp2
    go_ret
    exact ⟨by rw [hu]; rfl, BE.out⟩

theorem ritf_any (x y : Cd) (w : World) : Calls Tryd.prog 28 #[cv x.u x.s x.k x.h x.n x.t, cv y.u y.s y.k y.h y.n y.t] w (BoolPost w (itf x y)) := by
  have HX : ∀ b, x.may = b → ∀ W, Hid (Calls Tryd.prog 36 #[cv x.u x.s x.k x.h x.n x.t] W (BoolPost W b)) := fun b hb W => by have := rmay_any x.u x.s x.k x.h x.n x.t W; rw [show mayB x.u x.s x.k x.h x.n x.t.size = b from hb] at this; exact this
  have HY : ∀ b, y.may = b → ∀ W, Hid (Calls Tryd.prog 36 #[cv y.u y.s y.k y.h y.n y.t] W (BoolPost W b)) := fun b hb W => by have := rmay_any y.u y.s y.k y.h y.n y.t W; rw [show mayB y.u y.s y.k y.h y.n y.t.size = b from hb] at this; exact this
  rcases hx : x.may with _ | _
  · rw [itf_off1 (on_may hx)]
    exact ritf_p _ _ _ _ _ _ _ _ _ _ _ _ w y.may (HX _ hx) (HY _ rfl)
  · rcases hy : y.may with _ | _
    · rw [itf_off2 (on_may hy)]
      exact ritf_q _ _ _ _ _ _ _ _ _ _ _ _ w (HX _ hx) (HY _ hy)
    · by_cases kx : x.k = 0
      · rw [itf_off1 (on_k kx)]
        have H1 := HX _ hx
        rw [kx] at H1 ⊢
        exact ritf_k _ _ _ _ _ _ _ _ _ _ _ w H1 (HY _ hy)
      · have kx' : (x.k == 0) = false := by rw [beq_eq_false_iff_ne]; exact kx
        by_cases ky : y.k = 0
        · rw [itf_off2 (on_k ky)]
          have H2 := HY _ hy
          rw [ky] at H2 ⊢
          exact ritf_l _ _ _ _ _ _ _ _ _ _ _ w kx' (HX _ hx) H2
        · have ky' : (y.k == 0) = false := by rw [beq_eq_false_iff_ne]; exact ky
          rw [itf_on (on_yes kx' hx) (on_yes ky' hy)]
          exact ritf_r _ _ _ _ _ _ _ _ _ _ _ _ _ _ w kx' ky' (HX _ hx) (HY _ hy) (fun W => rreads_any _ _ _ _ _ _ W) (fun W => rreads_any _ _ _ _ _ _ W)

end Go.Proofs.YtmeklhlojogdnaaDoor
