/-
  Commands of different users, that are of different channels, or that both read, do not interfere; all others that may be do: KeysApart answers true whatever the two commands; they read as they did. Conditions: none beyond the card's own (the table of what kinds need reads as its initialiser lays it).
-/
import Derived.Test.YtdpjkbhofebdiaaDoorOpen
import Derived.Test.YtdpjkbhofebdiaaDoorCards
import Derived.Test.YtdpjkbhofebdiaaDoorTie
import Derived.SevenTiedAt
namespace Go.Proofs.YtdpjkbhofebdiaaDoor.keysApart
open Go.ChangeShapes Go.WideShapes Go.ChangeAt Go.RowKit Go.Joins
set_option linter.unusedVariables false

theorem not1 (u s k h n u' s' k' h' n' : Int) (t t' : ByteArray) (w : World) (hN : Nd w) (hm : mayB u s k h n t.size = false) : Calls Tryd.prog 6 #[cv u s k h n t, cv u' s' k' h' n' t'] w (UpPost w) := by
  have HA : ∀ W, Nd W → Hid (Calls Tryd.prog 15 #[cv u s k h n t] W (BoolPost W false)) := fun W hw => by have := may_any u s k h n t W hw; rw [hm] at this; exact this
  go_enter Tryd.func6, Tryd.ntmps6
  go_wp2_with fail
  have BW : Below w.heap.size w ((w.alloc (.cells #[.int .i64 u, .int .i64 s, .int .i64 k, .int .i64 h, .int .i64 n, .string t] 23)).alloc (.cells #[.int .i64 u', .int .i64 s', .int .i64 k', .int .i64 h', .int .i64 n', .string t'] 23)) := ((Below.refl _ _).alloc (Nat.le_refl _) _).alloc (by simp) _
  have Z0 : ((w.alloc (.cells #[.int .i64 u, .int .i64 s, .int .i64 k, .int .i64 h, .int .i64 n, .string t] 23)).alloc (.cells #[.int .i64 u', .int .i64 s', .int .i64 k', .int .i64 h', .int .i64 n', .string t'] 23)).heap.size = w.heap.size + 1 + 1 := by simp
  have C0 : Cb ((w.alloc (.cells #[.int .i64 u, .int .i64 s, .int .i64 k, .int .i64 h, .int .i64 n, .string t] 23)).alloc (.cells #[.int .i64 u', .int .i64 s', .int .i64 k', .int .i64 h', .int .i64 n', .string t'] 23)) w.heap.size u s k h n t := (cb_new w u s k h n t).on ((Below.refl _ _).alloc (Nat.le_refl _) _) (by simp)
  have D0 : Cb ((w.alloc (.cells #[.int .i64 u, .int .i64 s, .int .i64 k, .int .i64 h, .int .i64 n, .string t] 23)).alloc (.cells #[.int .i64 u', .int .i64 s', .int .i64 k', .int .i64 h', .int .i64 n', .string t'] 23)) (w.heap.size + 1) u' s' k' h' n' t' := by
    have := cb_new (w.alloc (.cells #[.int .i64 u, .int .i64 s, .int .i64 k, .int .i64 h, .int .i64 n, .string t] 23)) u' s' k' h' n' t'
    rw [show (w.alloc (.cells #[.int .i64 u, .int .i64 s, .int .i64 k, .int .i64 h, .int .i64 n, .string t] 23)).heap.size = w.heap.size + 1 by simp] at this
    exact this
  have N0 := hN.on BW
  generalize ((w.alloc (.cells #[.int .i64 u, .int .i64 s, .int .i64 k, .int .i64 h, .int .i64 n, .string t] 23)).alloc (.cells #[.int .i64 u', .int .i64 s', .int .i64 k', .int .i64 h', .int .i64 n', .string t'] 23)) = W0 at *
  refine (awake_any W0 N0).mono ?_
  rintro e w1 ⟨rfl, B1⟩
  have q1 := B1.size
  have N1 := N0.on B1
  obtain ⟨p0, p1, p2, p3, p4, p5⟩ := C0.on B1 (by omega)
  go_wp2_with fail
  refine (HA _ N1).out.mono ?_
  rintro e w2 ⟨rfl, B2⟩
  have q2 := B2.size
  have N2 := N1.on B2
  go_wp2
  go_ret
  exact ⟨rfl, BW.trans ((B1.trans (B2.mono q1)).mono BW.size)⟩

theorem not2 (u s k h n u' s' k' h' n' : Int) (t t' : ByteArray) (w : World) (hN : Nd w) (hm : mayB u s k h n t.size = true) (hm' : mayB u' s' k' h' n' t'.size = false) : Calls Tryd.prog 6 #[cv u s k h n t, cv u' s' k' h' n' t'] w (UpPost w) := by
  have HA : ∀ W, Nd W → Hid (Calls Tryd.prog 15 #[cv u s k h n t] W (BoolPost W true)) := fun W hw => by have := may_any u s k h n t W hw; rw [hm] at this; exact this
  have HB : ∀ W, Nd W → Hid (Calls Tryd.prog 15 #[cv u' s' k' h' n' t'] W (BoolPost W false)) := fun W hw => by have := may_any u' s' k' h' n' t' W hw; rw [hm'] at this; exact this
  go_enter Tryd.func6, Tryd.ntmps6
  go_wp2_with fail
  have BW : Below w.heap.size w ((w.alloc (.cells #[.int .i64 u, .int .i64 s, .int .i64 k, .int .i64 h, .int .i64 n, .string t] 23)).alloc (.cells #[.int .i64 u', .int .i64 s', .int .i64 k', .int .i64 h', .int .i64 n', .string t'] 23)) := ((Below.refl _ _).alloc (Nat.le_refl _) _).alloc (by simp) _
  have Z0 : ((w.alloc (.cells #[.int .i64 u, .int .i64 s, .int .i64 k, .int .i64 h, .int .i64 n, .string t] 23)).alloc (.cells #[.int .i64 u', .int .i64 s', .int .i64 k', .int .i64 h', .int .i64 n', .string t'] 23)).heap.size = w.heap.size + 1 + 1 := by simp
  have C0 : Cb ((w.alloc (.cells #[.int .i64 u, .int .i64 s, .int .i64 k, .int .i64 h, .int .i64 n, .string t] 23)).alloc (.cells #[.int .i64 u', .int .i64 s', .int .i64 k', .int .i64 h', .int .i64 n', .string t'] 23)) w.heap.size u s k h n t := (cb_new w u s k h n t).on ((Below.refl _ _).alloc (Nat.le_refl _) _) (by simp)
  have D0 : Cb ((w.alloc (.cells #[.int .i64 u, .int .i64 s, .int .i64 k, .int .i64 h, .int .i64 n, .string t] 23)).alloc (.cells #[.int .i64 u', .int .i64 s', .int .i64 k', .int .i64 h', .int .i64 n', .string t'] 23)) (w.heap.size + 1) u' s' k' h' n' t' := by
    have := cb_new (w.alloc (.cells #[.int .i64 u, .int .i64 s, .int .i64 k, .int .i64 h, .int .i64 n, .string t] 23)) u' s' k' h' n' t'
    rw [show (w.alloc (.cells #[.int .i64 u, .int .i64 s, .int .i64 k, .int .i64 h, .int .i64 n, .string t] 23)).heap.size = w.heap.size + 1 by simp] at this
    exact this
  have N0 := hN.on BW
  generalize ((w.alloc (.cells #[.int .i64 u, .int .i64 s, .int .i64 k, .int .i64 h, .int .i64 n, .string t] 23)).alloc (.cells #[.int .i64 u', .int .i64 s', .int .i64 k', .int .i64 h', .int .i64 n', .string t'] 23)) = W0 at *
  refine (awake_any W0 N0).mono ?_
  rintro e w1 ⟨rfl, B1⟩
  have q1 := B1.size
  have N1 := N0.on B1
  obtain ⟨p0, p1, p2, p3, p4, p5⟩ := C0.on B1 (by omega)
  go_wp2_with fail
  refine (HA _ N1).out.mono ?_
  rintro e w2 ⟨rfl, B2⟩
  have q2 := B2.size
  have N2 := N1.on B2
  have B02 := B1.trans (B2.mono q1)
  obtain ⟨r0, r1, r2, r3, r4, r5⟩ := D0.on B02 (by omega)
  go_wp2_with fail
  refine (HB _ N2).out.mono ?_
  rintro e w3 ⟨rfl, B3⟩
  have q3 := B3.size
  have N3 := N2.on B3
  go_wp2
  go_ret
  exact ⟨rfl, BW.trans ((B02.trans (B3.mono (by omega))).mono BW.size)⟩

theorem not3 (u s h n u' s' k' h' n' : Int) (t t' : ByteArray) (w : World) (hN : Nd w) (hm : mayB u s 0 h n t.size = true) (hm' : mayB u' s' k' h' n' t'.size = true) : Calls Tryd.prog 6 #[cv u s 0 h n t, cv u' s' k' h' n' t'] w (UpPost w) := by
  have HA : ∀ W, Nd W → Hid (Calls Tryd.prog 15 #[cv u s 0 h n t] W (BoolPost W true)) := fun W hw => by have := may_any u s 0 h n t W hw; rw [hm] at this; exact this
  have HB : ∀ W, Nd W → Hid (Calls Tryd.prog 15 #[cv u' s' k' h' n' t'] W (BoolPost W true)) := fun W hw => by have := may_any u' s' k' h' n' t' W hw; rw [hm'] at this; exact this
  clear hm hm'
  go_enter Tryd.func6, Tryd.ntmps6
  go_wp2_with fail
  have BW : Below w.heap.size w ((w.alloc (.cells #[.int .i64 u, .int .i64 s, .int .i64 0, .int .i64 h, .int .i64 n, .string t] 23)).alloc (.cells #[.int .i64 u', .int .i64 s', .int .i64 k', .int .i64 h', .int .i64 n', .string t'] 23)) := ((Below.refl _ _).alloc (Nat.le_refl _) _).alloc (by simp) _
  have Z0 : ((w.alloc (.cells #[.int .i64 u, .int .i64 s, .int .i64 0, .int .i64 h, .int .i64 n, .string t] 23)).alloc (.cells #[.int .i64 u', .int .i64 s', .int .i64 k', .int .i64 h', .int .i64 n', .string t'] 23)).heap.size = w.heap.size + 1 + 1 := by simp
  have C0 : Cb ((w.alloc (.cells #[.int .i64 u, .int .i64 s, .int .i64 0, .int .i64 h, .int .i64 n, .string t] 23)).alloc (.cells #[.int .i64 u', .int .i64 s', .int .i64 k', .int .i64 h', .int .i64 n', .string t'] 23)) w.heap.size u s 0 h n t := (cb_new w u s 0 h n t).on ((Below.refl _ _).alloc (Nat.le_refl _) _) (by simp)
  have D0 : Cb ((w.alloc (.cells #[.int .i64 u, .int .i64 s, .int .i64 0, .int .i64 h, .int .i64 n, .string t] 23)).alloc (.cells #[.int .i64 u', .int .i64 s', .int .i64 k', .int .i64 h', .int .i64 n', .string t'] 23)) (w.heap.size + 1) u' s' k' h' n' t' := by
    have := cb_new (w.alloc (.cells #[.int .i64 u, .int .i64 s, .int .i64 0, .int .i64 h, .int .i64 n, .string t] 23)) u' s' k' h' n' t'
    rw [show (w.alloc (.cells #[.int .i64 u, .int .i64 s, .int .i64 0, .int .i64 h, .int .i64 n, .string t] 23)).heap.size = w.heap.size + 1 by simp] at this
    exact this
  have N0 := hN.on BW
  generalize ((w.alloc (.cells #[.int .i64 u, .int .i64 s, .int .i64 0, .int .i64 h, .int .i64 n, .string t] 23)).alloc (.cells #[.int .i64 u', .int .i64 s', .int .i64 k', .int .i64 h', .int .i64 n', .string t'] 23)) = W0 at *
  refine (awake_any W0 N0).mono ?_
  rintro e w1 ⟨rfl, B1⟩
  have q1 := B1.size
  have N1 := N0.on B1
  obtain ⟨p0, p1, p2, p3, p4, p5⟩ := C0.on B1 (by omega)
  go_wp2_with fail
  refine (HA _ N1).out.mono ?_
  rintro e w2 ⟨rfl, B2⟩
  have q2 := B2.size
  have N2 := N1.on B2
  have B02 := B1.trans (B2.mono q1)
  obtain ⟨r0, r1, r2, r3, r4, r5⟩ := D0.on B02 (by omega)
  go_wp2_with fail
  clear p0 p1 p2 p3 p4 p5 r0 r1 r2 r3 r4 r5
  refine (HB _ N2).out.mono ?_
  rintro e w3 ⟨rfl, B3⟩
  have q3 := B3.size
  have N3 := N2.on B3
  have B03 := B02.trans (B3.mono (by omega))
  have CA := C0.on B03 (by omega)
  have DA := D0.on B03 (by omega)
  obtain ⟨p0, p1, p2, p3, p4, p5⟩ := id CA
  obtain ⟨r0, r1, r2, r3, r4, r5⟩ := id DA
  go_wp2
  go_ret
  exact ⟨rfl, BW.trans (B03.mono BW.size)⟩

theorem not4 (u s k h n u' s' h' n' : Int) (t t' : ByteArray) (w : World) (hN : Nd w) (hk : (k == 0) = false) (hm : mayB u s k h n t.size = true) (hm' : mayB u' s' 0 h' n' t'.size = true) : Calls Tryd.prog 6 #[cv u s k h n t, cv u' s' 0 h' n' t'] w (UpPost w) := by
  have HA : ∀ W, Nd W → Hid (Calls Tryd.prog 15 #[cv u s k h n t] W (BoolPost W true)) := fun W hw => by have := may_any u s k h n t W hw; rw [hm] at this; exact this
  have HB : ∀ W, Nd W → Hid (Calls Tryd.prog 15 #[cv u' s' 0 h' n' t'] W (BoolPost W true)) := fun W hw => by have := may_any u' s' 0 h' n' t' W hw; rw [hm'] at this; exact this
  clear hm hm'
  go_enter Tryd.func6, Tryd.ntmps6
  go_wp2_with fail
  have BW : Below w.heap.size w ((w.alloc (.cells #[.int .i64 u, .int .i64 s, .int .i64 k, .int .i64 h, .int .i64 n, .string t] 23)).alloc (.cells #[.int .i64 u', .int .i64 s', .int .i64 0, .int .i64 h', .int .i64 n', .string t'] 23)) := ((Below.refl _ _).alloc (Nat.le_refl _) _).alloc (by simp) _
  have Z0 : ((w.alloc (.cells #[.int .i64 u, .int .i64 s, .int .i64 k, .int .i64 h, .int .i64 n, .string t] 23)).alloc (.cells #[.int .i64 u', .int .i64 s', .int .i64 0, .int .i64 h', .int .i64 n', .string t'] 23)).heap.size = w.heap.size + 1 + 1 := by simp
  have C0 : Cb ((w.alloc (.cells #[.int .i64 u, .int .i64 s, .int .i64 k, .int .i64 h, .int .i64 n, .string t] 23)).alloc (.cells #[.int .i64 u', .int .i64 s', .int .i64 0, .int .i64 h', .int .i64 n', .string t'] 23)) w.heap.size u s k h n t := (cb_new w u s k h n t).on ((Below.refl _ _).alloc (Nat.le_refl _) _) (by simp)
  have D0 : Cb ((w.alloc (.cells #[.int .i64 u, .int .i64 s, .int .i64 k, .int .i64 h, .int .i64 n, .string t] 23)).alloc (.cells #[.int .i64 u', .int .i64 s', .int .i64 0, .int .i64 h', .int .i64 n', .string t'] 23)) (w.heap.size + 1) u' s' 0 h' n' t' := by
    have := cb_new (w.alloc (.cells #[.int .i64 u, .int .i64 s, .int .i64 k, .int .i64 h, .int .i64 n, .string t] 23)) u' s' 0 h' n' t'
    rw [show (w.alloc (.cells #[.int .i64 u, .int .i64 s, .int .i64 k, .int .i64 h, .int .i64 n, .string t] 23)).heap.size = w.heap.size + 1 by simp] at this
    exact this
  have N0 := hN.on BW
  generalize ((w.alloc (.cells #[.int .i64 u, .int .i64 s, .int .i64 k, .int .i64 h, .int .i64 n, .string t] 23)).alloc (.cells #[.int .i64 u', .int .i64 s', .int .i64 0, .int .i64 h', .int .i64 n', .string t'] 23)) = W0 at *
  refine (awake_any W0 N0).mono ?_
  rintro e w1 ⟨rfl, B1⟩
  have q1 := B1.size
  have N1 := N0.on B1
  obtain ⟨p0, p1, p2, p3, p4, p5⟩ := C0.on B1 (by omega)
  go_wp2_with fail
  refine (HA _ N1).out.mono ?_
  rintro e w2 ⟨rfl, B2⟩
  have q2 := B2.size
  have N2 := N1.on B2
  have B02 := B1.trans (B2.mono q1)
  obtain ⟨r0, r1, r2, r3, r4, r5⟩ := D0.on B02 (by omega)
  go_wp2_with fail
  clear p0 p1 p2 p3 p4 p5 r0 r1 r2 r3 r4 r5
  refine (HB _ N2).out.mono ?_
  rintro e w3 ⟨rfl, B3⟩
  have q3 := B3.size
  have N3 := N2.on B3
  have B03 := B02.trans (B3.mono (by omega))
  have CA := C0.on B03 (by omega)
  have DA := D0.on B03 (by omega)
  obtain ⟨p0, p1, p2, p3, p4, p5⟩ := id CA
  obtain ⟨r0, r1, r2, r3, r4, r5⟩ := id DA
  go_wp2
  go_ret
  exact ⟨rfl, BW.trans (B03.mono BW.size)⟩

set_option maxHeartbeats 1000000 in
theorem same (rx ry : Bool) (u s k h n s' k' h' n' : Int) (t t' : ByteArray) (w : World) (hN : Nd w) (hk : (k == 0) = false) (hk' : (k' == 0) = false) (hm : mayB u s k h n t.size = true) (hm' : mayB u s' k' h' n' t'.size = true)
    (HX : ∀ W, Hid (Calls Tryd.prog 16 #[cv u s k h n t] W (BoolPost W rx))) (HY : ∀ W, Hid (Calls Tryd.prog 16 #[cv u s' k' h' n' t'] W (BoolPost W ry))) (HI : ∀ W, Nd W → Hid (Calls Tryd.prog 10 #[cv u s k h n t, cv u s' k' h' n' t'] W (BoolPost W true))) :
    Calls Tryd.prog 6 #[cv u s k h n t, cv u s' k' h' n' t'] w (UpPost w) := by
  have HA : ∀ W, Nd W → Hid (Calls Tryd.prog 15 #[cv u s k h n t] W (BoolPost W true)) := fun W hw => by have := may_any u s k h n t W hw; rw [hm] at this; exact this
  have HB : ∀ W, Nd W → Hid (Calls Tryd.prog 15 #[cv u s' k' h' n' t'] W (BoolPost W true)) := fun W hw => by have := may_any u s' k' h' n' t' W hw; rw [hm'] at this; exact this
  clear hm hm'
  go_enter Tryd.func6, Tryd.ntmps6
  go_wp2_with fail
  have BW : Below w.heap.size w ((w.alloc (.cells #[.int .i64 u, .int .i64 s, .int .i64 k, .int .i64 h, .int .i64 n, .string t] 23)).alloc (.cells #[.int .i64 u, .int .i64 s', .int .i64 k', .int .i64 h', .int .i64 n', .string t'] 23)) := ((Below.refl _ _).alloc (Nat.le_refl _) _).alloc (by simp) _
  have Z0 : ((w.alloc (.cells #[.int .i64 u, .int .i64 s, .int .i64 k, .int .i64 h, .int .i64 n, .string t] 23)).alloc (.cells #[.int .i64 u, .int .i64 s', .int .i64 k', .int .i64 h', .int .i64 n', .string t'] 23)).heap.size = w.heap.size + 1 + 1 := by simp
  have C0 : Cb ((w.alloc (.cells #[.int .i64 u, .int .i64 s, .int .i64 k, .int .i64 h, .int .i64 n, .string t] 23)).alloc (.cells #[.int .i64 u, .int .i64 s', .int .i64 k', .int .i64 h', .int .i64 n', .string t'] 23)) w.heap.size u s k h n t := (cb_new w u s k h n t).on ((Below.refl _ _).alloc (Nat.le_refl _) _) (by simp)
  have D0 : Cb ((w.alloc (.cells #[.int .i64 u, .int .i64 s, .int .i64 k, .int .i64 h, .int .i64 n, .string t] 23)).alloc (.cells #[.int .i64 u, .int .i64 s', .int .i64 k', .int .i64 h', .int .i64 n', .string t'] 23)) (w.heap.size + 1) u s' k' h' n' t' := by
    have := cb_new (w.alloc (.cells #[.int .i64 u, .int .i64 s, .int .i64 k, .int .i64 h, .int .i64 n, .string t] 23)) u s' k' h' n' t'
    rw [show (w.alloc (.cells #[.int .i64 u, .int .i64 s, .int .i64 k, .int .i64 h, .int .i64 n, .string t] 23)).heap.size = w.heap.size + 1 by simp] at this
    exact this
  have N0 := hN.on BW
  generalize ((w.alloc (.cells #[.int .i64 u, .int .i64 s, .int .i64 k, .int .i64 h, .int .i64 n, .string t] 23)).alloc (.cells #[.int .i64 u, .int .i64 s', .int .i64 k', .int .i64 h', .int .i64 n', .string t'] 23)) = W0 at *
  refine (awake_any W0 N0).mono ?_
  rintro e w1 ⟨rfl, B1⟩
  have q1 := B1.size
  have N1 := N0.on B1
  obtain ⟨p0, p1, p2, p3, p4, p5⟩ := C0.on B1 (by omega)
  go_wp2_with fail
  refine (HA _ N1).out.mono ?_
  rintro e w2 ⟨rfl, B2⟩
  have q2 := B2.size
  have N2 := N1.on B2
  have B02 := B1.trans (B2.mono q1)
  obtain ⟨r0, r1, r2, r3, r4, r5⟩ := D0.on B02 (by omega)
  go_wp2_with fail
  clear p0 p1 p2 p3 p4 p5 r0 r1 r2 r3 r4 r5
  refine (HB _ N2).out.mono ?_
  rintro e w3 ⟨rfl, B3⟩
  have q3 := B3.size
  have N3 := N2.on B3
  have B03 := B02.trans (B3.mono (by omega))
  have CA := C0.on B03 (by omega)
  have DA := D0.on B03 (by omega)
  obtain ⟨p0, p1, p2, p3, p4, p5⟩ := id CA
  obtain ⟨r0, r1, r2, r3, r4, r5⟩ := id DA
  go_wp2_with fail
  clear p0 p1 p2 p3 p4 p5 r0 r1 r2 r3 r4 r5
  refine (HX _).out.mono ?_
  rintro e w4 ⟨rfl, B4⟩
  have q4 := B4.size
  have B04 := B03.trans (B4.mono (by omega))
  obtain ⟨r0, r1, r2, r3, r4, r5⟩ := D0.on B04 (by omega)
  go_wp2_with fail
  clear r0 r1 r2 r3 r4 r5
  refine (HY _).out.mono ?_
  rintro e w5 ⟨rfl, B5⟩
  have q5 := B5.size
  have B05 := B04.trans (B5.mono (by omega))
  have N5 := N0.on B05
  have HI5 := HI _ N5
  obtain ⟨p0, p1, p2, p3, p4, p5⟩ := C0.on B05 (by omega)
  obtain ⟨r0, r1, r2, r3, r4, r5⟩ := D0.on B05 (by omega)
  clear HI HA HB HX HY B1 B2 B3 B4 B5 B02 B03 B04 C0 D0 CA DA N0 N1 N2 N3 N5 hN
  (go_wp2_with fail; refine HI5.out.mono ?_; rintro e w6 ⟨rfl, B6⟩; go_wp2; go_ret; exact ⟨rfl, BW.trans ((B05.trans (B6.mono (by omega))).mono BW.size)⟩)

set_option maxHeartbeats 1000000 in
theorem far (rx ry : Bool) (u s k h n u' s' k' h' n' : Int) (t t' : ByteArray) (w : World) (hN : Nd w) (hk : (k == 0) = false) (hk' : (k' == 0) = false) (hu : (u == u') = false) (hh : (h == h') = false) (hu2 : ¬ u = u') (hh2 : ¬ h = h') (HU : Hid ((u != u') = true)) (hm : mayB u s k h n t.size = true) (hm' : mayB u' s' k' h' n' t'.size = true)
    (HX : ∀ W, Hid (Calls Tryd.prog 16 #[cv u s k h n t] W (BoolPost W rx))) (HY : ∀ W, Hid (Calls Tryd.prog 16 #[cv u' s' k' h' n' t'] W (BoolPost W ry))) (HI : ∀ W, Nd W → Hid (Calls Tryd.prog 10 #[cv u s k h n t, cv u' s' k' h' n' t'] W (BoolPost W false))) :
    Calls Tryd.prog 6 #[cv u s k h n t, cv u' s' k' h' n' t'] w (UpPost w) := by
  have HA : ∀ W, Nd W → Hid (Calls Tryd.prog 15 #[cv u s k h n t] W (BoolPost W true)) := fun W hw => by have := may_any u s k h n t W hw; rw [hm] at this; exact this
  have HB : ∀ W, Nd W → Hid (Calls Tryd.prog 15 #[cv u' s' k' h' n' t'] W (BoolPost W true)) := fun W hw => by have := may_any u' s' k' h' n' t' W hw; rw [hm'] at this; exact this
  clear hm hm'
  go_enter Tryd.func6, Tryd.ntmps6
  go_wp2_with fail
  have BW : Below w.heap.size w ((w.alloc (.cells #[.int .i64 u, .int .i64 s, .int .i64 k, .int .i64 h, .int .i64 n, .string t] 23)).alloc (.cells #[.int .i64 u', .int .i64 s', .int .i64 k', .int .i64 h', .int .i64 n', .string t'] 23)) := ((Below.refl _ _).alloc (Nat.le_refl _) _).alloc (by simp) _
  have Z0 : ((w.alloc (.cells #[.int .i64 u, .int .i64 s, .int .i64 k, .int .i64 h, .int .i64 n, .string t] 23)).alloc (.cells #[.int .i64 u', .int .i64 s', .int .i64 k', .int .i64 h', .int .i64 n', .string t'] 23)).heap.size = w.heap.size + 1 + 1 := by simp
  have C0 : Cb ((w.alloc (.cells #[.int .i64 u, .int .i64 s, .int .i64 k, .int .i64 h, .int .i64 n, .string t] 23)).alloc (.cells #[.int .i64 u', .int .i64 s', .int .i64 k', .int .i64 h', .int .i64 n', .string t'] 23)) w.heap.size u s k h n t := (cb_new w u s k h n t).on ((Below.refl _ _).alloc (Nat.le_refl _) _) (by simp)
  have D0 : Cb ((w.alloc (.cells #[.int .i64 u, .int .i64 s, .int .i64 k, .int .i64 h, .int .i64 n, .string t] 23)).alloc (.cells #[.int .i64 u', .int .i64 s', .int .i64 k', .int .i64 h', .int .i64 n', .string t'] 23)) (w.heap.size + 1) u' s' k' h' n' t' := by
    have := cb_new (w.alloc (.cells #[.int .i64 u, .int .i64 s, .int .i64 k, .int .i64 h, .int .i64 n, .string t] 23)) u' s' k' h' n' t'
    rw [show (w.alloc (.cells #[.int .i64 u, .int .i64 s, .int .i64 k, .int .i64 h, .int .i64 n, .string t] 23)).heap.size = w.heap.size + 1 by simp] at this
    exact this
  have N0 := hN.on BW
  generalize ((w.alloc (.cells #[.int .i64 u, .int .i64 s, .int .i64 k, .int .i64 h, .int .i64 n, .string t] 23)).alloc (.cells #[.int .i64 u', .int .i64 s', .int .i64 k', .int .i64 h', .int .i64 n', .string t'] 23)) = W0 at *
  refine (awake_any W0 N0).mono ?_
  rintro e w1 ⟨rfl, B1⟩
  have q1 := B1.size
  have N1 := N0.on B1
  obtain ⟨p0, p1, p2, p3, p4, p5⟩ := C0.on B1 (by omega)
  go_wp2_with fail
  refine (HA _ N1).out.mono ?_
  rintro e w2 ⟨rfl, B2⟩
  have q2 := B2.size
  have N2 := N1.on B2
  have B02 := B1.trans (B2.mono q1)
  obtain ⟨r0, r1, r2, r3, r4, r5⟩ := D0.on B02 (by omega)
  go_wp2_with fail
  clear p0 p1 p2 p3 p4 p5 r0 r1 r2 r3 r4 r5
  refine (HB _ N2).out.mono ?_
  rintro e w3 ⟨rfl, B3⟩
  have q3 := B3.size
  have N3 := N2.on B3
  have B03 := B02.trans (B3.mono (by omega))
  have CA := C0.on B03 (by omega)
  have DA := D0.on B03 (by omega)
  obtain ⟨p0, p1, p2, p3, p4, p5⟩ := id CA
  obtain ⟨r0, r1, r2, r3, r4, r5⟩ := id DA
  go_wp2_with fail
  clear p0 p1 p2 p3 p4 p5 r0 r1 r2 r3 r4 r5
  refine (HX _).out.mono ?_
  rintro e w4 ⟨rfl, B4⟩
  have q4 := B4.size
  have B04 := B03.trans (B4.mono (by omega))
  obtain ⟨r0, r1, r2, r3, r4, r5⟩ := D0.on B04 (by omega)
  go_wp2_with fail
  clear r0 r1 r2 r3 r4 r5
  refine (HY _).out.mono ?_
  rintro e w5 ⟨rfl, B5⟩
  have q5 := B5.size
  have B05 := B04.trans (B5.mono (by omega))
  have N5 := N0.on B05
  have HI5 := HI _ N5
  obtain ⟨p0, p1, p2, p3, p4, p5⟩ := C0.on B05 (by omega)
  obtain ⟨r0, r1, r2, r3, r4, r5⟩ := D0.on B05 (by omega)
  clear HI HA HB HX HY B1 B2 B3 B4 B5 B02 B03 B04 C0 D0 CA DA N0 N1 N2 N3 N5 hN
  (go_wp2_with fail; refine HI5.out.mono ?_; rintro e w6 ⟨rfl, B6⟩; go_wp2; go_ret; exact ⟨by first | rfl | (show Ending.returned (.bool (u != u')) = _; rw [HU.out]), BW.trans ((B05.trans (B6.mono (by omega))).mono BW.size)⟩)

set_option maxHeartbeats 1000000 in
theorem near (rx ry : Bool) (u s k h n u' s' k' n' : Int) (t t' : ByteArray) (w : World) (hN : Nd w) (hk : (k == 0) = false) (hk' : (k' == 0) = false) (hu : (u == u') = false) (hu2 : ¬ u = u') (HU : Hid ((u != u') = true)) (hm : mayB u s k h n t.size = true) (hm' : mayB u' s' k' h n' t'.size = true)
    (HX : ∀ W, Hid (Calls Tryd.prog 16 #[cv u s k h n t] W (BoolPost W rx))) (HY : ∀ W, Hid (Calls Tryd.prog 16 #[cv u' s' k' h n' t'] W (BoolPost W ry))) (HI : ∀ W, Nd W → Hid (Calls Tryd.prog 10 #[cv u s k h n t, cv u' s' k' h n' t'] W (BoolPost W (!rx || !ry)))) :
    Calls Tryd.prog 6 #[cv u s k h n t, cv u' s' k' h n' t'] w (UpPost w) := by
  have HA : ∀ W, Nd W → Hid (Calls Tryd.prog 15 #[cv u s k h n t] W (BoolPost W true)) := fun W hw => by have := may_any u s k h n t W hw; rw [hm] at this; exact this
  have HB : ∀ W, Nd W → Hid (Calls Tryd.prog 15 #[cv u' s' k' h n' t'] W (BoolPost W true)) := fun W hw => by have := may_any u' s' k' h n' t' W hw; rw [hm'] at this; exact this
  clear hm hm'
  go_enter Tryd.func6, Tryd.ntmps6
  go_wp2_with fail
  have BW : Below w.heap.size w ((w.alloc (.cells #[.int .i64 u, .int .i64 s, .int .i64 k, .int .i64 h, .int .i64 n, .string t] 23)).alloc (.cells #[.int .i64 u', .int .i64 s', .int .i64 k', .int .i64 h, .int .i64 n', .string t'] 23)) := ((Below.refl _ _).alloc (Nat.le_refl _) _).alloc (by simp) _
  have Z0 : ((w.alloc (.cells #[.int .i64 u, .int .i64 s, .int .i64 k, .int .i64 h, .int .i64 n, .string t] 23)).alloc (.cells #[.int .i64 u', .int .i64 s', .int .i64 k', .int .i64 h, .int .i64 n', .string t'] 23)).heap.size = w.heap.size + 1 + 1 := by simp
  have C0 : Cb ((w.alloc (.cells #[.int .i64 u, .int .i64 s, .int .i64 k, .int .i64 h, .int .i64 n, .string t] 23)).alloc (.cells #[.int .i64 u', .int .i64 s', .int .i64 k', .int .i64 h, .int .i64 n', .string t'] 23)) w.heap.size u s k h n t := (cb_new w u s k h n t).on ((Below.refl _ _).alloc (Nat.le_refl _) _) (by simp)
  have D0 : Cb ((w.alloc (.cells #[.int .i64 u, .int .i64 s, .int .i64 k, .int .i64 h, .int .i64 n, .string t] 23)).alloc (.cells #[.int .i64 u', .int .i64 s', .int .i64 k', .int .i64 h, .int .i64 n', .string t'] 23)) (w.heap.size + 1) u' s' k' h n' t' := by
    have := cb_new (w.alloc (.cells #[.int .i64 u, .int .i64 s, .int .i64 k, .int .i64 h, .int .i64 n, .string t] 23)) u' s' k' h n' t'
    rw [show (w.alloc (.cells #[.int .i64 u, .int .i64 s, .int .i64 k, .int .i64 h, .int .i64 n, .string t] 23)).heap.size = w.heap.size + 1 by simp] at this
    exact this
  have N0 := hN.on BW
  generalize ((w.alloc (.cells #[.int .i64 u, .int .i64 s, .int .i64 k, .int .i64 h, .int .i64 n, .string t] 23)).alloc (.cells #[.int .i64 u', .int .i64 s', .int .i64 k', .int .i64 h, .int .i64 n', .string t'] 23)) = W0 at *
  refine (awake_any W0 N0).mono ?_
  rintro e w1 ⟨rfl, B1⟩
  have q1 := B1.size
  have N1 := N0.on B1
  obtain ⟨p0, p1, p2, p3, p4, p5⟩ := C0.on B1 (by omega)
  go_wp2_with fail
  refine (HA _ N1).out.mono ?_
  rintro e w2 ⟨rfl, B2⟩
  have q2 := B2.size
  have N2 := N1.on B2
  have B02 := B1.trans (B2.mono q1)
  obtain ⟨r0, r1, r2, r3, r4, r5⟩ := D0.on B02 (by omega)
  go_wp2_with fail
  clear p0 p1 p2 p3 p4 p5 r0 r1 r2 r3 r4 r5
  refine (HB _ N2).out.mono ?_
  rintro e w3 ⟨rfl, B3⟩
  have q3 := B3.size
  have N3 := N2.on B3
  have B03 := B02.trans (B3.mono (by omega))
  have CA := C0.on B03 (by omega)
  have DA := D0.on B03 (by omega)
  obtain ⟨p0, p1, p2, p3, p4, p5⟩ := id CA
  obtain ⟨r0, r1, r2, r3, r4, r5⟩ := id DA
  go_wp2_with fail
  clear p0 p1 p2 p3 p4 p5 r0 r1 r2 r3 r4 r5
  refine (HX _).out.mono ?_
  rintro e w4 ⟨rfl, B4⟩
  have q4 := B4.size
  have B04 := B03.trans (B4.mono (by omega))
  obtain ⟨r0, r1, r2, r3, r4, r5⟩ := D0.on B04 (by omega)
  go_wp2_with fail
  clear r0 r1 r2 r3 r4 r5
  refine (HY _).out.mono ?_
  rintro e w5 ⟨rfl, B5⟩
  have q5 := B5.size
  have B05 := B04.trans (B5.mono (by omega))
  have N5 := N0.on B05
  have HI5 := HI _ N5
  obtain ⟨p0, p1, p2, p3, p4, p5⟩ := C0.on B05 (by omega)
  obtain ⟨r0, r1, r2, r3, r4, r5⟩ := D0.on B05 (by omega)
  clear HI HA HB HX HY B1 B2 B3 B4 B5 B02 B03 B04 C0 D0 CA DA N0 N1 N2 N3 N5 hN
  cases rx <;> cases ry <;> (go_wp2_with fail; refine HI5.out.mono ?_; rintro e w6 ⟨rfl, B6⟩; go_wp2; go_ret; exact ⟨by first | rfl | (show Ending.returned (.bool (u != u')) = _; rw [HU.out]), BW.trans ((B05.trans (B6.mono (by omega))).mono BW.size)⟩)

theorem walk (x0 x1 : Cd) (w : World) (hN : Nd w) : Calls Tryd.prog 6 #[cv x0.u x0.s x0.k x0.h x0.n x0.t, cv x1.u x1.s x1.k x1.h x1.n x1.t] w (UpPost w) := by
  rcases hm : x0.may with _ | _
  · exact not1 _ _ _ _ _ _ _ _ _ _ _ _ w hN hm
  · rcases hm' : x1.may with _ | _
    · exact not2 _ _ _ _ _ _ _ _ _ _ _ _ w hN hm hm'
    · by_cases hk : x0.k = 0
      · unfold Cd.may at hm
        rw [hk] at hm ⊢
        exact not3 _ _ _ _ _ _ _ _ _ _ _ w hN hm hm'
      · have kx : (x0.k == 0) = false := by rw [beq_eq_false_iff_ne]; exact hk
        by_cases hk' : x1.k = 0
        · unfold Cd.may at hm'
          rw [hk'] at hm' ⊢
          exact not4 _ _ _ _ _ _ _ _ _ _ _ w hN kx hm hm'
        · have ky : (x1.k == 0) = false := by rw [beq_eq_false_iff_ne]; exact hk'
          have HX : ∀ W, Hid (Calls Tryd.prog 16 #[cv x0.u x0.s x0.k x0.h x0.n x0.t] W (BoolPost W (rdB x0.k))) := fun W => reads_any _ _ _ _ _ _ W
          have HY : ∀ W, Hid (Calls Tryd.prog 16 #[cv x1.u x1.s x1.k x1.h x1.n x1.t] W (BoolPost W (rdB x1.k))) := fun W => reads_any _ _ _ _ _ _ W
          have HI : ∀ W, Nd W → Hid (Calls Tryd.prog 10 #[cv x0.u x0.s x0.k x0.h x0.n x0.t, cv x1.u x1.s x1.k x1.h x1.n x1.t] W (BoolPost W ((x0.u == x1.u) || ((x0.h == x1.h) && (!rdB x0.k || !rdB x1.k))))) := fun W hw => by have := itf_any x0 x1 W hw; rw [itf_on (on_yes kx hm) (on_yes ky hm')] at this; exact this
          unfold Cd.may at hm hm'
          by_cases hu : x0.u = x1.u
          · rw [hu] at hm HX HI ⊢
            exact same _ _ _ _ _ _ _ _ _ _ _ _ _ w hN kx ky hm hm' HX HY (fun W hw => by have := HI W hw; rw [beq_self_eq_true] at this; exact this)
          · have eu : (x0.u == x1.u) = false := by rw [beq_eq_false_iff_ne]; exact hu
            rw [eu] at HI
            by_cases hh : x0.h = x1.h
            · rw [hh] at hm HX HI ⊢
              exact near _ _ _ _ _ _ _ _ _ _ _ _ _ w hN kx ky eu hu (by show _ = _; rw [bne, eu]; rfl) hm hm' HX HY (fun W hw => by have := HI W hw; rw [beq_self_eq_true] at this; exact this)
            · have eh : (x0.h == x1.h) = false := by rw [beq_eq_false_iff_ne]; exact hh
              rw [eh] at HI
              exact far _ _ _ _ _ _ _ _ _ _ _ _ _ _ w hN kx ky eu eh hu hh (by show _ = _; rw [bne, eu]; rfl) hm hm' HX HY HI

set_option maxRecDepth 100000 in
theorem lifted (os : Os) (started : os.Started) (H : Type) (enc : TypeId × Value → H) :
    ReturnsInHanded {} Tryd.checked os 6 .any (fun w args => (Rows.keysApartSpec.pre enc Tryd.prog Tryd.f6 [] false w args ∧ laidMetH Tryd.prog laid4 w) ∧ sizedMet enc Tryd.prog Tryd.f6 (OpenSpec.ofChange Rows.keysApartSpec) false w args)
      (Rows.keysApartSpec.post enc Tryd.prog Tryd.f6 false true false false) := by
  refine returnsInHanded_of_change_and (C := Tryd.checked) (X := fun w _ => laidMetH Tryd.prog laid4 w) (fun _ _ _ hh h => h.of_heap hh) own started (by kernel_rfl) Tryd.func6
    (ChangeSpec.witness_shaped (enc := enc) (C := Tryd.checked) (os := os) (X := fun w _ => laidMetH Tryd.prog laid4 w) false (World.doorLaid Tryd.prog 18 os) #[.agg #[.int .i64 0, .int .i64 0, .int .i64 0, .int .i64 0, .int .i64 0, .string ⟨#[]⟩], .agg #[.int .i64 0, .int .i64 0, .int .i64 0, .int .i64 0, .int .i64 0, .string ⟨#[]⟩]] 8 rfl (World.shaped_of_RefB (by kernel_rfl) (by kernel_rfl)) (by kernel_rfl) (by kernel_rfl) (by kernel_rfl) (door_met os _)) ?_
  intro W base args ds gs before hval0 hW _ _ hL _
  have hN := nd_of_laid hL
  have hval : ∀ (j : Nat) t v, Tryd.f6.params[j]? = some t → args[j]? = some v → Value.okWide Tryd.prog W .any base t v := hval0
  have hW' := hW
  obtain ⟨p, q, hA0, hV, rfl, hfz, hnd⟩ := hW
  have hA : DataW.TrodAll enc Tryd.prog W 0 (fun _ => true) true Tryd.f6.params.toList args.toList ds p := hA0
  rw [Tryd.params6] at hA hval
  obtain ⟨v0, vs0, d0, ds0, p0, q0, hargs, rfl, rfl, h0, r0⟩ := trodAll_cons hA
  obtain ⟨v1, vs1, d1, ds1, p1, q1, rfl, rfl, rfl, h1, r1⟩ := trodAll_cons r0
  obtain ⟨rfl, rfl, rfl⟩ := trodAll_nil r1
  obtain rfl : args = #[v0, v1] := by cases args; simp_all
  obtain ⟨rfl, rfl⟩ := trodVars_none hV
  have k0' := h0
  have lt0 : ∀ x ∈ p0, x.block < W.heap.size := by obtain ⟨m, hm⟩ := k0'; exact DataW.trod_lt m _ _ _ hm
  obtain ⟨x0, rfl⟩ := open_cmd (hval 0 23 v0 rfl rfl) h0
  have k1' := h1
  have lt1 : ∀ x ∈ p1, x.block < W.heap.size := by obtain ⟨m, hm⟩ := k1'; exact DataW.trod_lt m _ _ _ hm
  obtain ⟨x1, rfl⟩ := open_cmd (hval 1 23 v1 rfl rfl) h1
  clear hA0 hval0
  refine (walk x0 x1 W hN  ).mono fun e W' ⟨he, bel⟩ => ?_
  subst he
  exact ⟨_, rfl, _, _, _, [], _, [], hW', trodAll_mk1 (shut_bool Tryd.underlying4 _), (trodAll_cons_mk (Below.trod laidOut (by kernel_rfl) (of_decide_eq_true (by kernel_rfl)) k0' bel lt0) (trodAll_cons_mk (Below.trod laidOut (by kernel_rfl) (of_decide_eq_true (by kernel_rfl)) k1' bel lt1) trodAll_mk0)), rfl, bel.frame _, fun h => by cases h⟩

theorem over : Rows.KeysApartSaid :=
  OpenClaim.holds_of_wide 6 Tryd.f6 rfl rfl rfl rfl rfl rfl rfl ⟨rfl, rfl, rfl, rfl, rfl⟩ rfl rfl rfl rfl rfl (by kernel_rfl) Tryd.func6 (by kernel_rfl)
    (of_decide_eq_true (by kernel_rfl)) (by unfold Func.isWrapper; first | (rw [if_pos (by decide +kernel)]; kernel_rfl) | (rw [if_neg (by decide +kernel)]; exact ⟨rfl, rfl⟩))
    (fun os started H enc _ => lifted os started H enc)

theorem proved : Rows.KeysApartCardSaid :=
  Claim7.holds_tied_plain_at .later [] [.data] true (true, "bf996c1659db8f8bd19cd74e829fb44e501c00b08f30b8180ae3fe74fe87094c") false
    over (fun _ h => by cases h) (by kernel_rfl) (fun _ h => by cases h) keysApart_row_tie rfl ⟨rfl, rfl⟩ (by kernel_rfl) rfl
    (fun f fn hf hfn => by
      obtain rfl : f = 6 := Option.some.inj ((show Tryd.prog.funcNamed "colloquy/colloquylaw05.KeysApart" = some 6 by kernel_rfl).symm.trans hf) |>.symm
      obtain rfl : fn = Tryd.f6 := (Option.some.inj (Tryd.func6.symm.trans hfn)).symm
      exact ⟨by kernel_rfl, fun j t ht => by
        rw [Tryd.params6] at ht
        have hm : t ∈ [23, 23] := by simpa using Array.mem_of_getElem? ht
        have hall : ([23, 23].all fun u => !Tryd.prog.wantsStandIn u) = true := by kernel_rfl
        exact (show Tryd.prog.wantsStandIn t = false by simpa using List.all_eq_true.1 hall t hm)⟩)
    (by kernel_rfl)
#print axioms proved
end Go.Proofs.YtdpjkbhofebdiaaDoor.keysApart
