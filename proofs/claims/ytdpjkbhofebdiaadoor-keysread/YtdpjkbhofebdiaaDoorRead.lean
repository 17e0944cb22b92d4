/-
  Two that both read interfere just if they are of one user: KeysRead answers true whatever the two commands; they read as they did. Conditions: none beyond the card's own (the table of what kinds need reads as its initialiser lays it).
-/
import Derived.Test.YtdpjkbhofebdiaaDoorOpen
import Derived.Deep.RegionHeld3
import Derived.Deep.DrawnRows
import Derived.Test.YtdpjkbhofebdiaaDoorCards
import Derived.Test.YtdpjkbhofebdiaaDoorTie
import Derived.SevenTiedAt
namespace Go.Proofs.YtdpjkbhofebdiaaDoor.keysRead
open Go.ChangeShapes Go.WideShapes Go.ChangeAt Go.RowKit Go.Joins
set_option linter.unusedVariables false

theorem not1 (u s k h n u' s' k' h' n' : Int) (t t' : ByteArray) (w : World) (hN : Nd w) (hm : mayB u s k h n t.size = false) : Calls Tryd.prog 8 #[cv u s k h n t, cv u' s' k' h' n' t'] w (UpPost w) := by
  have HA : ∀ W, Nd W → Hid (Calls Tryd.prog 15 #[cv u s k h n t] W (BoolPost W false)) := fun W hw => by have := may_any u s k h n t W hw; rw [hm] at this; exact this
  go_enter Tryd.func8, Tryd.ntmps8
  go_wp2_with fail
  have BW : Below w.heap.size w ((w.alloc (.cells #[.int .i64 u, .int .i64 s, .int .i64 k, .int .i64 h, .int .i64 n, .string t] 23)).alloc (.cells #[.int .i64 u', .int .i64 s', .int .i64 k', .int .i64 h', .int .i64 n', .string t'] 23)) := ((Below.refl _ _).alloc (Nat.le_refl _) _).alloc (by simp) _
  have Z0 : ((w.alloc (.cells #[.int .i64 u, .int .i64 s, .int .i64 k, .int .i64 h, .int .i64 n, .string t] 23)).alloc (.cells #[.int .i64 u', .int .i64 s', .int .i64 k', .int .i64 h', .int .i64 n', .string t'] 23)).heap.size = w.heap.size + 1 + 1 := by simp
  have C0 : Cb ((w.alloc (.cells #[.int .i64 u, .int .i64 s, .int .i64 k, .int .i64 h, .int .i64 n, .string t] 23)).alloc (.cells #[.int .i64 u', .int .i64 s', .int .i64 k', .int .i64 h', .int .i64 n', .string t'] 23)) w.heap.size u s k h n t := (cb_new w u s k h n t).on ((Below.refl _ _).alloc (Nat.le_refl _) _) (by simp)
  have D0 : Cb ((w.alloc (.cells #[.int .i64 u, .int .i64 s, .int .i64 k, .int .i64 h, .int .i64 n, .string t] 23)).alloc (.cells #[.int .i64 u', .int .i64 s', .int .i64 k', .int .i64 h', .int .i64 n', .string t'] 23)) (w.heap.size + 1) u' s' k' h' n' t' := by
    have := cb_new (w.alloc (.cells #[.int .i64 u, .int .i64 s, .int .i64 k, .int .i64 h, .int .i64 n, .string t] 23)) u' s' k' h' n' t'
    rw [show (w.alloc (.cells #[.int .i64 u, .int .i64 s, .int .i64 k, .int .i64 h, .int .i64 n, .string t] 23)).heap.size = w.heap.size + 1 by simp] at this
    exact this
  have N0 := hN.on BW
  generalize ((w.alloc (.cells #[.int .i64 u, .int .i64 s, .int .i64 k, .int .i64 h, .int .i64 n, .string t] 23)).alloc (.cells #[.int .i64 u', .int .i64 s', .int .i64 k', .int .i64 h', .int .i64 n', .string t'] 23)) = W0 at *
  refine (awake_any W0 N0).mono ?_
  rintro e w1 ⟨rfl, B1⟩
  have q1 := B1.size
  have N1 := N0.on B1
  obtain ⟨p0, p1, p2, p3, p4, p5⟩ := C0.on B1 (by omega)
  go_wp2_with fail
  refine (HA _ N1).out.mono ?_
  rintro e w2 ⟨rfl, B2⟩
  have q2 := B2.size
  have N2 := N1.on B2
  go_wp2
  go_ret
  exact ⟨rfl, BW.trans ((B1.trans (B2.mono q1)).mono BW.size)⟩

theorem not2 (u s k h n u' s' k' h' n' : Int) (t t' : ByteArray) (w : World) (hN : Nd w) (hm : mayB u s k h n t.size = true) (hm' : mayB u' s' k' h' n' t'.size = false) : Calls Tryd.prog 8 #[cv u s k h n t, cv u' s' k' h' n' t'] w (UpPost w) := by
  have HA : ∀ W, Nd W → Hid (Calls Tryd.prog 15 #[cv u s k h n t] W (BoolPost W true)) := fun W hw => by have := may_any u s k h n t W hw; rw [hm] at this; exact this
  have HB : ∀ W, Nd W → Hid (Calls Tryd.prog 15 #[cv u' s' k' h' n' t'] W (BoolPost W false)) := fun W hw => by have := may_any u' s' k' h' n' t' W hw; rw [hm'] at this; exact this
  go_enter Tryd.func8, Tryd.ntmps8
  go_wp2_with fail
  have BW : Below w.heap.size w ((w.alloc (.cells #[.int .i64 u, .int .i64 s, .int .i64 k, .int .i64 h, .int .i64 n, .string t] 23)).alloc (.cells #[.int .i64 u', .int .i64 s', .int .i64 k', .int .i64 h', .int .i64 n', .string t'] 23)) := ((Below.refl _ _).alloc (Nat.le_refl _) _).alloc (by simp) _
  have Z0 : ((w.alloc (.cells #[.int .i64 u, .int .i64 s, .int .i64 k, .int .i64 h, .int .i64 n, .string t] 23)).alloc (.cells #[.int .i64 u', .int .i64 s', .int .i64 k', .int .i64 h', .int .i64 n', .string t'] 23)).heap.size = w.heap.size + 1 + 1 := by simp
  have C0 : Cb ((w.alloc (.cells #[.int .i64 u, .int .i64 s, .int .i64 k, .int .i64 h, .int .i64 n, .string t] 23)).alloc (.cells #[.int .i64 u', .int .i64 s', .int .i64 k', .int .i64 h', .int .i64 n', .string t'] 23)) w.heap.size u s k h n t := (cb_new w u s k h n t).on ((Below.refl _ _).alloc (Nat.le_refl _) _) (by simp)
  have D0 : Cb ((w.alloc (.cells #[.int .i64 u, .int .i64 s, .int .i64 k, .int .i64 h, .int .i64 n, .string t] 23)).alloc (.cells #[.int .i64 u', .int .i64 s', .int .i64 k', .int .i64 h', .int .i64 n', .string t'] 23)) (w.heap.size + 1) u' s' k' h' n' t' := by
    have := cb_new (w.alloc (.cells #[.int .i64 u, .int .i64 s, .int .i64 k, .int .i64 h, .int .i64 n, .string t] 23)) u' s' k' h' n' t'
    rw [show (w.alloc (.cells #[.int .i64 u, .int .i64 s, .int .i64 k, .int .i64 h, .int .i64 n, .string t] 23)).heap.size = w.heap.size + 1 by simp] at this
    exact this
  have N0 := hN.on BW
  generalize ((w.alloc (.cells #[.int .i64 u, .int .i64 s, .int .i64 k, .int .i64 h, .int .i64 n, .string t] 23)).alloc (.cells #[.int .i64 u', .int .i64 s', .int .i64 k', .int .i64 h', .int .i64 n', .string t'] 23)) = W0 at *
  refine (awake_any W0 N0).mono ?_
  rintro e w1 ⟨rfl, B1⟩
  have q1 := B1.size
  have N1 := N0.on B1
  obtain ⟨p0, p1, p2, p3, p4, p5⟩ := C0.on B1 (by omega)
  go_wp2_with fail
  refine (HA _ N1).out.mono ?_
  rintro e w2 ⟨rfl, B2⟩
  have q2 := B2.size
  have N2 := N1.on B2
  have B02 := B1.trans (B2.mono q1)
  obtain ⟨r0, r1, r2, r3, r4, r5⟩ := D0.on B02 (by omega)
  go_wp2_with fail
  refine (HB _ N2).out.mono ?_
  rintro e w3 ⟨rfl, B3⟩
  have q3 := B3.size
  have N3 := N2.on B3
  go_wp2
  go_ret
  exact ⟨rfl, BW.trans ((B02.trans (B3.mono (by omega))).mono BW.size)⟩

theorem not3 (u s k h n u' s' k' h' n' : Int) (t t' : ByteArray) (w : World) (hN : Nd w) (hk : (k == 7) = false) (hm : mayB u s k h n t.size = true) (hm' : mayB u' s' k' h' n' t'.size = true) : Calls Tryd.prog 8 #[cv u s k h n t, cv u' s' k' h' n' t'] w (UpPost w) := by
  have HA : ∀ W, Nd W → Hid (Calls Tryd.prog 15 #[cv u s k h n t] W (BoolPost W true)) := fun W hw => by have := may_any u s k h n t W hw; rw [hm] at this; exact this
  have HB : ∀ W, Nd W → Hid (Calls Tryd.prog 15 #[cv u' s' k' h' n' t'] W (BoolPost W true)) := fun W hw => by have := may_any u' s' k' h' n' t' W hw; rw [hm'] at this; exact this
  clear hm hm'
  go_enter Tryd.func8, Tryd.ntmps8
  go_wp2_with fail
  have BW : Below w.heap.size w ((w.alloc (.cells #[.int .i64 u, .int .i64 s, .int .i64 k, .int .i64 h, .int .i64 n, .string t] 23)).alloc (.cells #[.int .i64 u', .int .i64 s', .int .i64 k', .int .i64 h', .int .i64 n', .string t'] 23)) := ((Below.refl _ _).alloc (Nat.le_refl _) _).alloc (by simp) _
  have Z0 : ((w.alloc (.cells #[.int .i64 u, .int .i64 s, .int .i64 k, .int .i64 h, .int .i64 n, .string t] 23)).alloc (.cells #[.int .i64 u', .int .i64 s', .int .i64 k', .int .i64 h', .int .i64 n', .string t'] 23)).heap.size = w.heap.size + 1 + 1 := by simp
  have C0 : Cb ((w.alloc (.cells #[.int .i64 u, .int .i64 s, .int .i64 k, .int .i64 h, .int .i64 n, .string t] 23)).alloc (.cells #[.int .i64 u', .int .i64 s', .int .i64 k', .int .i64 h', .int .i64 n', .string t'] 23)) w.heap.size u s k h n t := (cb_new w u s k h n t).on ((Below.refl _ _).alloc (Nat.le_refl _) _) (by simp)
  have D0 : Cb ((w.alloc (.cells #[.int .i64 u, .int .i64 s, .int .i64 k, .int .i64 h, .int .i64 n, .string t] 23)).alloc (.cells #[.int .i64 u', .int .i64 s', .int .i64 k', .int .i64 h', .int .i64 n', .string t'] 23)) (w.heap.size + 1) u' s' k' h' n' t' := by
    have := cb_new (w.alloc (.cells #[.int .i64 u, .int .i64 s, .int .i64 k, .int .i64 h, .int .i64 n, .string t] 23)) u' s' k' h' n' t'
    rw [show (w.alloc (.cells #[.int .i64 u, .int .i64 s, .int .i64 k, .int .i64 h, .int .i64 n, .string t] 23)).heap.size = w.heap.size + 1 by simp] at this
    exact this
  have N0 := hN.on BW
  generalize ((w.alloc (.cells #[.int .i64 u, .int .i64 s, .int .i64 k, .int .i64 h, .int .i64 n, .string t] 23)).alloc (.cells #[.int .i64 u', .int .i64 s', .int .i64 k', .int .i64 h', .int .i64 n', .string t'] 23)) = W0 at *
  refine (awake_any W0 N0).mono ?_
  rintro e w1 ⟨rfl, B1⟩
  have q1 := B1.size
  have N1 := N0.on B1
  obtain ⟨p0, p1, p2, p3, p4, p5⟩ := C0.on B1 (by omega)
  go_wp2_with fail
  refine (HA _ N1).out.mono ?_
  rintro e w2 ⟨rfl, B2⟩
  have q2 := B2.size
  have N2 := N1.on B2
  have B02 := B1.trans (B2.mono q1)
  obtain ⟨r0, r1, r2, r3, r4, r5⟩ := D0.on B02 (by omega)
  go_wp2_with fail
  clear p0 p1 p2 p3 p4 p5 r0 r1 r2 r3 r4 r5
  refine (HB _ N2).out.mono ?_
  rintro e w3 ⟨rfl, B3⟩
  have q3 := B3.size
  have N3 := N2.on B3
  have B03 := B02.trans (B3.mono (by omega))
  have CA := C0.on B03 (by omega)
  have DA := D0.on B03 (by omega)
  obtain ⟨p0, p1, p2, p3, p4, p5⟩ := id CA
  obtain ⟨r0, r1, r2, r3, r4, r5⟩ := id DA
  go_wp2
  go_ret
  exact ⟨rfl, BW.trans (B03.mono BW.size)⟩

theorem not4 (u s k h n u' s' k' h' n' : Int) (t t' : ByteArray) (w : World) (hN : Nd w) (hk : (k == 7) = true) (hk' : (k' == 7) = false) (hm : mayB u s k h n t.size = true) (hm' : mayB u' s' k' h' n' t'.size = true) : Calls Tryd.prog 8 #[cv u s k h n t, cv u' s' k' h' n' t'] w (UpPost w) := by
  have hk7 : k = 7 := by simpa using hk
  subst hk7
  clear hk
  have HA : ∀ W, Nd W → Hid (Calls Tryd.prog 15 #[cv u s 7 h n t] W (BoolPost W true)) := fun W hw => by have := may_any u s 7 h n t W hw; rw [hm] at this; exact this
  have HB : ∀ W, Nd W → Hid (Calls Tryd.prog 15 #[cv u' s' k' h' n' t'] W (BoolPost W true)) := fun W hw => by have := may_any u' s' k' h' n' t' W hw; rw [hm'] at this; exact this
  clear hm hm'
  go_enter Tryd.func8, Tryd.ntmps8
  go_wp2_with fail
  have BW : Below w.heap.size w ((w.alloc (.cells #[.int .i64 u, .int .i64 s, .int .i64 7, .int .i64 h, .int .i64 n, .string t] 23)).alloc (.cells #[.int .i64 u', .int .i64 s', .int .i64 k', .int .i64 h', .int .i64 n', .string t'] 23)) := ((Below.refl _ _).alloc (Nat.le_refl _) _).alloc (by simp) _
  have Z0 : ((w.alloc (.cells #[.int .i64 u, .int .i64 s, .int .i64 7, .int .i64 h, .int .i64 n, .string t] 23)).alloc (.cells #[.int .i64 u', .int .i64 s', .int .i64 k', .int .i64 h', .int .i64 n', .string t'] 23)).heap.size = w.heap.size + 1 + 1 := by simp
  have C0 : Cb ((w.alloc (.cells #[.int .i64 u, .int .i64 s, .int .i64 7, .int .i64 h, .int .i64 n, .string t] 23)).alloc (.cells #[.int .i64 u', .int .i64 s', .int .i64 k', .int .i64 h', .int .i64 n', .string t'] 23)) w.heap.size u s 7 h n t := (cb_new w u s 7 h n t).on ((Below.refl _ _).alloc (Nat.le_refl _) _) (by simp)
  have D0 : Cb ((w.alloc (.cells #[.int .i64 u, .int .i64 s, .int .i64 7, .int .i64 h, .int .i64 n, .string t] 23)).alloc (.cells #[.int .i64 u', .int .i64 s', .int .i64 k', .int .i64 h', .int .i64 n', .string t'] 23)) (w.heap.size + 1) u' s' k' h' n' t' := by
    have := cb_new (w.alloc (.cells #[.int .i64 u, .int .i64 s, .int .i64 7, .int .i64 h, .int .i64 n, .string t] 23)) u' s' k' h' n' t'
    rw [show (w.alloc (.cells #[.int .i64 u, .int .i64 s, .int .i64 7, .int .i64 h, .int .i64 n, .string t] 23)).heap.size = w.heap.size + 1 by simp] at this
    exact this
  have N0 := hN.on BW
  generalize ((w.alloc (.cells #[.int .i64 u, .int .i64 s, .int .i64 7, .int .i64 h, .int .i64 n, .string t] 23)).alloc (.cells #[.int .i64 u', .int .i64 s', .int .i64 k', .int .i64 h', .int .i64 n', .string t'] 23)) = W0 at *
  refine (awake_any W0 N0).mono ?_
  rintro e w1 ⟨rfl, B1⟩
  have q1 := B1.size
  have N1 := N0.on B1
  obtain ⟨p0, p1, p2, p3, p4, p5⟩ := C0.on B1 (by omega)
  go_wp2_with fail
  refine (HA _ N1).out.mono ?_
  rintro e w2 ⟨rfl, B2⟩
  have q2 := B2.size
  have N2 := N1.on B2
  have B02 := B1.trans (B2.mono q1)
  obtain ⟨r0, r1, r2, r3, r4, r5⟩ := D0.on B02 (by omega)
  go_wp2_with fail
  clear p0 p1 p2 p3 p4 p5 r0 r1 r2 r3 r4 r5
  refine (HB _ N2).out.mono ?_
  rintro e w3 ⟨rfl, B3⟩
  have q3 := B3.size
  have N3 := N2.on B3
  have B03 := B02.trans (B3.mono (by omega))
  have CA := C0.on B03 (by omega)
  have DA := D0.on B03 (by omega)
  obtain ⟨p0, p1, p2, p3, p4, p5⟩ := id CA
  obtain ⟨r0, r1, r2, r3, r4, r5⟩ := id DA
  go_wp2
  go_ret
  exact ⟨rfl, BW.trans (B03.mono BW.size)⟩

set_option maxHeartbeats 1000000 in
theorem both (u s h n u' s' h' n' : Int) (t t' : ByteArray) (w : World) (hN : Nd w) (hm : mayB u s 7 h n t.size = true) (hm' : mayB u' s' 7 h' n' t'.size = true) (hi : itf ⟨u, s, 7, h, n, t⟩ ⟨u', s', 7, h', n', t'⟩ = (u == u')) : Calls Tryd.prog 8 #[cv u s 7 h n t, cv u' s' 7 h' n' t'] w (UpPost w) := by
  have HI : ∀ W, Nd W → Hid (Calls Tryd.prog 10 #[cv u s 7 h n t, cv u' s' 7 h' n' t'] W (BoolPost W (u == u'))) := fun W hw => by have := itf_any ⟨u, s, 7, h, n, t⟩ ⟨u', s', 7, h', n', t'⟩ W hw; rw [hi] at this; exact this
  clear hi
  have HA : ∀ W, Nd W → Hid (Calls Tryd.prog 15 #[cv u s 7 h n t] W (BoolPost W true)) := fun W hw => by have := may_any u s 7 h n t W hw; rw [hm] at this; exact this
  have HB : ∀ W, Nd W → Hid (Calls Tryd.prog 15 #[cv u' s' 7 h' n' t'] W (BoolPost W true)) := fun W hw => by have := may_any u' s' 7 h' n' t' W hw; rw [hm'] at this; exact this
  clear hm hm'
  go_enter Tryd.func8, Tryd.ntmps8
  go_wp2_with fail
  have BW : Below w.heap.size w ((w.alloc (.cells #[.int .i64 u, .int .i64 s, .int .i64 7, .int .i64 h, .int .i64 n, .string t] 23)).alloc (.cells #[.int .i64 u', .int .i64 s', .int .i64 7, .int .i64 h', .int .i64 n', .string t'] 23)) := ((Below.refl _ _).alloc (Nat.le_refl _) _).alloc (by simp) _
  have Z0 : ((w.alloc (.cells #[.int .i64 u, .int .i64 s, .int .i64 7, .int .i64 h, .int .i64 n, .string t] 23)).alloc (.cells #[.int .i64 u', .int .i64 s', .int .i64 7, .int .i64 h', .int .i64 n', .string t'] 23)).heap.size = w.heap.size + 1 + 1 := by simp
  have C0 : Cb ((w.alloc (.cells #[.int .i64 u, .int .i64 s, .int .i64 7, .int .i64 h, .int .i64 n, .string t] 23)).alloc (.cells #[.int .i64 u', .int .i64 s', .int .i64 7, .int .i64 h', .int .i64 n', .string t'] 23)) w.heap.size u s 7 h n t := (cb_new w u s 7 h n t).on ((Below.refl _ _).alloc (Nat.le_refl _) _) (by simp)
  have D0 : Cb ((w.alloc (.cells #[.int .i64 u, .int .i64 s, .int .i64 7, .int .i64 h, .int .i64 n, .string t] 23)).alloc (.cells #[.int .i64 u', .int .i64 s', .int .i64 7, .int .i64 h', .int .i64 n', .string t'] 23)) (w.heap.size + 1) u' s' 7 h' n' t' := by
    have := cb_new (w.alloc (.cells #[.int .i64 u, .int .i64 s, .int .i64 7, .int .i64 h, .int .i64 n, .string t] 23)) u' s' 7 h' n' t'
    rw [show (w.alloc (.cells #[.int .i64 u, .int .i64 s, .int .i64 7, .int .i64 h, .int .i64 n, .string t] 23)).heap.size = w.heap.size + 1 by simp] at this
    exact this
  have N0 := hN.on BW
  generalize ((w.alloc (.cells #[.int .i64 u, .int .i64 s, .int .i64 7, .int .i64 h, .int .i64 n, .string t] 23)).alloc (.cells #[.int .i64 u', .int .i64 s', .int .i64 7, .int .i64 h', .int .i64 n', .string t'] 23)) = W0 at *
  refine (awake_any W0 N0).mono ?_
  rintro e w1 ⟨rfl, B1⟩
  have q1 := B1.size
  have N1 := N0.on B1
  obtain ⟨p0, p1, p2, p3, p4, p5⟩ := C0.on B1 (by omega)
  go_wp2_with fail
  refine (HA _ N1).out.mono ?_
  rintro e w2 ⟨rfl, B2⟩
  have q2 := B2.size
  have N2 := N1.on B2
  have B02 := B1.trans (B2.mono q1)
  obtain ⟨r0, r1, r2, r3, r4, r5⟩ := D0.on B02 (by omega)
  go_wp2_with fail
  clear p0 p1 p2 p3 p4 p5 r0 r1 r2 r3 r4 r5
  refine (HB _ N2).out.mono ?_
  rintro e w3 ⟨rfl, B3⟩
  have q3 := B3.size
  have N3 := N2.on B3
  have B03 := B02.trans (B3.mono (by omega))
  have CA := C0.on B03 (by omega)
  have DA := D0.on B03 (by omega)
  obtain ⟨p0, p1, p2, p3, p4, p5⟩ := id CA
  obtain ⟨r0, r1, r2, r3, r4, r5⟩ := id DA
  have hz : w.heap.size < w3.heap.size := by omega
  have hz' : w.heap.size + 1 < w3.heap.size := by omega
  have S0 : Cb w3 w.heap.size u s 7 h n t ∧ Cb w3 (w.heap.size + 1) u' s' 7 h' n' t' ∧ Below w3.heap.size w3 w3 := ⟨CA, DA, Below.refl _ _⟩
  have KD : Hid (∀ v, (Cb v w.heap.size u s 7 h n t ∧ Cb v (w.heap.size + 1) u' s' 7 h' n' t' ∧ Below w3.heap.size w3 v) → (Cb v.drew w.heap.size u s 7 h n t ∧ Cb v.drew (w.heap.size + 1) u' s' 7 h' n' t' ∧ Below w3.heap.size w3 v.drew)) := fun v hS => keep2 hz hz' hS ((Below.refl _ _).drew)
  have KS : Hid (∀ v v', Below v.heap.size v v' → (Cb v w.heap.size u s 7 h n t ∧ Cb v (w.heap.size + 1) u' s' 7 h' n' t' ∧ Below w3.heap.size w3 v) → (Cb v' w.heap.size u s 7 h n t ∧ Cb v' (w.heap.size + 1) u' s' 7 h' n' t' ∧ Below w3.heap.size w3 v')) := fun v v' hb hS => keep2 hz hz' hS (hb.mono hS.2.2.size)
  have HI2 : ∀ W, (Cb W w.heap.size u s 7 h n t ∧ Cb W (w.heap.size + 1) u' s' 7 h' n' t' ∧ Below w3.heap.size w3 W) → Hid (Calls Tryd.prog 10 #[cv u s 7 h n t, cv u' s' 7 h' n' t'] W (BoolPost W (u == u'))) := fun W hS => HI W (N3.on hS.2.2)
  clear HI C0 D0 CA DA B1 B2 B3 B02 N0 N1 N2 hN HA HB
  go_wp2_with fail
  go_region_held3 (fun v => (v.cell? ⟨w.heap.size, 0, none⟩ = some (.int .i64 u) ∧ v.cell? ⟨w.heap.size, 1, none⟩ = some (.int .i64 s) ∧ v.cell? ⟨w.heap.size, 2, none⟩ = some (.int .i64 7) ∧ v.cell? ⟨w.heap.size, 3, none⟩ = some (.int .i64 h) ∧ v.cell? ⟨w.heap.size, 4, none⟩ = some (.int .i64 n) ∧ v.cell? ⟨w.heap.size, 5, none⟩ = some (.string t)) ∧ (v.cell? ⟨w.heap.size + 1, 0, none⟩ = some (.int .i64 u') ∧ v.cell? ⟨w.heap.size + 1, 1, none⟩ = some (.int .i64 s') ∧ v.cell? ⟨w.heap.size + 1, 2, none⟩ = some (.int .i64 7) ∧ v.cell? ⟨w.heap.size + 1, 3, none⟩ = some (.int .i64 h') ∧ v.cell? ⟨w.heap.size + 1, 4, none⟩ = some (.int .i64 n') ∧ v.cell? ⟨w.heap.size + 1, 5, none⟩ = some (.string t')) ∧ Below w3.heap.size w3 v)
    (first | (exact S0) | (exact KD.out _ S0) | (refine KS.out _ _ hb1 ?_; exact KD.out _ S0) | (refine KD.out _ ?_; assumption))
    (first | (go_at_call 10; (with_reducible refine (HI2 _ ?_).out.mono ?_); (focus (first | assumption | exact KD.out _ S0)); rintro e wa ⟨rfl, hb1⟩))
  rename_i hSx
  have BX := BW.trans ((B03.trans (hSx.2.2.mono (by omega))).mono BW.size)
  go_wp2
  go_ret
  exact ⟨rfl, BX⟩

theorem walk (x0 x1 : Cd) (w : World) (hN : Nd w) : Calls Tryd.prog 8 #[cv x0.u x0.s x0.k x0.h x0.n x0.t, cv x1.u x1.s x1.k x1.h x1.n x1.t] w (UpPost w) := by
  obtain ⟨u, s, k, h, n, t⟩ := x0
  obtain ⟨u', s', k', h', n', t'⟩ := x1
  simp only
  rcases hm : mayB u s k h n t.size with _ | _
  · exact not1 u s k h n u' s' k' h' n' t t' w hN hm
  · rcases hm' : mayB u' s' k' h' n' t'.size with _ | _
    · exact not2 u s k h n u' s' k' h' n' t t' w hN hm hm'
    · rcases hk : (k == 7) with _ | _
      · exact not3 u s k h n u' s' k' h' n' t t' w hN hk hm hm'
      · rcases hk' : (k' == 7) with _ | _
        · exact not4 u s k h n u' s' k' h' n' t t' w hN hk hk' hm hm'
        · have e : k = 7 := by simpa using hk
          have e' : k' = 7 := by simpa using hk'
          subst e e'
          refine both u s h n u' s' h' n' t t' w hN hm hm' ?_
          rw [itf_on (x := ⟨u, s, 7, h, n, t⟩) (y := ⟨u', s', 7, h', n', t'⟩) (on_yes (x := ⟨u, s, 7, h, n, t⟩) rfl hm) (on_yes (x := ⟨u', s', 7, h', n', t'⟩) rfl hm')]
          simp [rdB]

set_option maxRecDepth 100000 in
theorem lifted (os : Os) (started : os.Started) (H : Type) (enc : TypeId × Value → H) :
    ReturnsInHanded {} Tryd.checked os 8 .any (fun w args => (Rows.keysReadSpec.pre enc Tryd.prog Tryd.f8 [] false w args ∧ laidMetH Tryd.prog laid4 w) ∧ sizedMet enc Tryd.prog Tryd.f8 (OpenSpec.ofChange Rows.keysReadSpec) false w args)
      (Rows.keysReadSpec.post enc Tryd.prog Tryd.f8 false true false false) := by
  refine returnsInHanded_of_change_and (C := Tryd.checked) (X := fun w _ => laidMetH Tryd.prog laid4 w) (fun _ _ _ hh h => h.of_heap hh) own started (by kernel_rfl) Tryd.func8
    (ChangeSpec.witness_shaped (enc := enc) (C := Tryd.checked) (os := os) (X := fun w _ => laidMetH Tryd.prog laid4 w) false (World.doorLaid Tryd.prog 18 os) #[.agg #[.int .i64 0, .int .i64 0, .int .i64 0, .int .i64 0, .int .i64 0, .string ⟨#[]⟩], .agg #[.int .i64 0, .int .i64 0, .int .i64 0, .int .i64 0, .int .i64 0, .string ⟨#[]⟩]] 8 rfl (World.shaped_of_RefB (by kernel_rfl) (by kernel_rfl)) (by kernel_rfl) (by kernel_rfl) (by kernel_rfl) (door_met os _)) ?_
  intro W base args ds gs before hval0 hW _ _ hL _
  have hN := nd_of_laid hL
  have hval : ∀ (j : Nat) t v, Tryd.f8.params[j]? = some t → args[j]? = some v → Value.okWide Tryd.prog W .any base t v := hval0
  have hW' := hW
  obtain ⟨p, q, hA0, hV, rfl, hfz, hnd⟩ := hW
  have hA : DataW.TrodAll enc Tryd.prog W 0 (fun _ => true) true Tryd.f8.params.toList args.toList ds p := hA0
  rw [Tryd.params8] at hA hval
  obtain ⟨v0, vs0, d0, ds0, p0, q0, hargs, rfl, rfl, h0, r0⟩ := trodAll_cons hA
  obtain ⟨v1, vs1, d1, ds1, p1, q1, rfl, rfl, rfl, h1, r1⟩ := trodAll_cons r0
  obtain ⟨rfl, rfl, rfl⟩ := trodAll_nil r1
  obtain rfl : args = #[v0, v1] := by cases args; simp_all
  obtain ⟨rfl, rfl⟩ := trodVars_none hV
  have k0' := h0
  have lt0 : ∀ x ∈ p0, x.block < W.heap.size := by obtain ⟨m, hm⟩ := k0'; exact DataW.trod_lt m _ _ _ hm
  obtain ⟨x0, rfl⟩ := open_cmd (hval 0 23 v0 rfl rfl) h0
  have k1' := h1
  have lt1 : ∀ x ∈ p1, x.block < W.heap.size := by obtain ⟨m, hm⟩ := k1'; exact DataW.trod_lt m _ _ _ hm
  obtain ⟨x1, rfl⟩ := open_cmd (hval 1 23 v1 rfl rfl) h1
  clear hA0 hval0
  refine (walk x0 x1 W hN  ).mono fun e W' ⟨he, bel⟩ => ?_
  subst he
  exact ⟨_, rfl, _, _, _, [], _, [], hW', trodAll_mk1 (shut_bool Tryd.underlying4 _), (trodAll_cons_mk (Below.trod laidOut (by kernel_rfl) (of_decide_eq_true (by kernel_rfl)) k0' bel lt0) (trodAll_cons_mk (Below.trod laidOut (by kernel_rfl) (of_decide_eq_true (by kernel_rfl)) k1' bel lt1) trodAll_mk0)), rfl, bel.frame _, fun h => by cases h⟩

theorem over : Rows.KeysReadSaid :=
  OpenClaim.holds_of_wide 8 Tryd.f8 rfl rfl rfl rfl rfl rfl rfl ⟨rfl, rfl, rfl, rfl, rfl⟩ rfl rfl rfl rfl rfl (by kernel_rfl) Tryd.func8 (by kernel_rfl)
    (of_decide_eq_true (by kernel_rfl)) (by unfold Func.isWrapper; first | (rw [if_pos (by decide +kernel)]; kernel_rfl) | (rw [if_neg (by decide +kernel)]; exact ⟨rfl, rfl⟩))
    (fun os started H enc _ => lifted os started H enc)

theorem proved : Rows.KeysReadCardSaid :=
  Claim7.holds_tied_plain_at .later [] [.data] true (true, "bf996c1659db8f8bd19cd74e829fb44e501c00b08f30b8180ae3fe74fe87094c") false
    over (fun _ h => by cases h) (by kernel_rfl) (fun _ h => by cases h) keysRead_row_tie rfl ⟨rfl, rfl⟩ (by kernel_rfl) rfl
    (fun f fn hf hfn => by
      obtain rfl : f = 8 := Option.some.inj ((show Tryd.prog.funcNamed "colloquy/colloquylaw05.KeysRead" = some 8 by kernel_rfl).symm.trans hf) |>.symm
      obtain rfl : fn = Tryd.f8 := (Option.some.inj (Tryd.func8.symm.trans hfn)).symm
      exact ⟨by kernel_rfl, fun j t ht => by
        rw [Tryd.params8] at ht
        have hm : t ∈ [23, 23] := by simpa using Array.mem_of_getElem? ht
        have hall : ([23, 23].all fun u => !Tryd.prog.wantsStandIn u) = true := by kernel_rfl
        exact (show Tryd.prog.wantsStandIn t = false by simpa using List.all_eq_true.1 hall t hm)⟩)
    (by kernel_rfl)
#print axioms proved
end Go.Proofs.YtdpjkbhofebdiaaDoor.keysRead
