/-
  The bytes of two commands differ just if the commands do: CommandKinds answers true whatever the commands; they read as they did. Conditions: none beyond the card's own (the table of what kinds need reads as its initialiser lays it).
-/
import Derived.Test.YteajbcngimccmaaDoorOpen
import Derived.Test.YteajbcngimccmaaDoorCg
import Derived.Test.YteajbcngimccmaaDoorCards
import Derived.Test.YteajbcngimccmaaDoorTie
import Derived.SevenTiedAt
namespace Go.Proofs.YteajbcngimccmaaDoor.commandKinds
open Go.ChangeShapes Go.WideShapes Go.ChangeAt Go.RowKit Go.Joins
set_option linter.unusedVariables false

theorem long (u0 s0 k0 h0 n0 : Int) (t0 : ByteArray) (u1 s1 k1 h1 n1 : Int) (t1 : ByteArray) (w : World) (hN : Nd w) (hl : (500 : Int) < (t0.size : Int)) : Calls Tryd.prog 8 #[cv u0 s0 k0 h0 n0 t0, cv u1 s1 k1 h1 n1 t1] w (UpPost w) := by
  go_enter Tryd.func8, Tryd.ntmps8
  go_wp2_with fail
  have BW : Below w.heap.size w (w.alloc (.cells #[.int .i64 u0, .int .i64 s0, .int .i64 k0, .int .i64 h0, .int .i64 n0, .string t0] 23)) := (Below.refl _ _).alloc (Nat.le_refl _) _
  have Z0 : (w.alloc (.cells #[.int .i64 u0, .int .i64 s0, .int .i64 k0, .int .i64 h0, .int .i64 n0, .string t0] 23)).heap.size = w.heap.size + 1 := by simp
  have C0 := cb_new w u0 s0 k0 h0 n0 t0
  generalize (w.alloc (.cells #[.int .i64 u0, .int .i64 s0, .int .i64 k0, .int .i64 h0, .int .i64 n0, .string t0] 23)) = V0 at *
  have BW : Below w.heap.size w (V0.alloc (.cells #[.int .i64 u1, .int .i64 s1, .int .i64 k1, .int .i64 h1, .int .i64 n1, .string t1] 23)) := BW.alloc (by omega) _
  have Z1 : (V0.alloc (.cells #[.int .i64 u1, .int .i64 s1, .int .i64 k1, .int .i64 h1, .int .i64 n1, .string t1] 23)).heap.size = w.heap.size + 1 + 1 := by simp [Z0]
  have D0 := cb_new V0 u1 s1 k1 h1 n1 t1
  rw [Z0] at D0
  have C0 := C0.on ((Below.refl V0.heap.size V0).alloc (Nat.le_refl _) (.cells #[.int .i64 u1, .int .i64 s1, .int .i64 k1, .int .i64 h1, .int .i64 n1, .string t1] 23)) (by omega)
  have N0 := hN.on BW
  generalize (V0.alloc (.cells #[.int .i64 u1, .int .i64 s1, .int .i64 k1, .int .i64 h1, .int .i64 n1, .string t1] 23)) = W0 at *
  refine (awake_any W0 N0).mono ?_
  rintro e w1 ⟨rfl, B1⟩
  have N1 := N0.on B1
  have q1 := B1.size
  obtain ⟨p0, p1, p2, p3, p4, p5⟩ := C0.on B1 (by omega)
  obtain ⟨r0, r1, r2, r3, r4, r5⟩ := D0.on B1 (by omega)
  go_wp2
  go_ret
  exact ⟨rfl, BW.trans (B1.mono BW.size)⟩

theorem long1 (u0 s0 k0 h0 n0 : Int) (t0 : ByteArray) (u1 s1 k1 h1 n1 : Int) (t1 : ByteArray) (w : World) (hN : Nd w) (hl0 : ¬ (500 : Int) < (t0.size : Int)) (hl : (500 : Int) < (t1.size : Int)) : Calls Tryd.prog 8 #[cv u0 s0 k0 h0 n0 t0, cv u1 s1 k1 h1 n1 t1] w (UpPost w) := by
  go_enter Tryd.func8, Tryd.ntmps8
  go_wp2_with fail
  have BW : Below w.heap.size w (w.alloc (.cells #[.int .i64 u0, .int .i64 s0, .int .i64 k0, .int .i64 h0, .int .i64 n0, .string t0] 23)) := (Below.refl _ _).alloc (Nat.le_refl _) _
  have Z0 : (w.alloc (.cells #[.int .i64 u0, .int .i64 s0, .int .i64 k0, .int .i64 h0, .int .i64 n0, .string t0] 23)).heap.size = w.heap.size + 1 := by simp
  have C0 := cb_new w u0 s0 k0 h0 n0 t0
  generalize (w.alloc (.cells #[.int .i64 u0, .int .i64 s0, .int .i64 k0, .int .i64 h0, .int .i64 n0, .string t0] 23)) = V0 at *
  have BW : Below w.heap.size w (V0.alloc (.cells #[.int .i64 u1, .int .i64 s1, .int .i64 k1, .int .i64 h1, .int .i64 n1, .string t1] 23)) := BW.alloc (by omega) _
  have Z1 : (V0.alloc (.cells #[.int .i64 u1, .int .i64 s1, .int .i64 k1, .int .i64 h1, .int .i64 n1, .string t1] 23)).heap.size = w.heap.size + 1 + 1 := by simp [Z0]
  have D0 := cb_new V0 u1 s1 k1 h1 n1 t1
  rw [Z0] at D0
  have C0 := C0.on ((Below.refl V0.heap.size V0).alloc (Nat.le_refl _) (.cells #[.int .i64 u1, .int .i64 s1, .int .i64 k1, .int .i64 h1, .int .i64 n1, .string t1] 23)) (by omega)
  have N0 := hN.on BW
  generalize (V0.alloc (.cells #[.int .i64 u1, .int .i64 s1, .int .i64 k1, .int .i64 h1, .int .i64 n1, .string t1] 23)) = W0 at *
  refine (awake_any W0 N0).mono ?_
  rintro e w1 ⟨rfl, B1⟩
  have N1 := N0.on B1
  have q1 := B1.size
  obtain ⟨p0, p1, p2, p3, p4, p5⟩ := C0.on B1 (by omega)
  obtain ⟨r0, r1, r2, r3, r4, r5⟩ := D0.on B1 (by omega)
  go_wp2
  go_ret
  exact ⟨rfl, BW.trans (B1.mono BW.size)⟩

theorem err0 (u0 s0 k0 h0 n0 : Int) (t0 : ByteArray) (u1 s1 k1 h1 n1 : Int) (t1 : ByteArray) (w : World) (hN : Nd w) (hl0 : ¬ (500 : Int) < (t0.size : Int)) (hl1 : ¬ (500 : Int) < (t1.size : Int)) (x0 x1 : List Int) (e0 e1 : Int) (P0 : cpu u0 s0 k0 h0 n0 t0 = (x0, e0)) (P1 : cpu u1 s1 k1 h1 n1 t1 = (x1, e1)) (he : e0 ≠ 0) : Calls Tryd.prog 8 #[cv u0 s0 k0 h0 n0 t0, cv u1 s1 k1 h1 n1 t1] w (UpPost w) := by
  have HP : ∀ W, Nd W → Hid (Calls Tryd.prog 10 #[cv u0 s0 k0 h0 n0 t0] W (PutPost W .u8 x0 e0)) := fun W h' => by have := put4_any u0 s0 k0 h0 n0 t0 W h' (x0, e0) P0; exact this
  have HQ : ∀ W, Nd W → Hid (Calls Tryd.prog 10 #[cv u1 s1 k1 h1 n1 t1] W (PutPost W .u8 x1 e1)) := fun W h' => by have := put4_any u1 s1 k1 h1 n1 t1 W h' (x1, e1) P1; exact this
  have hl0' : decide ((500 : Int) < (t0.size : Int)) = false := by simpa using hl0
  have hl1' : decide ((500 : Int) < (t1.size : Int)) = false := by simpa using hl1
  clear P0 P1 hl0 hl1
  have heb : (e0 == 0) = false := by rw [beq_eq_false_iff_ne]; exact he
  go_enter Tryd.func8, Tryd.ntmps8
  go_wp2_with fail
  have BW : Below w.heap.size w (w.alloc (.cells #[.int .i64 u0, .int .i64 s0, .int .i64 k0, .int .i64 h0, .int .i64 n0, .string t0] 23)) := (Below.refl _ _).alloc (Nat.le_refl _) _
  have Z0 : (w.alloc (.cells #[.int .i64 u0, .int .i64 s0, .int .i64 k0, .int .i64 h0, .int .i64 n0, .string t0] 23)).heap.size = w.heap.size + 1 := by simp
  have C0 := cb_new w u0 s0 k0 h0 n0 t0
  generalize (w.alloc (.cells #[.int .i64 u0, .int .i64 s0, .int .i64 k0, .int .i64 h0, .int .i64 n0, .string t0] 23)) = V0 at *
  have BW : Below w.heap.size w (V0.alloc (.cells #[.int .i64 u1, .int .i64 s1, .int .i64 k1, .int .i64 h1, .int .i64 n1, .string t1] 23)) := BW.alloc (by omega) _
  have Z1 : (V0.alloc (.cells #[.int .i64 u1, .int .i64 s1, .int .i64 k1, .int .i64 h1, .int .i64 n1, .string t1] 23)).heap.size = w.heap.size + 1 + 1 := by simp [Z0]
  have D0 := cb_new V0 u1 s1 k1 h1 n1 t1
  rw [Z0] at D0
  have C0 := C0.on ((Below.refl V0.heap.size V0).alloc (Nat.le_refl _) (.cells #[.int .i64 u1, .int .i64 s1, .int .i64 k1, .int .i64 h1, .int .i64 n1, .string t1] 23)) (by omega)
  have N0 := hN.on BW
  generalize (V0.alloc (.cells #[.int .i64 u1, .int .i64 s1, .int .i64 k1, .int .i64 h1, .int .i64 n1, .string t1] 23)) = W0 at *
  refine (awake_any W0 N0).mono ?_
  rintro e w1 ⟨rfl, B1⟩
  have N1 := N0.on B1
  have q1 := B1.size
  obtain ⟨p0, p1, p2, p3, p4, p5⟩ := C0.on B1 (by omega)
  obtain ⟨r0, r1, r2, r3, r4, r5⟩ := D0.on B1 (by omega)
  go_wp2_with fail
  clear p0 p1 p2 p3 p4 p5 r0 r1 r2 r3 r4 r5
  refine (HP _ N1).out.mono ?_
  rintro e w2 ⟨A2, c2, rfl, ⟨S2, l2⟩, B2⟩
  have q2 := B2.size
  have N2 := N1.on B2
  have B02 := B1.trans (B2.mono q1)
  obtain ⟨p0, p1, p2, p3, p4, p5⟩ := C0.on B02 (by omega)
  obtain ⟨r0, r1, r2, r3, r4, r5⟩ := D0.on B02 (by omega)
  go_wp2_with fail
  clear p0 p1 p2 p3 p4 p5 r0 r1 r2 r3 r4 r5
  refine (HQ _ N2).out.mono ?_
  rintro e w3 ⟨A3, c3, rfl, ⟨S3, l3⟩, B3⟩
  have q3 := B3.size
  have B03 := B02.trans (B3.mono (by omega))
  obtain ⟨p0, p1, p2, p3, p4, p5⟩ := C0.on B03 (by omega)
  obtain ⟨r0, r1, r2, r3, r4, r5⟩ := D0.on B03 (by omega)
  have BE : Below w.heap.size w w3 := BW.trans (B03.mono BW.size)
  go_wp2
  go_ret
  exact ⟨rfl, BE⟩

theorem err1 (u0 s0 k0 h0 n0 : Int) (t0 : ByteArray) (u1 s1 k1 h1 n1 : Int) (t1 : ByteArray) (w : World) (hN : Nd w) (hl0 : ¬ (500 : Int) < (t0.size : Int)) (hl1 : ¬ (500 : Int) < (t1.size : Int)) (x0 x1 : List Int) (e1 : Int) (P0 : cpu u0 s0 k0 h0 n0 t0 = (x0, 0)) (P1 : cpu u1 s1 k1 h1 n1 t1 = (x1, e1)) (he : e1 ≠ 0) : Calls Tryd.prog 8 #[cv u0 s0 k0 h0 n0 t0, cv u1 s1 k1 h1 n1 t1] w (UpPost w) := by
  have HP : ∀ W, Nd W → Hid (Calls Tryd.prog 10 #[cv u0 s0 k0 h0 n0 t0] W (PutPost W .u8 x0 0)) := fun W h' => by have := put4_any u0 s0 k0 h0 n0 t0 W h' (x0, 0) P0; exact this
  have HQ : ∀ W, Nd W → Hid (Calls Tryd.prog 10 #[cv u1 s1 k1 h1 n1 t1] W (PutPost W .u8 x1 e1)) := fun W h' => by have := put4_any u1 s1 k1 h1 n1 t1 W h' (x1, e1) P1; exact this
  have hl0' : decide ((500 : Int) < (t0.size : Int)) = false := by simpa using hl0
  have hl1' : decide ((500 : Int) < (t1.size : Int)) = false := by simpa using hl1
  clear P0 P1 hl0 hl1
  have heb : (e1 == 0) = false := by rw [beq_eq_false_iff_ne]; exact he
  go_enter Tryd.func8, Tryd.ntmps8
  go_wp2_with fail
  have BW : Below w.heap.size w (w.alloc (.cells #[.int .i64 u0, .int .i64 s0, .int .i64 k0, .int .i64 h0, .int .i64 n0, .string t0] 23)) := (Below.refl _ _).alloc (Nat.le_refl _) _
  have Z0 : (w.alloc (.cells #[.int .i64 u0, .int .i64 s0, .int .i64 k0, .int .i64 h0, .int .i64 n0, .string t0] 23)).heap.size = w.heap.size + 1 := by simp
  have C0 := cb_new w u0 s0 k0 h0 n0 t0
  generalize (w.alloc (.cells #[.int .i64 u0, .int .i64 s0, .int .i64 k0, .int .i64 h0, .int .i64 n0, .string t0] 23)) = V0 at *
  have BW : Below w.heap.size w (V0.alloc (.cells #[.int .i64 u1, .int .i64 s1, .int .i64 k1, .int .i64 h1, .int .i64 n1, .string t1] 23)) := BW.alloc (by omega) _
  have Z1 : (V0.alloc (.cells #[.int .i64 u1, .int .i64 s1, .int .i64 k1, .int .i64 h1, .int .i64 n1, .string t1] 23)).heap.size = w.heap.size + 1 + 1 := by simp [Z0]
  have D0 := cb_new V0 u1 s1 k1 h1 n1 t1
  rw [Z0] at D0
  have C0 := C0.on ((Below.refl V0.heap.size V0).alloc (Nat.le_refl _) (.cells #[.int .i64 u1, .int .i64 s1, .int .i64 k1, .int .i64 h1, .int .i64 n1, .string t1] 23)) (by omega)
  have N0 := hN.on BW
  generalize (V0.alloc (.cells #[.int .i64 u1, .int .i64 s1, .int .i64 k1, .int .i64 h1, .int .i64 n1, .string t1] 23)) = W0 at *
  refine (awake_any W0 N0).mono ?_
  rintro e w1 ⟨rfl, B1⟩
  have N1 := N0.on B1
  have q1 := B1.size
  obtain ⟨p0, p1, p2, p3, p4, p5⟩ := C0.on B1 (by omega)
  obtain ⟨r0, r1, r2, r3, r4, r5⟩ := D0.on B1 (by omega)
  go_wp2_with fail
  clear p0 p1 p2 p3 p4 p5 r0 r1 r2 r3 r4 r5
  refine (HP _ N1).out.mono ?_
  rintro e w2 ⟨A2, c2, rfl, ⟨S2, l2⟩, B2⟩
  have q2 := B2.size
  have N2 := N1.on B2
  have B02 := B1.trans (B2.mono q1)
  obtain ⟨p0, p1, p2, p3, p4, p5⟩ := C0.on B02 (by omega)
  obtain ⟨r0, r1, r2, r3, r4, r5⟩ := D0.on B02 (by omega)
  go_wp2_with fail
  clear p0 p1 p2 p3 p4 p5 r0 r1 r2 r3 r4 r5
  refine (HQ _ N2).out.mono ?_
  rintro e w3 ⟨A3, c3, rfl, ⟨S3, l3⟩, B3⟩
  have q3 := B3.size
  have B03 := B02.trans (B3.mono (by omega))
  obtain ⟨p0, p1, p2, p3, p4, p5⟩ := C0.on B03 (by omega)
  obtain ⟨r0, r1, r2, r3, r4, r5⟩ := D0.on B03 (by omega)
  have BE : Below w.heap.size w w3 := BW.trans (B03.mono BW.size)
  go_wp2
  go_ret
  exact ⟨rfl, BE⟩

attribute [local go_sem ↓ high] eq23 guard23
set_option maxHeartbeats 1000000 in
theorem same (u0 s0 k0 h0 n0 : Int) (t0 : ByteArray) (w : World) (hN : Nd w) (hl0 : ¬ (500 : Int) < (t0.size : Int)) (x0 : List Int) (P0 : cpu u0 s0 k0 h0 n0 t0 = (x0, 0)) : Calls Tryd.prog 8 #[cv u0 s0 k0 h0 n0 t0, cv u0 s0 k0 h0 n0 t0] w (UpPost w) := by
  obtain ⟨T0, E0⟩ : ∃ T, strOfNums x0 = T := ⟨_, rfl⟩
  have E1 := E0
  have HP : ∀ W, Nd W → Hid (Calls Tryd.prog 10 #[cv u0 s0 k0 h0 n0 t0] W (PutPost W .u8 x0 0)) := fun W h' => by have := put4_any u0 s0 k0 h0 n0 t0 W h' (x0, 0) P0; exact this
  have HQ : ∀ W, Nd W → Hid (Calls Tryd.prog 10 #[cv u0 s0 k0 h0 n0 t0] W (PutPost W .u8 x0 0)) := fun W h' => by have := put4_any u0 s0 k0 h0 n0 t0 W h' (x0, 0) P0; exact this
  have hl0' : decide ((500 : Int) < (t0.size : Int)) = false := by simpa using hl0
  clear P0 hl0
  go_enter Tryd.func8, Tryd.ntmps8
  go_wp2_with fail
  have BW : Below w.heap.size w (w.alloc (.cells #[.int .i64 u0, .int .i64 s0, .int .i64 k0, .int .i64 h0, .int .i64 n0, .string t0] 23)) := (Below.refl _ _).alloc (Nat.le_refl _) _
  have Z0 : (w.alloc (.cells #[.int .i64 u0, .int .i64 s0, .int .i64 k0, .int .i64 h0, .int .i64 n0, .string t0] 23)).heap.size = w.heap.size + 1 := by simp
  have C0 := cb_new w u0 s0 k0 h0 n0 t0
  generalize (w.alloc (.cells #[.int .i64 u0, .int .i64 s0, .int .i64 k0, .int .i64 h0, .int .i64 n0, .string t0] 23)) = V0 at *
  have BW : Below w.heap.size w (V0.alloc (.cells #[.int .i64 u0, .int .i64 s0, .int .i64 k0, .int .i64 h0, .int .i64 n0, .string t0] 23)) := BW.alloc (by omega) _
  have Z1 : (V0.alloc (.cells #[.int .i64 u0, .int .i64 s0, .int .i64 k0, .int .i64 h0, .int .i64 n0, .string t0] 23)).heap.size = w.heap.size + 1 + 1 := by simp [Z0]
  have D0 := cb_new V0 u0 s0 k0 h0 n0 t0
  rw [Z0] at D0
  have C0 := C0.on ((Below.refl V0.heap.size V0).alloc (Nat.le_refl _) (.cells #[.int .i64 u0, .int .i64 s0, .int .i64 k0, .int .i64 h0, .int .i64 n0, .string t0] 23)) (by omega)
  have N0 := hN.on BW
  generalize (V0.alloc (.cells #[.int .i64 u0, .int .i64 s0, .int .i64 k0, .int .i64 h0, .int .i64 n0, .string t0] 23)) = W0 at *
  refine (awake_any W0 N0).mono ?_
  rintro e w1 ⟨rfl, B1⟩
  have N1 := N0.on B1
  have q1 := B1.size
  obtain ⟨p0, p1, p2, p3, p4, p5⟩ := C0.on B1 (by omega)
  obtain ⟨r0, r1, r2, r3, r4, r5⟩ := D0.on B1 (by omega)
  go_wp2_with fail
  clear p0 p1 p2 p3 p4 p5 r0 r1 r2 r3 r4 r5
  refine (HP _ N1).out.mono ?_
  rintro e w2 ⟨A2, c2, rfl, ⟨S2, l2⟩, B2⟩
  have q2 := B2.size
  have N2 := N1.on B2
  have B02 := B1.trans (B2.mono q1)
  obtain ⟨p0, p1, p2, p3, p4, p5⟩ := C0.on B02 (by omega)
  obtain ⟨r0, r1, r2, r3, r4, r5⟩ := D0.on B02 (by omega)
  go_wp2_with fail
  clear p0 p1 p2 p3 p4 p5 r0 r1 r2 r3 r4 r5
  refine (HQ _ N2).out.mono ?_
  rintro e w3 ⟨A3, c3, rfl, ⟨S3, l3⟩, B3⟩
  have q3 := B3.size
  have B03 := B02.trans (B3.mono (by omega))
  obtain ⟨p0, p1, p2, p3, p4, p5⟩ := C0.on B03 (by omega)
  obtain ⟨r0, r1, r2, r3, r4, r5⟩ := D0.on B03 (by omega)
  have BE : Below w.heap.size w w3 := BW.trans (B03.mono BW.size)
  have K2 : ∀ m, (convert 25 9 (.slice A2 x0.length c2)).run Tryd.prog (w3.drewN m) = .ok (.string T0) (w3.drewN m) := fun m => by rw [← E0]; exact str_of ((S2.below B3)) c2 _ (fun p hp => by simp)
  have K3 : ∀ m, (convert 25 9 (.slice A3 x0.length c3)).run Tryd.prog (w3.drewN m) = .ok (.string T0) (w3.drewN m) := fun m => by rw [← E1]; exact str_of S3 c3 _ (fun p hp => by simp)
  clear E0 E1 S2 S3 HP HQ
  go_wp2_with fail
  go_quiet (fail)
  go_wp2
  go_ret
  exact ⟨rfl, below_drewN BE _⟩

set_option maxHeartbeats 1000000 in
theorem other (u0 s0 k0 h0 n0 : Int) (t0 : ByteArray) (u1 s1 k1 h1 n1 : Int) (t1 : ByteArray) (w : World) (hN : Nd w) (hl0 : ¬ (500 : Int) < (t0.size : Int)) (hl1 : ¬ (500 : Int) < (t1.size : Int)) (x0 x1 : List Int) (P0 : cpu u0 s0 k0 h0 n0 t0 = (x0, 0)) (P1 : cpu u1 s1 k1 h1 n1 t1 = (x1, 0)) (hx : ¬ strOfNums x0 = strOfNums x1) (hc : ((u0 == u1) && (s0 == s1) && (k0 == k1) && (h0 == h1) && (n0 == n1) && decide (t0 = t1)) = false) : Calls Tryd.prog 8 #[cv u0 s0 k0 h0 n0 t0, cv u1 s1 k1 h1 n1 t1] w (UpPost w) := by
  obtain ⟨T0, E0⟩ : ∃ T, strOfNums x0 = T := ⟨_, rfl⟩
  obtain ⟨T1, E1⟩ : ∃ T, strOfNums x1 = T := ⟨_, rfl⟩
  rw [E0, E1] at hx
  have hx1 : ¬ T0.toList = T1.toList := fun h => hx (bytes_same h)
  have hx2 : (T0.toList == T1.toList) = false := by rw [beq_eq_false_iff_ne]; exact hx1
  have hx3 : (T0 == T1) = false := by rw [beq_toListBytes]; exact hx2
  have HP : ∀ W, Nd W → Hid (Calls Tryd.prog 10 #[cv u0 s0 k0 h0 n0 t0] W (PutPost W .u8 x0 0)) := fun W h' => by have := put4_any u0 s0 k0 h0 n0 t0 W h' (x0, 0) P0; exact this
  have HQ : ∀ W, Nd W → Hid (Calls Tryd.prog 10 #[cv u1 s1 k1 h1 n1 t1] W (PutPost W .u8 x1 0)) := fun W h' => by have := put4_any u1 s1 k1 h1 n1 t1 W h' (x1, 0) P1; exact this
  have hl0' : decide ((500 : Int) < (t0.size : Int)) = false := by simpa using hl0
  have hl1' : decide ((500 : Int) < (t1.size : Int)) = false := by simpa using hl1
  clear P0 P1 hl0 hl1
  go_enter Tryd.func8, Tryd.ntmps8
  go_wp2_with fail
  have BW : Below w.heap.size w (w.alloc (.cells #[.int .i64 u0, .int .i64 s0, .int .i64 k0, .int .i64 h0, .int .i64 n0, .string t0] 23)) := (Below.refl _ _).alloc (Nat.le_refl _) _
  have Z0 : (w.alloc (.cells #[.int .i64 u0, .int .i64 s0, .int .i64 k0, .int .i64 h0, .int .i64 n0, .string t0] 23)).heap.size = w.heap.size + 1 := by simp
  have C0 := cb_new w u0 s0 k0 h0 n0 t0
  generalize (w.alloc (.cells #[.int .i64 u0, .int .i64 s0, .int .i64 k0, .int .i64 h0, .int .i64 n0, .string t0] 23)) = V0 at *
  have BW : Below w.heap.size w (V0.alloc (.cells #[.int .i64 u1, .int .i64 s1, .int .i64 k1, .int .i64 h1, .int .i64 n1, .string t1] 23)) := BW.alloc (by omega) _
  have Z1 : (V0.alloc (.cells #[.int .i64 u1, .int .i64 s1, .int .i64 k1, .int .i64 h1, .int .i64 n1, .string t1] 23)).heap.size = w.heap.size + 1 + 1 := by simp [Z0]
  have D0 := cb_new V0 u1 s1 k1 h1 n1 t1
  rw [Z0] at D0
  have C0 := C0.on ((Below.refl V0.heap.size V0).alloc (Nat.le_refl _) (.cells #[.int .i64 u1, .int .i64 s1, .int .i64 k1, .int .i64 h1, .int .i64 n1, .string t1] 23)) (by omega)
  have N0 := hN.on BW
  generalize (V0.alloc (.cells #[.int .i64 u1, .int .i64 s1, .int .i64 k1, .int .i64 h1, .int .i64 n1, .string t1] 23)) = W0 at *
  refine (awake_any W0 N0).mono ?_
  rintro e w1 ⟨rfl, B1⟩
  have N1 := N0.on B1
  have q1 := B1.size
  obtain ⟨p0, p1, p2, p3, p4, p5⟩ := C0.on B1 (by omega)
  obtain ⟨r0, r1, r2, r3, r4, r5⟩ := D0.on B1 (by omega)
  go_wp2_with fail
  clear p0 p1 p2 p3 p4 p5 r0 r1 r2 r3 r4 r5
  refine (HP _ N1).out.mono ?_
  rintro e w2 ⟨A2, c2, rfl, ⟨S2, l2⟩, B2⟩
  have q2 := B2.size
  have N2 := N1.on B2
  have B02 := B1.trans (B2.mono q1)
  obtain ⟨p0, p1, p2, p3, p4, p5⟩ := C0.on B02 (by omega)
  obtain ⟨r0, r1, r2, r3, r4, r5⟩ := D0.on B02 (by omega)
  go_wp2_with fail
  clear p0 p1 p2 p3 p4 p5 r0 r1 r2 r3 r4 r5
  refine (HQ _ N2).out.mono ?_
  rintro e w3 ⟨A3, c3, rfl, ⟨S3, l3⟩, B3⟩
  have q3 := B3.size
  have B03 := B02.trans (B3.mono (by omega))
  obtain ⟨p0, p1, p2, p3, p4, p5⟩ := C0.on B03 (by omega)
  obtain ⟨r0, r1, r2, r3, r4, r5⟩ := D0.on B03 (by omega)
  have BE : Below w.heap.size w w3 := BW.trans (B03.mono BW.size)
  have K2 : ∀ m, (convert 25 9 (.slice A2 x0.length c2)).run Tryd.prog (w3.drewN m) = .ok (.string T0) (w3.drewN m) := fun m => by rw [← E0]; exact str_of ((S2.below B3)) c2 _ (fun p hp => by simp)
  have K3 : ∀ m, (convert 25 9 (.slice A3 x1.length c3)).run Tryd.prog (w3.drewN m) = .ok (.string T1) (w3.drewN m) := fun m => by rw [← E1]; exact str_of S3 c3 _ (fun p hp => by simp)
  clear E0 E1 S2 S3 HP HQ
  go_wp2_with fail
  go_quiet (fail)
  go_wp2
  go_ret
  exact ⟨rfl, below_drewN BE _⟩

theorem walk (u0 s0 k0 h0 n0 : Int) (t0 : ByteArray) (u1 s1 k1 h1 n1 : Int) (t1 : ByteArray) (w : World) (hN : Nd w) : Calls Tryd.prog 8 #[cv u0 s0 k0 h0 n0 t0, cv u1 s1 k1 h1 n1 t1] w (UpPost w) := by
  by_cases hl0 : (500 : Int) < (t0.size : Int)
  · exact long u0 s0 k0 h0 n0 t0 u1 s1 k1 h1 n1 t1 w hN hl0
  by_cases hl1 : (500 : Int) < (t1.size : Int)
  · exact long1 u0 s0 k0 h0 n0 t0 u1 s1 k1 h1 n1 t1 w hN hl0 hl1
  rcases m0 : mayB u0 s0 k0 h0 n0 t0.size with _ | _
  · exact err0 u0 s0 k0 h0 n0 t0 u1 s1 k1 h1 n1 t1 w hN hl0 hl1 _ _ _ _ (cpu_no m0) rfl (by decide)
  rcases m1 : mayB u1 s1 k1 h1 n1 t1.size with _ | _
  · exact err1 u0 s0 k0 h0 n0 t0 u1 s1 k1 h1 n1 t1 w hN hl0 hl1 _ _ _ (cpu_yes m0) (cpu_no m1) (by decide)
  by_cases hc : u0 = u1 ∧ s0 = s1 ∧ k0 = k1 ∧ h0 = h1 ∧ n0 = n1 ∧ t0 = t1
  · obtain ⟨rfl, rfl, rfl, rfl, rfl, rfl⟩ := hc
    exact same u0 s0 k0 h0 n0 t0 w hN hl0 _ (cpu_yes m0)
  · refine other u0 s0 k0 h0 n0 t0 u1 s1 k1 h1 n1 t1 w hN hl0 hl1 _ _ (cpu_yes m0) (cpu_yes m1) (fun hs => hc ?_) ?_
    · have e := str_inj (cbs_byte _ _ _ _ _ _) (cbs_byte _ _ _ _ _ _) hs
      rw [cbs_eq, cbs_eq] at e
      obtain ⟨a, b, c, d, e, f⟩ := cbl_inj (by rw [bt_len]; exact m0) (by rw [bt_len]; exact m1) e
      exact ⟨a, b, c, d, e, by rw [← str_bt t0, ← str_bt t1, f]⟩
    · rw [← Bool.not_eq_true]
      intro h
      simp only [Bool.and_eq_true, beq_iff_eq, decide_eq_true_eq] at h
      exact hc ⟨h.1.1.1.1.1, h.1.1.1.1.2, h.1.1.1.2, h.1.1.2, h.1.2, h.2⟩

set_option maxRecDepth 100000 in
theorem lifted (os : Os) (started : os.Started) (H : Type) (enc : TypeId × Value → H) :
    ReturnsInHanded {} Tryd.checked os 8 .any (fun w args => (Rows.commandKindsSpec.pre enc Tryd.prog Tryd.f8 [] false w args ∧ laidMetH Tryd.prog laid4 w) ∧ sizedMet enc Tryd.prog Tryd.f8 (OpenSpec.ofChange Rows.commandKindsSpec) false w args)
      (Rows.commandKindsSpec.post enc Tryd.prog Tryd.f8 false true false false) := by
  refine returnsInHanded_of_change_and (C := Tryd.checked) (X := fun w _ => laidMetH Tryd.prog laid4 w) (fun _ _ _ hh h => h.of_heap hh) own started (by kernel_rfl) Tryd.func8
    (ChangeSpec.witness_shaped (enc := enc) (C := Tryd.checked) (os := os) (X := fun w _ => laidMetH Tryd.prog laid4 w) false (World.doorLaid Tryd.prog 18 os) #[.agg #[.int .i64 0, .int .i64 0, .int .i64 0, .int .i64 0, .int .i64 0, .string ⟨#[]⟩], .agg #[.int .i64 0, .int .i64 0, .int .i64 0, .int .i64 0, .int .i64 0, .string ⟨#[]⟩]] 8 rfl (World.shaped_of_RefB (by kernel_rfl) (by kernel_rfl)) (by kernel_rfl) (by kernel_rfl) (by kernel_rfl) (door_met os _)) ?_
  intro W base args ds gs before hval0 hW _ _ hL _
  have hN := nd_of_laid hL
  have hval : ∀ (j : Nat) t v, Tryd.f8.params[j]? = some t → args[j]? = some v → Value.okWide Tryd.prog W .any base t v := hval0
  have hW' := hW
  obtain ⟨p, q, hA0, hV, rfl, hfz, hnd⟩ := hW
  have hA : DataW.TrodAll enc Tryd.prog W 0 (fun _ => true) true Tryd.f8.params.toList args.toList ds p := hA0
  rw [Tryd.params8] at hA hval
  obtain ⟨v0, vs0, d0, ds0, p0, q0, hargs, rfl, rfl, h0, r0⟩ := trodAll_cons hA
  obtain ⟨v1, vs1, d1, ds1, p1, q1, rfl, rfl, rfl, h1, r1⟩ := trodAll_cons r0
  obtain ⟨rfl, rfl, rfl⟩ := trodAll_nil r1
  obtain rfl : args = #[v0, v1] := by cases args; simp_all
  obtain ⟨rfl, rfl⟩ := trodVars_none hV
  have k0' := h0
  have lt0 : ∀ x ∈ p0, x.block < W.heap.size := by obtain ⟨m, hm⟩ := k0'; exact DataW.trod_lt m _ _ _ hm
  obtain ⟨u0, s0, k0, h0c, n0, t0, rfl⟩ := open_cmd (hval 0 23 v0 rfl rfl) h0
  have k1' := h1
  have lt1 : ∀ x ∈ p1, x.block < W.heap.size := by obtain ⟨m, hm⟩ := k1'; exact DataW.trod_lt m _ _ _ hm
  obtain ⟨u1, s1, k1, h1c, n1, t1, rfl⟩ := open_cmd (hval 1 23 v1 rfl rfl) h1
  clear hA0 hval0
  refine (walk u0 s0 k0 h0c n0 t0 u1 s1 k1 h1c n1 t1 W hN  ).mono fun e W' ⟨he, bel⟩ => ?_
  subst he
  exact ⟨_, rfl, _, _, _, [], _, [], hW', trodAll_mk1 (shut_bool Tryd.underlying4 _), (trodAll_cons_mk (Below.trod laidOut (by kernel_rfl) (of_decide_eq_true (by kernel_rfl)) k0' bel lt0) (trodAll_cons_mk (Below.trod laidOut (by kernel_rfl) (of_decide_eq_true (by kernel_rfl)) k1' bel lt1) trodAll_mk0)), rfl, bel.frame _, fun h => by cases h⟩

theorem over : Rows.CommandKindsSaid :=
  OpenClaim.holds_of_wide 8 Tryd.f8 rfl rfl rfl rfl rfl rfl rfl ⟨rfl, rfl, rfl, rfl, rfl⟩ rfl rfl rfl rfl rfl (by kernel_rfl) Tryd.func8 (by kernel_rfl)
    (of_decide_eq_true (by kernel_rfl)) (by unfold Func.isWrapper; first | (rw [if_pos (by decide +kernel)]; kernel_rfl) | (rw [if_neg (by decide +kernel)]; exact ⟨rfl, rfl⟩))
    (fun os started H enc _ => lifted os started H enc)

theorem proved : Rows.CommandKindsCardSaid :=
  Claim7.holds_tied_plain_at .later [] [.data] true (true, "93fff19bce4a84e988bf6e2625e0608d0039abc37830b3507fd65811e11668e5") false
    over (fun _ h => by cases h) (by kernel_rfl) (fun _ h => by cases h) commandKinds_row_tie rfl ⟨rfl, rfl⟩ (by kernel_rfl) rfl
    (fun f fn hf hfn => by
      obtain rfl : f = 8 := Option.some.inj ((show Tryd.prog.funcNamed "colloquy/colloquylaw04.CommandKinds" = some 8 by kernel_rfl).symm.trans hf) |>.symm
      obtain rfl : fn = Tryd.f8 := (Option.some.inj (Tryd.func8.symm.trans hfn)).symm
      exact ⟨by kernel_rfl, fun j t ht => by
        rw [Tryd.params8] at ht
        have hm : t ∈ [23, 23] := by simpa using Array.mem_of_getElem? ht
        have hall : ([23, 23].all fun u => !Tryd.prog.wantsStandIn u) = true := by kernel_rfl
        exact (show Tryd.prog.wantsStandIn t = false by simpa using List.all_eq_true.1 hall t hm)⟩)
    (by kernel_rfl)
#print axioms proved
end Go.Proofs.YteajbcngimccmaaDoor.commandKinds
