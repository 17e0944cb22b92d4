/-
  What a kind does not need may not be told, what it needs must be: CommandNeeds answers true whatever the command; the command reads as it did. Conditions: none beyond the card's own (the table of what kinds need reads as its initialiser lays it).
-/
import Derived.Test.YteajbcngimccmaaDoorOpen
import Derived.Test.YteajbcngimccmaaDoorCards
import Derived.Test.YteajbcngimccmaaDoorTie
import Derived.SevenTiedAt
namespace Go.Proofs.YteajbcngimccmaaDoor.commandNeeds
open Go.ChangeShapes Go.WideShapes Go.ChangeAt Go.RowKit Go.Joins
set_option linter.unusedVariables false

theorem long (u s k h n : Int) (t : ByteArray) (w : World) (hN : Nd w) (hl : (500 : Int) < (t.size : Int)) : Calls Tryd.prog 7 #[cv u s k h n t] w (UpPost w) := by
  go_enter Tryd.func7, Tryd.ntmps7
  go_wp2_with fail
  have BW : Below w.heap.size w (w.alloc (.cells #[.int .i64 u, .int .i64 s, .int .i64 k, .int .i64 h, .int .i64 n, .string t] 23)) := (Below.refl _ _).alloc (Nat.le_refl _) _
  have Z0 : (w.alloc (.cells #[.int .i64 u, .int .i64 s, .int .i64 k, .int .i64 h, .int .i64 n, .string t] 23)).heap.size = w.heap.size + 1 := by simp
  have C0 := cb_new w u s k h n t
  have N0 := hN.on BW
  generalize (w.alloc (.cells #[.int .i64 u, .int .i64 s, .int .i64 k, .int .i64 h, .int .i64 n, .string t] 23)) = W0 at *
  refine (awake_any W0 N0).mono ?_
  rintro e w1 ⟨rfl, B1⟩
  have N1 := N0.on B1
  have q1 := B1.size
  have C1 := C0.on B1 (by omega)
  obtain ⟨p0, p1, p2, p3, p4, p5⟩ := C1
  go_wp2
  go_ret
  exact ⟨rfl, BW.trans (B1.mono BW.size)⟩

theorem maynot (u s k h n : Int) (t : ByteArray) (w : World) (hN : Nd w) (hl : ¬ (500 : Int) < (t.size : Int)) (hm : mayB u s k h n t.size = false) : Calls Tryd.prog 7 #[cv u s k h n t] w (UpPost w) := by
  have HM : ∀ W, Nd W → Hid (Calls Tryd.prog 12 #[cv u s k h n t] W (BoolPost W false)) := fun W h' => by have := may_any u s k h n t W h'; rw [hm] at this; exact this
  go_enter Tryd.func7, Tryd.ntmps7
  go_wp2_with fail
  have BW : Below w.heap.size w (w.alloc (.cells #[.int .i64 u, .int .i64 s, .int .i64 k, .int .i64 h, .int .i64 n, .string t] 23)) := (Below.refl _ _).alloc (Nat.le_refl _) _
  have Z0 : (w.alloc (.cells #[.int .i64 u, .int .i64 s, .int .i64 k, .int .i64 h, .int .i64 n, .string t] 23)).heap.size = w.heap.size + 1 := by simp
  have C0 := cb_new w u s k h n t
  have N0 := hN.on BW
  generalize (w.alloc (.cells #[.int .i64 u, .int .i64 s, .int .i64 k, .int .i64 h, .int .i64 n, .string t] 23)) = W0 at *
  refine (awake_any W0 N0).mono ?_
  rintro e w1 ⟨rfl, B1⟩
  have N1 := N0.on B1
  have q1 := B1.size
  have C1 := C0.on B1 (by omega)
  obtain ⟨p0, p1, p2, p3, p4, p5⟩ := C1
  go_wp2_with fail
  refine (HM _ N1).out.mono ?_
  rintro e w2 ⟨rfl, B2⟩
  go_wp2
  go_ret
  exact ⟨rfl, BW.trans ((B1.mono BW.size).trans (B2.mono (by omega)))⟩

theorem nop (u s h n : Int) (t : ByteArray) (w : World) (hN : Nd w) (hl : ¬ (500 : Int) < (t.size : Int)) (hm : mayB u s 0 h n t.size = true) : Calls Tryd.prog 7 #[cv u s 0 h n t] w (UpPost w) := by
  have HM : ∀ W, Nd W → Hid (Calls Tryd.prog 12 #[cv u s 0 h n t] W (BoolPost W true)) := fun W h' => by have := may_any u s 0 h n t W h'; rw [hm] at this; exact this
  go_enter Tryd.func7, Tryd.ntmps7
  go_wp2_with fail
  have BW : Below w.heap.size w (w.alloc (.cells #[.int .i64 u, .int .i64 s, .int .i64 0, .int .i64 h, .int .i64 n, .string t] 23)) := (Below.refl _ _).alloc (Nat.le_refl _) _
  have Z0 : (w.alloc (.cells #[.int .i64 u, .int .i64 s, .int .i64 0, .int .i64 h, .int .i64 n, .string t] 23)).heap.size = w.heap.size + 1 := by simp
  have C0 := cb_new w u s 0 h n t
  have N0 := hN.on BW
  generalize (w.alloc (.cells #[.int .i64 u, .int .i64 s, .int .i64 0, .int .i64 h, .int .i64 n, .string t] 23)) = W0 at *
  refine (awake_any W0 N0).mono ?_
  rintro e w1 ⟨rfl, B1⟩
  have N1 := N0.on B1
  have q1 := B1.size
  have C1 := C0.on B1 (by omega)
  obtain ⟨p0, p1, p2, p3, p4, p5⟩ := C1
  go_wp2_with fail
  refine (HM _ N1).out.mono ?_
  rintro e w2 ⟨rfl, B2⟩
  have q2 := B2.size
  obtain ⟨p0, p1, p2, p3, p4, p5⟩ := C0.on ((B1.mono (Nat.le_refl _)).trans (B2.mono q1)) (by omega)
  go_wp2
  go_ret
  exact ⟨rfl, BW.trans ((B1.mono BW.size).trans (B2.mono (by omega)))⟩

set_option maxHeartbeats 1000000 in
theorem some_nt (u s k h n : Int) (t : ByteArray) (w : World) (hN : Nd w) (hk : (k == 0) = false) (hn : (n == 0) = false) (hl : ¬ (500 : Int) < (t.size : Int)) (ht : t.size ≠ 0) (hm : mayB u s k h n t.size = true)
    (f1 : mayB 0 s k h n t.size = false) (f2 : mayB u s k 0 n t.size = false) (f3 : mayB u s k h 0 t.size = false) (f4 : mayB u s k h n 0 = false) : Calls Tryd.prog 7 #[cv u s k h n t] w (UpPost w) := by
  have HM : ∀ W, Nd W → Hid (Calls Tryd.prog 12 #[cv u s k h n t] W (BoolPost W true)) := fun W h' => by have := may_any u s k h n t W h'; rw [show mayB u s k h n t.size = true from hm] at this; exact this
  have H1 : ∀ W, Nd W → Hid (Calls Tryd.prog 12 #[cv 0 s k h n t] W (BoolPost W false)) := fun W h' => by have := may_any 0 s k h n t W h'; rw [show mayB 0 s k h n t.size = false from f1] at this; exact this
  have H2 : ∀ W, Nd W → Hid (Calls Tryd.prog 12 #[cv u s k 0 n t] W (BoolPost W false)) := fun W h' => by have := may_any u s k 0 n t W h'; rw [show mayB u s k 0 n t.size = false from f2] at this; exact this
  have H3 : ∀ W, Nd W → Hid (Calls Tryd.prog 12 #[cv u s k h 0 t] W (BoolPost W false)) := fun W h' => by have := may_any u s k h 0 t W h'; rw [show mayB u s k h 0 t.size = false from f3] at this; exact this
  have H4 : ∀ W, Nd W → Hid (Calls Tryd.prog 12 #[cv u s k h n { data := #[] }] W (BoolPost W false)) := fun W h' => by have := may_any u s k h n { data := #[] } W h'; rw [show mayB u s k h n ({ data := #[] } : ByteArray).size = false from f4] at this; exact this
  have ht2 : ¬ t.toList = [] := tl_ne ht
  have ht1 : (t.toList == []) = false := by rw [beq_eq_false_iff_ne]; exact ht2
  clear ht
  clear f1 f2 f3 f4 hm
  go_enter Tryd.func7, Tryd.ntmps7
  go_wp2_with fail
  have BW : Below w.heap.size w (w.alloc (.cells #[.int .i64 u, .int .i64 s, .int .i64 k, .int .i64 h, .int .i64 n, .string t] 23)) := (Below.refl _ _).alloc (Nat.le_refl _) _
  have Z0 : (w.alloc (.cells #[.int .i64 u, .int .i64 s, .int .i64 k, .int .i64 h, .int .i64 n, .string t] 23)).heap.size = w.heap.size + 1 := by simp
  have C0 := cb_new w u s k h n t
  have N0 := hN.on BW
  generalize (w.alloc (.cells #[.int .i64 u, .int .i64 s, .int .i64 k, .int .i64 h, .int .i64 n, .string t] 23)) = W0 at *
  refine (awake_any W0 N0).mono ?_
  rintro e w1 ⟨rfl, B1⟩
  have N1 := N0.on B1
  have q1 := B1.size
  have C1 := C0.on B1 (by omega)
  obtain ⟨p0, p1, p2, p3, p4, p5⟩ := C1
  go_wp2_with fail
  refine (HM _ N1).out.mono ?_
  rintro e w2 ⟨rfl, B2⟩
  have q2 := B2.size
  have N2 := N1.on B2
  have q3 : w.heap.size < w2.heap.size := by omega
  have B02 := ((B1.mono (Nat.le_refl _)).trans (B2.mono q1))
  clear p0 p1 p2 p3 p4 p5
  obtain ⟨p0, p1, p2, p3, p4, p5⟩ := C0.on B02 (by omega)
  have q4 : w.heap.size < w2.heap.size + 1 := by omega
  have q5 : w.heap.size < w2.heap.size + 1 + 1 := by omega
  have q6 : w.heap.size < w2.heap.size + 1 + 1 + 1 := by omega
  go_wp2_with fail
  have R1 : Below w2.heap.size w2 (w2.alloc (.cells #[.int .i64 0, .int .i64 s, .int .i64 k, .int .i64 h, .int .i64 n, .string t] 23)) := (Below.refl _ _).alloc (Nat.le_refl _) _
  have Y1 : (w2.alloc (.cells #[.int .i64 0, .int .i64 s, .int .i64 k, .int .i64 h, .int .i64 n, .string t] 23)).heap.size = w2.heap.size + 1 := by simp
  generalize w2.alloc (.cells #[.int .i64 0, .int .i64 s, .int .i64 k, .int .i64 h, .int .i64 n, .string t] 23) = v1 at *
  have R2 : Below w2.heap.size w2 (v1.alloc (.cells #[.int .i64 u, .int .i64 s, .int .i64 k, .int .i64 0, .int .i64 n, .string t] 23)) := R1.alloc (by omega) _
  have Y2 : (v1.alloc (.cells #[.int .i64 u, .int .i64 s, .int .i64 k, .int .i64 0, .int .i64 n, .string t] 23)).heap.size = w2.heap.size + 1 + 1 := by simp [Y1]
  have D2 := cb_new v1 u s k 0 n t
  rw [Y1] at D2
  generalize v1.alloc (.cells #[.int .i64 u, .int .i64 s, .int .i64 k, .int .i64 0, .int .i64 n, .string t] 23) = v2 at *
  have R3 : Below w2.heap.size w2 (v2.alloc (.cells #[.int .i64 u, .int .i64 s, .int .i64 k, .int .i64 h, .int .i64 0, .string t] 23)) := R2.alloc (by omega) _
  have Y3 : (v2.alloc (.cells #[.int .i64 u, .int .i64 s, .int .i64 k, .int .i64 h, .int .i64 0, .string t] 23)).heap.size = w2.heap.size + 1 + 1 + 1 := by simp [Y2]
  have D3 := cb_new v2 u s k h 0 t
  rw [Y2] at D3
  have D2 := D2.on ((Below.refl v2.heap.size v2).alloc (Nat.le_refl _) (.cells #[.int .i64 u, .int .i64 s, .int .i64 k, .int .i64 h, .int .i64 0, .string t] 23)) (by omega)
  generalize v2.alloc (.cells #[.int .i64 u, .int .i64 s, .int .i64 k, .int .i64 h, .int .i64 0, .string t] 23) = v3 at *
  have R4 : Below w2.heap.size w2 (v3.alloc (.cells #[.int .i64 u, .int .i64 s, .int .i64 k, .int .i64 h, .int .i64 n, .string { data := #[] }] 23)) := R3.alloc (by omega) _
  have Y4 : (v3.alloc (.cells #[.int .i64 u, .int .i64 s, .int .i64 k, .int .i64 h, .int .i64 n, .string { data := #[] }] 23)).heap.size = w2.heap.size + 1 + 1 + 1 + 1 := by simp [Y3]
  have D4 := cb_new v3 u s k h n { data := #[] }
  rw [Y3] at D4
  have D2 := D2.on ((Below.refl v3.heap.size v3).alloc (Nat.le_refl _) (.cells #[.int .i64 u, .int .i64 s, .int .i64 k, .int .i64 h, .int .i64 n, .string { data := #[] }] 23)) (by omega)
  have D3 := D3.on ((Below.refl v3.heap.size v3).alloc (Nat.le_refl _) (.cells #[.int .i64 u, .int .i64 s, .int .i64 k, .int .i64 h, .int .i64 n, .string { data := #[] }] 23)) (by omega)
  generalize v3.alloc (.cells #[.int .i64 u, .int .i64 s, .int .i64 k, .int .i64 h, .int .i64 n, .string { data := #[] }] 23) = v4 at *
  have M4 := N2.on R4
  clear p0 p1 p2 p3 p4 p5 q4 q5 q6 R1 R2 R3 Y1 Y2 Y3
  refine (H1 _ M4).out.mono ?_
  rintro e v5 ⟨rfl, R5⟩
  have y5 := R5.size
  have M5 := M4.on R5
  obtain ⟨p0, p1, p2, p3, p4, p5⟩ := D2.on R5 (by omega)
  go_wp2_with fail
  clear p0 p1 p2 p3 p4 p5
  refine (H2 _ M5).out.mono ?_
  rintro e v6 ⟨rfl, R6⟩
  have y6 := R6.size
  have M6 := M5.on R6
  have R46 := R5.trans (R6.mono y5)
  obtain ⟨p0, p1, p2, p3, p4, p5⟩ := D3.on R46 (by omega)
  go_wp2_with fail
  clear p0 p1 p2 p3 p4 p5
  refine (H3 _ M6).out.mono ?_
  rintro e v7 ⟨rfl, R7⟩
  have y7 := R7.size
  have M7 := M6.on R7
  have R47 := R46.trans (R7.mono (by omega))
  obtain ⟨p0, p1, p2, p3, p4, p5⟩ := D4.on R47 (by omega)
  go_wp2_with fail
  clear p0 p1 p2 p3 p4 p5
  refine (H4 _ M7).out.mono ?_
  rintro e v8 ⟨rfl, R8⟩
  go_wp2
  go_ret
  exact ⟨rfl, ((BW.trans (B02.mono BW.size)).trans (R4.mono (by omega))).trans ((R47.mono (by omega)).trans (R8.mono (by omega)))⟩

set_option maxHeartbeats 1000000 in
theorem some_n (u s k h n : Int) (w : World) (hN : Nd w) (hk : (k == 0) = false) (hn : (n == 0) = false) (hm : mayB u s k h n 0 = true)
    (f1 : mayB 0 s k h n 0 = false) (f2 : mayB u s k 0 n 0 = false) (f3 : mayB u s k h 0 0 = false) (f4 : mayB u s k h n 1 = false) : Calls Tryd.prog 7 #[cv u s k h n { data := #[] }] w (UpPost w) := by
  have HM : ∀ W, Nd W → Hid (Calls Tryd.prog 12 #[cv u s k h n { data := #[] }] W (BoolPost W true)) := fun W h' => by have := may_any u s k h n { data := #[] } W h'; rw [show mayB u s k h n ({ data := #[] } : ByteArray).size = true from hm] at this; exact this
  have H1 : ∀ W, Nd W → Hid (Calls Tryd.prog 12 #[cv 0 s k h n { data := #[] }] W (BoolPost W false)) := fun W h' => by have := may_any 0 s k h n { data := #[] } W h'; rw [show mayB 0 s k h n ({ data := #[] } : ByteArray).size = false from f1] at this; exact this
  have H2 : ∀ W, Nd W → Hid (Calls Tryd.prog 12 #[cv u s k 0 n { data := #[] }] W (BoolPost W false)) := fun W h' => by have := may_any u s k 0 n { data := #[] } W h'; rw [show mayB u s k 0 n ({ data := #[] } : ByteArray).size = false from f2] at this; exact this
  have H3 : ∀ W, Nd W → Hid (Calls Tryd.prog 12 #[cv u s k h 0 { data := #[] }] W (BoolPost W false)) := fun W h' => by have := may_any u s k h 0 { data := #[] } W h'; rw [show mayB u s k h 0 ({ data := #[] } : ByteArray).size = false from f3] at this; exact this
  have H4 : ∀ W, Nd W → Hid (Calls Tryd.prog 12 #[cv u s k h n { data := #[120] }] W (BoolPost W false)) := fun W h' => by have := may_any u s k h n { data := #[120] } W h'; rw [show mayB u s k h n ({ data := #[120] } : ByteArray).size = false from f4] at this; exact this
  clear f1 f2 f3 f4 hm
  go_enter Tryd.func7, Tryd.ntmps7
  go_wp2_with fail
  have BW : Below w.heap.size w (w.alloc (.cells #[.int .i64 u, .int .i64 s, .int .i64 k, .int .i64 h, .int .i64 n, .string { data := #[] }] 23)) := (Below.refl _ _).alloc (Nat.le_refl _) _
  have Z0 : (w.alloc (.cells #[.int .i64 u, .int .i64 s, .int .i64 k, .int .i64 h, .int .i64 n, .string { data := #[] }] 23)).heap.size = w.heap.size + 1 := by simp
  have C0 := cb_new w u s k h n { data := #[] }
  have N0 := hN.on BW
  generalize (w.alloc (.cells #[.int .i64 u, .int .i64 s, .int .i64 k, .int .i64 h, .int .i64 n, .string { data := #[] }] 23)) = W0 at *
  refine (awake_any W0 N0).mono ?_
  rintro e w1 ⟨rfl, B1⟩
  have N1 := N0.on B1
  have q1 := B1.size
  have C1 := C0.on B1 (by omega)
  obtain ⟨p0, p1, p2, p3, p4, p5⟩ := C1
  go_wp2_with fail
  refine (HM _ N1).out.mono ?_
  rintro e w2 ⟨rfl, B2⟩
  have q2 := B2.size
  have N2 := N1.on B2
  have q3 : w.heap.size < w2.heap.size := by omega
  have B02 := ((B1.mono (Nat.le_refl _)).trans (B2.mono q1))
  clear p0 p1 p2 p3 p4 p5
  obtain ⟨p0, p1, p2, p3, p4, p5⟩ := C0.on B02 (by omega)
  have q4 : w.heap.size < w2.heap.size + 1 := by omega
  have q5 : w.heap.size < w2.heap.size + 1 + 1 := by omega
  have q6 : w.heap.size < w2.heap.size + 1 + 1 + 1 := by omega
  go_wp2_with fail
  have R1 : Below w2.heap.size w2 (w2.alloc (.cells #[.int .i64 0, .int .i64 s, .int .i64 k, .int .i64 h, .int .i64 n, .string { data := #[] }] 23)) := (Below.refl _ _).alloc (Nat.le_refl _) _
  have Y1 : (w2.alloc (.cells #[.int .i64 0, .int .i64 s, .int .i64 k, .int .i64 h, .int .i64 n, .string { data := #[] }] 23)).heap.size = w2.heap.size + 1 := by simp
  generalize w2.alloc (.cells #[.int .i64 0, .int .i64 s, .int .i64 k, .int .i64 h, .int .i64 n, .string { data := #[] }] 23) = v1 at *
  have R2 : Below w2.heap.size w2 (v1.alloc (.cells #[.int .i64 u, .int .i64 s, .int .i64 k, .int .i64 0, .int .i64 n, .string { data := #[] }] 23)) := R1.alloc (by omega) _
  have Y2 : (v1.alloc (.cells #[.int .i64 u, .int .i64 s, .int .i64 k, .int .i64 0, .int .i64 n, .string { data := #[] }] 23)).heap.size = w2.heap.size + 1 + 1 := by simp [Y1]
  have D2 := cb_new v1 u s k 0 n { data := #[] }
  rw [Y1] at D2
  generalize v1.alloc (.cells #[.int .i64 u, .int .i64 s, .int .i64 k, .int .i64 0, .int .i64 n, .string { data := #[] }] 23) = v2 at *
  have R3 : Below w2.heap.size w2 (v2.alloc (.cells #[.int .i64 u, .int .i64 s, .int .i64 k, .int .i64 h, .int .i64 0, .string { data := #[] }] 23)) := R2.alloc (by omega) _
  have Y3 : (v2.alloc (.cells #[.int .i64 u, .int .i64 s, .int .i64 k, .int .i64 h, .int .i64 0, .string { data := #[] }] 23)).heap.size = w2.heap.size + 1 + 1 + 1 := by simp [Y2]
  have D3 := cb_new v2 u s k h 0 { data := #[] }
  rw [Y2] at D3
  have D2 := D2.on ((Below.refl v2.heap.size v2).alloc (Nat.le_refl _) (.cells #[.int .i64 u, .int .i64 s, .int .i64 k, .int .i64 h, .int .i64 0, .string { data := #[] }] 23)) (by omega)
  generalize v2.alloc (.cells #[.int .i64 u, .int .i64 s, .int .i64 k, .int .i64 h, .int .i64 0, .string { data := #[] }] 23) = v3 at *
  have R4 : Below w2.heap.size w2 (v3.alloc (.cells #[.int .i64 u, .int .i64 s, .int .i64 k, .int .i64 h, .int .i64 n, .string { data := #[120] }] 23)) := R3.alloc (by omega) _
  have Y4 : (v3.alloc (.cells #[.int .i64 u, .int .i64 s, .int .i64 k, .int .i64 h, .int .i64 n, .string { data := #[120] }] 23)).heap.size = w2.heap.size + 1 + 1 + 1 + 1 := by simp [Y3]
  have D4 := cb_new v3 u s k h n { data := #[120] }
  rw [Y3] at D4
  have D2 := D2.on ((Below.refl v3.heap.size v3).alloc (Nat.le_refl _) (.cells #[.int .i64 u, .int .i64 s, .int .i64 k, .int .i64 h, .int .i64 n, .string { data := #[120] }] 23)) (by omega)
  have D3 := D3.on ((Below.refl v3.heap.size v3).alloc (Nat.le_refl _) (.cells #[.int .i64 u, .int .i64 s, .int .i64 k, .int .i64 h, .int .i64 n, .string { data := #[120] }] 23)) (by omega)
  generalize v3.alloc (.cells #[.int .i64 u, .int .i64 s, .int .i64 k, .int .i64 h, .int .i64 n, .string { data := #[120] }] 23) = v4 at *
  have M4 := N2.on R4
  clear p0 p1 p2 p3 p4 p5 q4 q5 q6 R1 R2 R3 Y1 Y2 Y3
  refine (H1 _ M4).out.mono ?_
  rintro e v5 ⟨rfl, R5⟩
  have y5 := R5.size
  have M5 := M4.on R5
  obtain ⟨p0, p1, p2, p3, p4, p5⟩ := D2.on R5 (by omega)
  go_wp2_with fail
  clear p0 p1 p2 p3 p4 p5
  refine (H2 _ M5).out.mono ?_
  rintro e v6 ⟨rfl, R6⟩
  have y6 := R6.size
  have M6 := M5.on R6
  have R46 := R5.trans (R6.mono y5)
  obtain ⟨p0, p1, p2, p3, p4, p5⟩ := D3.on R46 (by omega)
  go_wp2_with fail
  clear p0 p1 p2 p3 p4 p5
  refine (H3 _ M6).out.mono ?_
  rintro e v7 ⟨rfl, R7⟩
  have y7 := R7.size
  have M7 := M6.on R7
  have R47 := R46.trans (R7.mono (by omega))
  obtain ⟨p0, p1, p2, p3, p4, p5⟩ := D4.on R47 (by omega)
  go_wp2_with fail
  clear p0 p1 p2 p3 p4 p5
  refine (H4 _ M7).out.mono ?_
  rintro e v8 ⟨rfl, R8⟩
  go_wp2
  go_ret
  exact ⟨rfl, ((BW.trans (B02.mono BW.size)).trans (R4.mono (by omega))).trans ((R47.mono (by omega)).trans (R8.mono (by omega)))⟩

set_option maxHeartbeats 1000000 in
theorem some_t (u s k h : Int) (t : ByteArray) (w : World) (hN : Nd w) (hk : (k == 0) = false) (hl : ¬ (500 : Int) < (t.size : Int)) (ht : t.size ≠ 0) (hm : mayB u s k h 0 t.size = true)
    (f1 : mayB 0 s k h 0 t.size = false) (f2 : mayB u s k 0 0 t.size = false) (f3 : mayB u s k h 1 t.size = false) (f4 : mayB u s k h 0 0 = false) : Calls Tryd.prog 7 #[cv u s k h 0 t] w (UpPost w) := by
  have HM : ∀ W, Nd W → Hid (Calls Tryd.prog 12 #[cv u s k h 0 t] W (BoolPost W true)) := fun W h' => by have := may_any u s k h 0 t W h'; rw [show mayB u s k h 0 t.size = true from hm] at this; exact this
  have H1 : ∀ W, Nd W → Hid (Calls Tryd.prog 12 #[cv 0 s k h 0 t] W (BoolPost W false)) := fun W h' => by have := may_any 0 s k h 0 t W h'; rw [show mayB 0 s k h 0 t.size = false from f1] at this; exact this
  have H2 : ∀ W, Nd W → Hid (Calls Tryd.prog 12 #[cv u s k 0 0 t] W (BoolPost W false)) := fun W h' => by have := may_any u s k 0 0 t W h'; rw [show mayB u s k 0 0 t.size = false from f2] at this; exact this
  have H3 : ∀ W, Nd W → Hid (Calls Tryd.prog 12 #[cv u s k h 1 t] W (BoolPost W false)) := fun W h' => by have := may_any u s k h 1 t W h'; rw [show mayB u s k h 1 t.size = false from f3] at this; exact this
  have H4 : ∀ W, Nd W → Hid (Calls Tryd.prog 12 #[cv u s k h 0 { data := #[] }] W (BoolPost W false)) := fun W h' => by have := may_any u s k h 0 { data := #[] } W h'; rw [show mayB u s k h 0 ({ data := #[] } : ByteArray).size = false from f4] at this; exact this
  have ht2 : ¬ t.toList = [] := tl_ne ht
  have ht1 : (t.toList == []) = false := by rw [beq_eq_false_iff_ne]; exact ht2
  clear ht
  clear f1 f2 f3 f4 hm
  go_enter Tryd.func7, Tryd.ntmps7
  go_wp2_with fail
  have BW : Below w.heap.size w (w.alloc (.cells #[.int .i64 u, .int .i64 s, .int .i64 k, .int .i64 h, .int .i64 0, .string t] 23)) := (Below.refl _ _).alloc (Nat.le_refl _) _
  have Z0 : (w.alloc (.cells #[.int .i64 u, .int .i64 s, .int .i64 k, .int .i64 h, .int .i64 0, .string t] 23)).heap.size = w.heap.size + 1 := by simp
  have C0 := cb_new w u s k h 0 t
  have N0 := hN.on BW
  generalize (w.alloc (.cells #[.int .i64 u, .int .i64 s, .int .i64 k, .int .i64 h, .int .i64 0, .string t] 23)) = W0 at *
  refine (awake_any W0 N0).mono ?_
  rintro e w1 ⟨rfl, B1⟩
  have N1 := N0.on B1
  have q1 := B1.size
  have C1 := C0.on B1 (by omega)
  obtain ⟨p0, p1, p2, p3, p4, p5⟩ := C1
  go_wp2_with fail
  refine (HM _ N1).out.mono ?_
  rintro e w2 ⟨rfl, B2⟩
  have q2 := B2.size
  have N2 := N1.on B2
  have q3 : w.heap.size < w2.heap.size := by omega
  have B02 := ((B1.mono (Nat.le_refl _)).trans (B2.mono q1))
  clear p0 p1 p2 p3 p4 p5
  obtain ⟨p0, p1, p2, p3, p4, p5⟩ := C0.on B02 (by omega)
  have q4 : w.heap.size < w2.heap.size + 1 := by omega
  have q5 : w.heap.size < w2.heap.size + 1 + 1 := by omega
  have q6 : w.heap.size < w2.heap.size + 1 + 1 + 1 := by omega
  go_wp2_with fail
  have R1 : Below w2.heap.size w2 (w2.alloc (.cells #[.int .i64 0, .int .i64 s, .int .i64 k, .int .i64 h, .int .i64 0, .string t] 23)) := (Below.refl _ _).alloc (Nat.le_refl _) _
  have Y1 : (w2.alloc (.cells #[.int .i64 0, .int .i64 s, .int .i64 k, .int .i64 h, .int .i64 0, .string t] 23)).heap.size = w2.heap.size + 1 := by simp
  generalize w2.alloc (.cells #[.int .i64 0, .int .i64 s, .int .i64 k, .int .i64 h, .int .i64 0, .string t] 23) = v1 at *
  have R2 : Below w2.heap.size w2 (v1.alloc (.cells #[.int .i64 u, .int .i64 s, .int .i64 k, .int .i64 0, .int .i64 0, .string t] 23)) := R1.alloc (by omega) _
  have Y2 : (v1.alloc (.cells #[.int .i64 u, .int .i64 s, .int .i64 k, .int .i64 0, .int .i64 0, .string t] 23)).heap.size = w2.heap.size + 1 + 1 := by simp [Y1]
  have D2 := cb_new v1 u s k 0 0 t
  rw [Y1] at D2
  generalize v1.alloc (.cells #[.int .i64 u, .int .i64 s, .int .i64 k, .int .i64 0, .int .i64 0, .string t] 23) = v2 at *
  have R3 : Below w2.heap.size w2 (v2.alloc (.cells #[.int .i64 u, .int .i64 s, .int .i64 k, .int .i64 h, .int .i64 1, .string t] 23)) := R2.alloc (by omega) _
  have Y3 : (v2.alloc (.cells #[.int .i64 u, .int .i64 s, .int .i64 k, .int .i64 h, .int .i64 1, .string t] 23)).heap.size = w2.heap.size + 1 + 1 + 1 := by simp [Y2]
  have D3 := cb_new v2 u s k h 1 t
  rw [Y2] at D3
  have D2 := D2.on ((Below.refl v2.heap.size v2).alloc (Nat.le_refl _) (.cells #[.int .i64 u, .int .i64 s, .int .i64 k, .int .i64 h, .int .i64 1, .string t] 23)) (by omega)
  generalize v2.alloc (.cells #[.int .i64 u, .int .i64 s, .int .i64 k, .int .i64 h, .int .i64 1, .string t] 23) = v3 at *
  have R4 : Below w2.heap.size w2 (v3.alloc (.cells #[.int .i64 u, .int .i64 s, .int .i64 k, .int .i64 h, .int .i64 0, .string { data := #[] }] 23)) := R3.alloc (by omega) _
  have Y4 : (v3.alloc (.cells #[.int .i64 u, .int .i64 s, .int .i64 k, .int .i64 h, .int .i64 0, .string { data := #[] }] 23)).heap.size = w2.heap.size + 1 + 1 + 1 + 1 := by simp [Y3]
  have D4 := cb_new v3 u s k h 0 { data := #[] }
  rw [Y3] at D4
  have D2 := D2.on ((Below.refl v3.heap.size v3).alloc (Nat.le_refl _) (.cells #[.int .i64 u, .int .i64 s, .int .i64 k, .int .i64 h, .int .i64 0, .string { data := #[] }] 23)) (by omega)
  have D3 := D3.on ((Below.refl v3.heap.size v3).alloc (Nat.le_refl _) (.cells #[.int .i64 u, .int .i64 s, .int .i64 k, .int .i64 h, .int .i64 0, .string { data := #[] }] 23)) (by omega)
  generalize v3.alloc (.cells #[.int .i64 u, .int .i64 s, .int .i64 k, .int .i64 h, .int .i64 0, .string { data := #[] }] 23) = v4 at *
  have M4 := N2.on R4
  clear p0 p1 p2 p3 p4 p5 q4 q5 q6 R1 R2 R3 Y1 Y2 Y3
  refine (H1 _ M4).out.mono ?_
  rintro e v5 ⟨rfl, R5⟩
  have y5 := R5.size
  have M5 := M4.on R5
  obtain ⟨p0, p1, p2, p3, p4, p5⟩ := D2.on R5 (by omega)
  go_wp2_with fail
  clear p0 p1 p2 p3 p4 p5
  refine (H2 _ M5).out.mono ?_
  rintro e v6 ⟨rfl, R6⟩
  have y6 := R6.size
  have M6 := M5.on R6
  have R46 := R5.trans (R6.mono y5)
  obtain ⟨p0, p1, p2, p3, p4, p5⟩ := D3.on R46 (by omega)
  go_wp2_with fail
  clear p0 p1 p2 p3 p4 p5
  refine (H3 _ M6).out.mono ?_
  rintro e v7 ⟨rfl, R7⟩
  have y7 := R7.size
  have M7 := M6.on R7
  have R47 := R46.trans (R7.mono (by omega))
  obtain ⟨p0, p1, p2, p3, p4, p5⟩ := D4.on R47 (by omega)
  go_wp2_with fail
  clear p0 p1 p2 p3 p4 p5
  refine (H4 _ M7).out.mono ?_
  rintro e v8 ⟨rfl, R8⟩
  go_wp2
  go_ret
  exact ⟨rfl, ((BW.trans (B02.mono BW.size)).trans (R4.mono (by omega))).trans ((R47.mono (by omega)).trans (R8.mono (by omega)))⟩

set_option maxHeartbeats 1000000 in
theorem some_0 (u s k h : Int) (w : World) (hN : Nd w) (hk : (k == 0) = false) (hm : mayB u s k h 0 0 = true)
    (f1 : mayB 0 s k h 0 0 = false) (f2 : mayB u s k 0 0 0 = false) (f3 : mayB u s k h 1 0 = false) (f4 : mayB u s k h 0 1 = false) : Calls Tryd.prog 7 #[cv u s k h 0 { data := #[] }] w (UpPost w) := by
  have HM : ∀ W, Nd W → Hid (Calls Tryd.prog 12 #[cv u s k h 0 { data := #[] }] W (BoolPost W true)) := fun W h' => by have := may_any u s k h 0 { data := #[] } W h'; rw [show mayB u s k h 0 ({ data := #[] } : ByteArray).size = true from hm] at this; exact this
  have H1 : ∀ W, Nd W → Hid (Calls Tryd.prog 12 #[cv 0 s k h 0 { data := #[] }] W (BoolPost W false)) := fun W h' => by have := may_any 0 s k h 0 { data := #[] } W h'; rw [show mayB 0 s k h 0 ({ data := #[] } : ByteArray).size = false from f1] at this; exact this
  have H2 : ∀ W, Nd W → Hid (Calls Tryd.prog 12 #[cv u s k 0 0 { data := #[] }] W (BoolPost W false)) := fun W h' => by have := may_any u s k 0 0 { data := #[] } W h'; rw [show mayB u s k 0 0 ({ data := #[] } : ByteArray).size = false from f2] at this; exact this
  have H3 : ∀ W, Nd W → Hid (Calls Tryd.prog 12 #[cv u s k h 1 { data := #[] }] W (BoolPost W false)) := fun W h' => by have := may_any u s k h 1 { data := #[] } W h'; rw [show mayB u s k h 1 ({ data := #[] } : ByteArray).size = false from f3] at this; exact this
  have H4 : ∀ W, Nd W → Hid (Calls Tryd.prog 12 #[cv u s k h 0 { data := #[120] }] W (BoolPost W false)) := fun W h' => by have := may_any u s k h 0 { data := #[120] } W h'; rw [show mayB u s k h 0 ({ data := #[120] } : ByteArray).size = false from f4] at this; exact this
  clear f1 f2 f3 f4 hm
  go_enter Tryd.func7, Tryd.ntmps7
  go_wp2_with fail
  have BW : Below w.heap.size w (w.alloc (.cells #[.int .i64 u, .int .i64 s, .int .i64 k, .int .i64 h, .int .i64 0, .string { data := #[] }] 23)) := (Below.refl _ _).alloc (Nat.le_refl _) _
  have Z0 : (w.alloc (.cells #[.int .i64 u, .int .i64 s, .int .i64 k, .int .i64 h, .int .i64 0, .string { data := #[] }] 23)).heap.size = w.heap.size + 1 := by simp
  have C0 := cb_new w u s k h 0 { data := #[] }
  have N0 := hN.on BW
  generalize (w.alloc (.cells #[.int .i64 u, .int .i64 s, .int .i64 k, .int .i64 h, .int .i64 0, .string { data := #[] }] 23)) = W0 at *
  refine (awake_any W0 N0).mono ?_
  rintro e w1 ⟨rfl, B1⟩
  have N1 := N0.on B1
  have q1 := B1.size
  have C1 := C0.on B1 (by omega)
  obtain ⟨p0, p1, p2, p3, p4, p5⟩ := C1
  go_wp2_with fail
  refine (HM _ N1).out.mono ?_
  rintro e w2 ⟨rfl, B2⟩
  have q2 := B2.size
  have N2 := N1.on B2
  have q3 : w.heap.size < w2.heap.size := by omega
  have B02 := ((B1.mono (Nat.le_refl _)).trans (B2.mono q1))
  clear p0 p1 p2 p3 p4 p5
  obtain ⟨p0, p1, p2, p3, p4, p5⟩ := C0.on B02 (by omega)
  have q4 : w.heap.size < w2.heap.size + 1 := by omega
  have q5 : w.heap.size < w2.heap.size + 1 + 1 := by omega
  have q6 : w.heap.size < w2.heap.size + 1 + 1 + 1 := by omega
  go_wp2_with fail
  have R1 : Below w2.heap.size w2 (w2.alloc (.cells #[.int .i64 0, .int .i64 s, .int .i64 k, .int .i64 h, .int .i64 0, .string { data := #[] }] 23)) := (Below.refl _ _).alloc (Nat.le_refl _) _
  have Y1 : (w2.alloc (.cells #[.int .i64 0, .int .i64 s, .int .i64 k, .int .i64 h, .int .i64 0, .string { data := #[] }] 23)).heap.size = w2.heap.size + 1 := by simp
  generalize w2.alloc (.cells #[.int .i64 0, .int .i64 s, .int .i64 k, .int .i64 h, .int .i64 0, .string { data := #[] }] 23) = v1 at *
  have R2 : Below w2.heap.size w2 (v1.alloc (.cells #[.int .i64 u, .int .i64 s, .int .i64 k, .int .i64 0, .int .i64 0, .string { data := #[] }] 23)) := R1.alloc (by omega) _
  have Y2 : (v1.alloc (.cells #[.int .i64 u, .int .i64 s, .int .i64 k, .int .i64 0, .int .i64 0, .string { data := #[] }] 23)).heap.size = w2.heap.size + 1 + 1 := by simp [Y1]
  have D2 := cb_new v1 u s k 0 0 { data := #[] }
  rw [Y1] at D2
  generalize v1.alloc (.cells #[.int .i64 u, .int .i64 s, .int .i64 k, .int .i64 0, .int .i64 0, .string { data := #[] }] 23) = v2 at *
  have R3 : Below w2.heap.size w2 (v2.alloc (.cells #[.int .i64 u, .int .i64 s, .int .i64 k, .int .i64 h, .int .i64 1, .string { data := #[] }] 23)) := R2.alloc (by omega) _
  have Y3 : (v2.alloc (.cells #[.int .i64 u, .int .i64 s, .int .i64 k, .int .i64 h, .int .i64 1, .string { data := #[] }] 23)).heap.size = w2.heap.size + 1 + 1 + 1 := by simp [Y2]
  have D3 := cb_new v2 u s k h 1 { data := #[] }
  rw [Y2] at D3
  have D2 := D2.on ((Below.refl v2.heap.size v2).alloc (Nat.le_refl _) (.cells #[.int .i64 u, .int .i64 s, .int .i64 k, .int .i64 h, .int .i64 1, .string { data := #[] }] 23)) (by omega)
  generalize v2.alloc (.cells #[.int .i64 u, .int .i64 s, .int .i64 k, .int .i64 h, .int .i64 1, .string { data := #[] }] 23) = v3 at *
  have R4 : Below w2.heap.size w2 (v3.alloc (.cells #[.int .i64 u, .int .i64 s, .int .i64 k, .int .i64 h, .int .i64 0, .string { data := #[120] }] 23)) := R3.alloc (by omega) _
  have Y4 : (v3.alloc (.cells #[.int .i64 u, .int .i64 s, .int .i64 k, .int .i64 h, .int .i64 0, .string { data := #[120] }] 23)).heap.size = w2.heap.size + 1 + 1 + 1 + 1 := by simp [Y3]
  have D4 := cb_new v3 u s k h 0 { data := #[120] }
  rw [Y3] at D4
  have D2 := D2.on ((Below.refl v3.heap.size v3).alloc (Nat.le_refl _) (.cells #[.int .i64 u, .int .i64 s, .int .i64 k, .int .i64 h, .int .i64 0, .string { data := #[120] }] 23)) (by omega)
  have D3 := D3.on ((Below.refl v3.heap.size v3).alloc (Nat.le_refl _) (.cells #[.int .i64 u, .int .i64 s, .int .i64 k, .int .i64 h, .int .i64 0, .string { data := #[120] }] 23)) (by omega)
  generalize v3.alloc (.cells #[.int .i64 u, .int .i64 s, .int .i64 k, .int .i64 h, .int .i64 0, .string { data := #[120] }] 23) = v4 at *
  have M4 := N2.on R4
  clear p0 p1 p2 p3 p4 p5 q4 q5 q6 R1 R2 R3 Y1 Y2 Y3
  refine (H1 _ M4).out.mono ?_
  rintro e v5 ⟨rfl, R5⟩
  have y5 := R5.size
  have M5 := M4.on R5
  obtain ⟨p0, p1, p2, p3, p4, p5⟩ := D2.on R5 (by omega)
  go_wp2_with fail
  clear p0 p1 p2 p3 p4 p5
  refine (H2 _ M5).out.mono ?_
  rintro e v6 ⟨rfl, R6⟩
  have y6 := R6.size
  have M6 := M5.on R6
  have R46 := R5.trans (R6.mono y5)
  obtain ⟨p0, p1, p2, p3, p4, p5⟩ := D3.on R46 (by omega)
  go_wp2_with fail
  clear p0 p1 p2 p3 p4 p5
  refine (H3 _ M6).out.mono ?_
  rintro e v7 ⟨rfl, R7⟩
  have y7 := R7.size
  have M7 := M6.on R7
  have R47 := R46.trans (R7.mono (by omega))
  obtain ⟨p0, p1, p2, p3, p4, p5⟩ := D4.on R47 (by omega)
  go_wp2_with fail
  clear p0 p1 p2 p3 p4 p5
  refine (H4 _ M7).out.mono ?_
  rintro e v8 ⟨rfl, R8⟩
  go_wp2
  go_ret
  exact ⟨rfl, ((BW.trans (B02.mono BW.size)).trans (R4.mono (by omega))).trans ((R47.mono (by omega)).trans (R8.mono (by omega)))⟩

theorem walk (u s k h n : Int) (t : ByteArray) (w : World) (hN : Nd w) : Calls Tryd.prog 7 #[cv u s k h n t] w (UpPost w) := by
  by_cases hl : (500 : Int) < (t.size : Int)
  · exact long u s k h n t w hN hl
  rcases hm : mayB u s k h n t.size with _ | _
  · exact maynot u s k h n t w hN hl hm
  by_cases hk : k = 0
  · subst hk; exact nop u s h n t w hN hl hm
  have ek : (k == 0) = false := by rw [beq_eq_false_iff_ne]; exact hk
  rcases may_cases hm with ⟨h0, _⟩ | ⟨h1, h2, h3, h4, h5, h6⟩
  · exact absurd h0 hk
  have f1 : mayB 0 s k h n t.size = false := by rw [mayB, if_neg hk]; simp [fitB]
  have f2 : mayB u s k 0 n t.size = false := by rw [mayB, if_neg hk]; simp [fitB]
  by_cases hn : n = 0
  · subst hn
    have q : ndN k = false := by rcases h5 with ⟨_, h, _⟩ | ⟨h, _⟩; omega; exact h
    have f3 : mayB u s k h 1 t.size = false := by rw [mayB, if_neg hk, q]; simp [fitB]
    by_cases hz : t.size = 0
    · obtain rfl := tl_eq hz
      have r : ndT k = false := by rcases h6 with ⟨_, h, _⟩ | ⟨h, _⟩; omega; exact h
      have f4 : mayB u s k h 0 1 = false := by rw [mayB, if_neg hk, r]; simp [fitB]
      exact some_0 u s k h w hN ek hm f1 f2 f3 f4
    · have r : ndT k = true := by rcases h6 with ⟨h, _⟩ | ⟨_, h⟩; exact h; omega
      have f4 : mayB u s k h 0 0 = false := by rw [mayB, if_neg hk, r]; simp [fitB]
      exact some_t u s k h t w hN ek hl hz hm f1 f2 f3 f4
  · have en : (n == 0) = false := by rw [beq_eq_false_iff_ne]; exact hn
    have q : ndN k = true := by rcases h5 with ⟨h, _⟩ | ⟨_, h⟩; exact h; omega
    have f3 : mayB u s k h 0 t.size = false := by rw [mayB, if_neg hk, q]; simp [fitB]
    by_cases hz : t.size = 0
    · obtain rfl := tl_eq hz
      have r : ndT k = false := by rcases h6 with ⟨_, h, _⟩ | ⟨h, _⟩; omega; exact h
      have f4 : mayB u s k h n 1 = false := by rw [mayB, if_neg hk, r]; simp [fitB]
      exact some_n u s k h n w hN ek en hm f1 f2 f3 f4
    · have r : ndT k = true := by rcases h6 with ⟨h, _⟩ | ⟨_, h⟩; exact h; omega
      have f4 : mayB u s k h n 0 = false := by rw [mayB, if_neg hk, r]; simp [fitB]
      exact some_nt u s k h n t w hN ek en hl hz hm f1 f2 f3 f4

set_option maxRecDepth 100000 in
theorem lifted (os : Os) (started : os.Started) (H : Type) (enc : TypeId × Value → H) :
    ReturnsInHanded {} Tryd.checked os 7 .any (fun w args => (Rows.commandNeedsSpec.pre enc Tryd.prog Tryd.f7 [] false w args ∧ laidMetH Tryd.prog laid4 w) ∧ sizedMet enc Tryd.prog Tryd.f7 (OpenSpec.ofChange Rows.commandNeedsSpec) false w args)
      (Rows.commandNeedsSpec.post enc Tryd.prog Tryd.f7 false true false false) := by
  refine returnsInHanded_of_change_and (C := Tryd.checked) (X := fun w _ => laidMetH Tryd.prog laid4 w) (fun _ _ _ hh h => h.of_heap hh) own started (by kernel_rfl) Tryd.func7
    (ChangeSpec.witness_shaped (enc := enc) (C := Tryd.checked) (os := os) (X := fun w _ => laidMetH Tryd.prog laid4 w) false (World.doorLaid Tryd.prog 18 os) #[.agg #[.int .i64 0, .int .i64 0, .int .i64 0, .int .i64 0, .int .i64 0, .string ⟨#[]⟩]] 8 rfl (World.shaped_of_RefB (by kernel_rfl) (by kernel_rfl)) (by kernel_rfl) (by kernel_rfl) (by kernel_rfl) (door_met os _)) ?_
  intro W base args ds gs before hval0 hW _ _ hL _
  have hN := nd_of_laid hL
  have hval : ∀ (j : Nat) t v, Tryd.f7.params[j]? = some t → args[j]? = some v → Value.okWide Tryd.prog W .any base t v := hval0
  have hW' := hW
  obtain ⟨p, q, hA0, hV, rfl, hfz, hnd⟩ := hW
  have hA : DataW.TrodAll enc Tryd.prog W 0 (fun _ => true) true Tryd.f7.params.toList args.toList ds p := hA0
  rw [Tryd.params7] at hA hval
  obtain ⟨v0, vs0, d0, ds0, p0, q0, hargs, rfl, rfl, h0, r0⟩ := trodAll_cons hA
  obtain ⟨rfl, rfl, rfl⟩ := trodAll_nil r0
  obtain rfl : args = #[v0] := by cases args; simp_all
  obtain ⟨rfl, rfl⟩ := trodVars_none hV
  have k0' := h0
  have lt0 : ∀ x ∈ p0, x.block < W.heap.size := by obtain ⟨m, hm⟩ := k0'; exact DataW.trod_lt m _ _ _ hm
  obtain ⟨u0, s0, k0, h0c, n0, t0, rfl⟩ := open_cmd (hval 0 23 v0 rfl rfl) h0
  clear hA0 hval0
  refine (walk u0 s0 k0 h0c n0 t0 W hN ).mono fun e W' ⟨he, bel⟩ => ?_
  subst he
  exact ⟨_, rfl, _, _, _, [], _, [], hW', trodAll_mk1 (shut_bool Tryd.underlying4 _), (trodAll_cons_mk (Below.trod laidOut (by kernel_rfl) (of_decide_eq_true (by kernel_rfl)) k0' bel lt0) trodAll_mk0), rfl, bel.frame _, fun h => by cases h⟩

theorem over : Rows.CommandNeedsSaid :=
  OpenClaim.holds_of_wide 7 Tryd.f7 rfl rfl rfl rfl rfl rfl rfl ⟨rfl, rfl, rfl, rfl, rfl⟩ rfl rfl rfl rfl rfl (by kernel_rfl) Tryd.func7 (by kernel_rfl)
    (of_decide_eq_true (by kernel_rfl)) (by unfold Func.isWrapper; first | (rw [if_pos (by decide +kernel)]; kernel_rfl) | (rw [if_neg (by decide +kernel)]; exact ⟨rfl, rfl⟩))
    (fun os started H enc _ => lifted os started H enc)

theorem proved : Rows.CommandNeedsCardSaid :=
  Claim7.holds_tied_plain_at .later [] [.data] true (true, "93fff19bce4a84e988bf6e2625e0608d0039abc37830b3507fd65811e11668e5") false
    over (fun _ h => by cases h) (by kernel_rfl) (fun _ h => by cases h) commandNeeds_row_tie rfl ⟨rfl, rfl⟩ (by kernel_rfl) rfl
    (fun f fn hf hfn => by
      obtain rfl : f = 7 := Option.some.inj ((show Tryd.prog.funcNamed "colloquy/colloquylaw04.CommandNeeds" = some 7 by kernel_rfl).symm.trans hf) |>.symm
      obtain rfl : fn = Tryd.f7 := (Option.some.inj (Tryd.func7.symm.trans hfn)).symm
      exact ⟨by kernel_rfl, fun j t ht => by
        rw [Tryd.params7] at ht
        have hm : t ∈ [23] := by simpa using Array.mem_of_getElem? ht
        have hall : ([23].all fun u => !Tryd.prog.wantsStandIn u) = true := by kernel_rfl
        exact (show Tryd.prog.wantsStandIn t = false by simpa using List.all_eq_true.1 hall t hm)⟩)
    (by kernel_rfl)
#print axioms proved
end Go.Proofs.YteajbcngimccmaaDoor.commandNeeds
