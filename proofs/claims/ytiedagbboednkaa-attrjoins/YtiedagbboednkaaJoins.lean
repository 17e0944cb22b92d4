/-
  What two are together does not ask for their order, nor how often; each of them is within it, and it is within all that both are within: AttrJoins answers true whatever the three attributes; they read as they did. Conditions: none.
-/
import Derived.Test.YtiedagbboednkaaJn
import Derived.Deep.RegionLaw
import Derived.Deep.AppendLies
namespace Go.Proofs.Ytiedagbboednkaa.attrJoins
open Go.ChangeShapes Go.WideShapes Go.ChangeAt Go.RowKit
set_option linter.unusedVariables false
set_option linter.unusedSimpArgs false

theorem nay0 (a0 : Int) (A0 : Option Addr) (c0 : Nat) (x0 : List Int) (a1 : Int) (A1 : Option Addr) (c1 : Nat) (x1 : List Int) (a2 : Int) (A2 : Option Addr) (c2 : Nat) (x2 : List Int) (w : World) (s0 : Sl w w.heap.size .i64 A0 x0) (s1 : Sl w w.heap.size .i64 A1 x1) (s2 : Sl w w.heap.size .i64 A2 x2) (K0 : ∀ W A c, Sl W W.heap.size .i64 A x0 → Hid (Calls Try.prog 11 #[.agg #[.int .i64 a0, .slice A x0.length c], .int .i64 7] W (BoolPost W false))) : Calls Try.prog 5 #[.agg #[.int .i64 a0, .slice A0 x0.length c0], .agg #[.int .i64 a1, .slice A1 x1.length c1], .agg #[.int .i64 a2, .slice A2 x2.length c2]] w (UpPost w) := by
  go_enter Try.func5, Try.ntmps5
  go_wp2_with fail
  have BW : Below w.heap.size w (((w.alloc (.cells #[.int .i64 a0, .slice A0 x0.length c0] 24)).alloc (.cells #[.int .i64 a1, .slice A1 x1.length c1] 24)).alloc (.cells #[.int .i64 a2, .slice A2 x2.length c2] 24)) := (((Below.refl _ _).alloc (Nat.le_refl _) _).alloc (by simp) _).alloc (by simp; omega) _
  have Z0 : (((w.alloc (.cells #[.int .i64 a0, .slice A0 x0.length c0] 24)).alloc (.cells #[.int .i64 a1, .slice A1 x1.length c1] 24)).alloc (.cells #[.int .i64 a2, .slice A2 x2.length c2] 24)).heap.size = w.heap.size + 1 + 1 + 1 := by simp
  have C0 : Rb (((w.alloc (.cells #[.int .i64 a0, .slice A0 x0.length c0] 24)).alloc (.cells #[.int .i64 a1, .slice A1 x1.length c1] 24)).alloc (.cells #[.int .i64 a2, .slice A2 x2.length c2] 24)) (w.heap.size) a0 A0 x0.length c0 := by
    have := (((ax_new w a0 A0 x0.length c0).old (.cells #[.int .i64 a1, .slice A1 x1.length c1] 24)).old (.cells #[.int .i64 a2, .slice A2 x2.length c2] 24)).rb
    exact this
  have C1 : Rb (((w.alloc (.cells #[.int .i64 a0, .slice A0 x0.length c0] 24)).alloc (.cells #[.int .i64 a1, .slice A1 x1.length c1] 24)).alloc (.cells #[.int .i64 a2, .slice A2 x2.length c2] 24)) (w.heap.size + 1) a1 A1 x1.length c1 := by
    have := ((ax_new (w.alloc (.cells #[.int .i64 a0, .slice A0 x0.length c0] 24)) a1 A1 x1.length c1).old (.cells #[.int .i64 a2, .slice A2 x2.length c2] 24)).rb
    rw [show (w.alloc (.cells #[.int .i64 a0, .slice A0 x0.length c0] 24)).heap.size = w.heap.size + 1 by simp] at this
    exact this
  have C2 : Rb (((w.alloc (.cells #[.int .i64 a0, .slice A0 x0.length c0] 24)).alloc (.cells #[.int .i64 a1, .slice A1 x1.length c1] 24)).alloc (.cells #[.int .i64 a2, .slice A2 x2.length c2] 24)) (w.heap.size + 1 + 1) a2 A2 x2.length c2 := by
    have := (ax_new ((w.alloc (.cells #[.int .i64 a0, .slice A0 x0.length c0] 24)).alloc (.cells #[.int .i64 a1, .slice A1 x1.length c1] 24)) a2 A2 x2.length c2).rb
    rw [show ((w.alloc (.cells #[.int .i64 a0, .slice A0 x0.length c0] 24)).alloc (.cells #[.int .i64 a1, .slice A1 x1.length c1] 24)).heap.size = w.heap.size + 1 + 1 by simp] at this
    exact this
  have X0 := s0.to BW BW.size
  have X1 := s1.to BW BW.size
  have X2 := s2.to BW BW.size
  generalize (((w.alloc (.cells #[.int .i64 a0, .slice A0 x0.length c0] 24)).alloc (.cells #[.int .i64 a1, .slice A1 x1.length c1] 24)).alloc (.cells #[.int .i64 a2, .slice A2 x2.length c2] 24)) = W0 at *
  refine (awake_any W0).mono ?_
  rintro e w1 ⟨rfl, B1⟩
  have q1 := B1.size
  have B01 := B1
  obtain ⟨p0, r0⟩ := C0.on B01 (by omega)
  obtain ⟨p1, r1⟩ := C1.on B01 (by omega)
  obtain ⟨p2, r2⟩ := C2.on B01 (by omega)
  go_wp2_with fail
  clear p0 r0 p1 r1 p2 r2
  refine (K0 _ A0 c0 (X0.up B01)).out.mono ?_
  rintro e w2 ⟨rfl, B2⟩
  have q2 := B2.size
  have B02 := B01.trans (B2.mono (by omega))
  go_wp2
  go_ret
  exact ⟨rfl, BW.trans (B02.mono BW.size)⟩

theorem nay1 (a0 : Int) (A0 : Option Addr) (c0 : Nat) (x0 : List Int) (a1 : Int) (A1 : Option Addr) (c1 : Nat) (x1 : List Int) (a2 : Int) (A2 : Option Addr) (c2 : Nat) (x2 : List Int) (w : World) (s0 : Sl w w.heap.size .i64 A0 x0) (s1 : Sl w w.heap.size .i64 A1 x1) (s2 : Sl w w.heap.size .i64 A2 x2) (K0 : ∀ W A c, Sl W W.heap.size .i64 A x0 → Hid (Calls Try.prog 11 #[.agg #[.int .i64 a0, .slice A x0.length c], .int .i64 7] W (BoolPost W true))) (K1 : ∀ W A c, Sl W W.heap.size .i64 A x1 → Hid (Calls Try.prog 11 #[.agg #[.int .i64 a1, .slice A x1.length c], .int .i64 7] W (BoolPost W false))) : Calls Try.prog 5 #[.agg #[.int .i64 a0, .slice A0 x0.length c0], .agg #[.int .i64 a1, .slice A1 x1.length c1], .agg #[.int .i64 a2, .slice A2 x2.length c2]] w (UpPost w) := by
  go_enter Try.func5, Try.ntmps5
  go_wp2_with fail
  have BW : Below w.heap.size w (((w.alloc (.cells #[.int .i64 a0, .slice A0 x0.length c0] 24)).alloc (.cells #[.int .i64 a1, .slice A1 x1.length c1] 24)).alloc (.cells #[.int .i64 a2, .slice A2 x2.length c2] 24)) := (((Below.refl _ _).alloc (Nat.le_refl _) _).alloc (by simp) _).alloc (by simp; omega) _
  have Z0 : (((w.alloc (.cells #[.int .i64 a0, .slice A0 x0.length c0] 24)).alloc (.cells #[.int .i64 a1, .slice A1 x1.length c1] 24)).alloc (.cells #[.int .i64 a2, .slice A2 x2.length c2] 24)).heap.size = w.heap.size + 1 + 1 + 1 := by simp
  have C0 : Rb (((w.alloc (.cells #[.int .i64 a0, .slice A0 x0.length c0] 24)).alloc (.cells #[.int .i64 a1, .slice A1 x1.length c1] 24)).alloc (.cells #[.int .i64 a2, .slice A2 x2.length c2] 24)) (w.heap.size) a0 A0 x0.length c0 := by
    have := (((ax_new w a0 A0 x0.length c0).old (.cells #[.int .i64 a1, .slice A1 x1.length c1] 24)).old (.cells #[.int .i64 a2, .slice A2 x2.length c2] 24)).rb
    exact this
  have C1 : Rb (((w.alloc (.cells #[.int .i64 a0, .slice A0 x0.length c0] 24)).alloc (.cells #[.int .i64 a1, .slice A1 x1.length c1] 24)).alloc (.cells #[.int .i64 a2, .slice A2 x2.length c2] 24)) (w.heap.size + 1) a1 A1 x1.length c1 := by
    have := ((ax_new (w.alloc (.cells #[.int .i64 a0, .slice A0 x0.length c0] 24)) a1 A1 x1.length c1).old (.cells #[.int .i64 a2, .slice A2 x2.length c2] 24)).rb
    rw [show (w.alloc (.cells #[.int .i64 a0, .slice A0 x0.length c0] 24)).heap.size = w.heap.size + 1 by simp] at this
    exact this
  have C2 : Rb (((w.alloc (.cells #[.int .i64 a0, .slice A0 x0.length c0] 24)).alloc (.cells #[.int .i64 a1, .slice A1 x1.length c1] 24)).alloc (.cells #[.int .i64 a2, .slice A2 x2.length c2] 24)) (w.heap.size + 1 + 1) a2 A2 x2.length c2 := by
    have := (ax_new ((w.alloc (.cells #[.int .i64 a0, .slice A0 x0.length c0] 24)).alloc (.cells #[.int .i64 a1, .slice A1 x1.length c1] 24)) a2 A2 x2.length c2).rb
    rw [show ((w.alloc (.cells #[.int .i64 a0, .slice A0 x0.length c0] 24)).alloc (.cells #[.int .i64 a1, .slice A1 x1.length c1] 24)).heap.size = w.heap.size + 1 + 1 by simp] at this
    exact this
  have X0 := s0.to BW BW.size
  have X1 := s1.to BW BW.size
  have X2 := s2.to BW BW.size
  generalize (((w.alloc (.cells #[.int .i64 a0, .slice A0 x0.length c0] 24)).alloc (.cells #[.int .i64 a1, .slice A1 x1.length c1] 24)).alloc (.cells #[.int .i64 a2, .slice A2 x2.length c2] 24)) = W0 at *
  refine (awake_any W0).mono ?_
  rintro e w1 ⟨rfl, B1⟩
  have q1 := B1.size
  have B01 := B1
  obtain ⟨p0, r0⟩ := C0.on B01 (by omega)
  obtain ⟨p1, r1⟩ := C1.on B01 (by omega)
  obtain ⟨p2, r2⟩ := C2.on B01 (by omega)
  go_wp2_with fail
  clear p0 r0 p1 r1 p2 r2
  refine (K0 _ A0 c0 (X0.up B01)).out.mono ?_
  rintro e w2 ⟨rfl, B2⟩
  have q2 := B2.size
  have B02 := B01.trans (B2.mono (by omega))
  obtain ⟨p0, r0⟩ := C0.on B02 (by omega)
  obtain ⟨p1, r1⟩ := C1.on B02 (by omega)
  obtain ⟨p2, r2⟩ := C2.on B02 (by omega)
  go_wp2_with fail
  clear p0 r0 p1 r1 p2 r2
  refine (K1 _ A1 c1 (X1.up B02)).out.mono ?_
  rintro e w3 ⟨rfl, B3⟩
  have q3 := B3.size
  have B03 := B02.trans (B3.mono (by omega))
  go_wp2
  go_ret
  exact ⟨rfl, BW.trans (B03.mono BW.size)⟩

theorem nay2 (a0 : Int) (A0 : Option Addr) (c0 : Nat) (x0 : List Int) (a1 : Int) (A1 : Option Addr) (c1 : Nat) (x1 : List Int) (a2 : Int) (A2 : Option Addr) (c2 : Nat) (x2 : List Int) (w : World) (s0 : Sl w w.heap.size .i64 A0 x0) (s1 : Sl w w.heap.size .i64 A1 x1) (s2 : Sl w w.heap.size .i64 A2 x2) (K0 : ∀ W A c, Sl W W.heap.size .i64 A x0 → Hid (Calls Try.prog 11 #[.agg #[.int .i64 a0, .slice A x0.length c], .int .i64 7] W (BoolPost W true))) (K1 : ∀ W A c, Sl W W.heap.size .i64 A x1 → Hid (Calls Try.prog 11 #[.agg #[.int .i64 a1, .slice A x1.length c], .int .i64 7] W (BoolPost W true))) (K2 : ∀ W A c, Sl W W.heap.size .i64 A x2 → Hid (Calls Try.prog 11 #[.agg #[.int .i64 a2, .slice A x2.length c], .int .i64 7] W (BoolPost W false))) : Calls Try.prog 5 #[.agg #[.int .i64 a0, .slice A0 x0.length c0], .agg #[.int .i64 a1, .slice A1 x1.length c1], .agg #[.int .i64 a2, .slice A2 x2.length c2]] w (UpPost w) := by
  go_enter Try.func5, Try.ntmps5
  go_wp2_with fail
  have BW : Below w.heap.size w (((w.alloc (.cells #[.int .i64 a0, .slice A0 x0.length c0] 24)).alloc (.cells #[.int .i64 a1, .slice A1 x1.length c1] 24)).alloc (.cells #[.int .i64 a2, .slice A2 x2.length c2] 24)) := (((Below.refl _ _).alloc (Nat.le_refl _) _).alloc (by simp) _).alloc (by simp; omega) _
  have Z0 : (((w.alloc (.cells #[.int .i64 a0, .slice A0 x0.length c0] 24)).alloc (.cells #[.int .i64 a1, .slice A1 x1.length c1] 24)).alloc (.cells #[.int .i64 a2, .slice A2 x2.length c2] 24)).heap.size = w.heap.size + 1 + 1 + 1 := by simp
  have C0 : Rb (((w.alloc (.cells #[.int .i64 a0, .slice A0 x0.length c0] 24)).alloc (.cells #[.int .i64 a1, .slice A1 x1.length c1] 24)).alloc (.cells #[.int .i64 a2, .slice A2 x2.length c2] 24)) (w.heap.size) a0 A0 x0.length c0 := by
    have := (((ax_new w a0 A0 x0.length c0).old (.cells #[.int .i64 a1, .slice A1 x1.length c1] 24)).old (.cells #[.int .i64 a2, .slice A2 x2.length c2] 24)).rb
    exact this
  have C1 : Rb (((w.alloc (.cells #[.int .i64 a0, .slice A0 x0.length c0] 24)).alloc (.cells #[.int .i64 a1, .slice A1 x1.length c1] 24)).alloc (.cells #[.int .i64 a2, .slice A2 x2.length c2] 24)) (w.heap.size + 1) a1 A1 x1.length c1 := by
    have := ((ax_new (w.alloc (.cells #[.int .i64 a0, .slice A0 x0.length c0] 24)) a1 A1 x1.length c1).old (.cells #[.int .i64 a2, .slice A2 x2.length c2] 24)).rb
    rw [show (w.alloc (.cells #[.int .i64 a0, .slice A0 x0.length c0] 24)).heap.size = w.heap.size + 1 by simp] at this
    exact this
  have C2 : Rb (((w.alloc (.cells #[.int .i64 a0, .slice A0 x0.length c0] 24)).alloc (.cells #[.int .i64 a1, .slice A1 x1.length c1] 24)).alloc (.cells #[.int .i64 a2, .slice A2 x2.length c2] 24)) (w.heap.size + 1 + 1) a2 A2 x2.length c2 := by
    have := (ax_new ((w.alloc (.cells #[.int .i64 a0, .slice A0 x0.length c0] 24)).alloc (.cells #[.int .i64 a1, .slice A1 x1.length c1] 24)) a2 A2 x2.length c2).rb
    rw [show ((w.alloc (.cells #[.int .i64 a0, .slice A0 x0.length c0] 24)).alloc (.cells #[.int .i64 a1, .slice A1 x1.length c1] 24)).heap.size = w.heap.size + 1 + 1 by simp] at this
    exact this
  have X0 := s0.to BW BW.size
  have X1 := s1.to BW BW.size
  have X2 := s2.to BW BW.size
  generalize (((w.alloc (.cells #[.int .i64 a0, .slice A0 x0.length c0] 24)).alloc (.cells #[.int .i64 a1, .slice A1 x1.length c1] 24)).alloc (.cells #[.int .i64 a2, .slice A2 x2.length c2] 24)) = W0 at *
  refine (awake_any W0).mono ?_
  rintro e w1 ⟨rfl, B1⟩
  have q1 := B1.size
  have B01 := B1
  obtain ⟨p0, r0⟩ := C0.on B01 (by omega)
  obtain ⟨p1, r1⟩ := C1.on B01 (by omega)
  obtain ⟨p2, r2⟩ := C2.on B01 (by omega)
  go_wp2_with fail
  clear p0 r0 p1 r1 p2 r2
  refine (K0 _ A0 c0 (X0.up B01)).out.mono ?_
  rintro e w2 ⟨rfl, B2⟩
  have q2 := B2.size
  have B02 := B01.trans (B2.mono (by omega))
  obtain ⟨p0, r0⟩ := C0.on B02 (by omega)
  obtain ⟨p1, r1⟩ := C1.on B02 (by omega)
  obtain ⟨p2, r2⟩ := C2.on B02 (by omega)
  go_wp2_with fail
  clear p0 r0 p1 r1 p2 r2
  refine (K1 _ A1 c1 (X1.up B02)).out.mono ?_
  rintro e w3 ⟨rfl, B3⟩
  have q3 := B3.size
  have B03 := B02.trans (B3.mono (by omega))
  obtain ⟨p0, r0⟩ := C0.on B03 (by omega)
  obtain ⟨p1, r1⟩ := C1.on B03 (by omega)
  obtain ⟨p2, r2⟩ := C2.on B03 (by omega)
  go_wp2_with fail
  clear p0 r0 p1 r1 p2 r2
  refine (K2 _ A2 c2 (X2.up B03)).out.mono ?_
  rintro e w4 ⟨rfl, B4⟩
  have q4 := B4.size
  have B04 := B03.trans (B4.mono (by omega))
  go_wp2
  go_ret
  exact ⟨rfl, BW.trans (B04.mono BW.size)⟩

set_option maxHeartbeats 8000000 in
theorem rest (u v z : Bool) (sm n1 n2 n3 n4 n5 : Int) (xm y1 y2 y3 y4 y5 : List Int) (a0 : Int) (A0 : Option Addr) (c0 : Nat) (x0 : List Int) (a1 : Int) (A1 : Option Addr) (c1 : Nat) (x1 : List Int) (a2 : Int) (A2 : Option Addr) (c2 : Nat) (x2 : List Int) (w : World) (s0 : Sl w w.heap.size .i64 A0 x0) (s1 : Sl w w.heap.size .i64 A1 x1) (s2 : Sl w w.heap.size .i64 A2 x2) (hz : u = true → v = true → z = true)
    (K0 : ∀ W A c, Sl W W.heap.size .i64 A x0 → Hid (Calls Try.prog 11 #[.agg #[.int .i64 a0, .slice A x0.length c], .int .i64 7] W (BoolPost W true)))
    (K1 : ∀ W A c, Sl W W.heap.size .i64 A x1 → Hid (Calls Try.prog 11 #[.agg #[.int .i64 a1, .slice A x1.length c], .int .i64 7] W (BoolPost W true)))
    (K2 : ∀ W A c, Sl W W.heap.size .i64 A x2 → Hid (Calls Try.prog 11 #[.agg #[.int .i64 a2, .slice A x2.length c], .int .i64 7] W (BoolPost W true)))
    (M01 : ∀ W A c, Rc W W.heap.size A [(a0, x0), (a1, x1)] → Hid (Calls Try.prog 19 #[.slice A 2 c] W (AtPost W sm xm)))
    (M10 : ∀ W A c, Rc W W.heap.size A [(a1, x1), (a0, x0)] → Hid (Calls Try.prog 19 #[.slice A 2 c] W (AtPost W n1 y1)))
    (M4 : ∀ W A c, Rc W W.heap.size A [(a0, x0), (a1, x1), (a0, x0), (sm, xm)] → Hid (Calls Try.prog 19 #[.slice A 4 c] W (AtPost W n2 y2)))
    (Mm2 : ∀ W A c, Rc W W.heap.size A [(sm, xm), (a2, x2)] → Hid (Calls Try.prog 19 #[.slice A 2 c] W (AtPost W n3 y3)))
    (M12 : ∀ W A c, Rc W W.heap.size A [(a1, x1), (a2, x2)] → Hid (Calls Try.prog 19 #[.slice A 2 c] W (AtPost W n4 y4)))
    (M0y : ∀ W A c, Rc W W.heap.size A [(a0, x0), (n4, y4)] → Hid (Calls Try.prog 19 #[.slice A 2 c] W (AtPost W n5 y5)))
    (S1 : ∀ W A c A' c', Sl W W.heap.size .i64 A xm → Sl W W.heap.size .i64 A' y1 → Hid (Calls Try.prog 13 #[.agg #[.int .i64 sm, .slice A xm.length c], .agg #[.int .i64 n1, .slice A' y1.length c']] W (BoolPost W true)))
    (S2 : ∀ W A c A' c', Sl W W.heap.size .i64 A xm → Sl W W.heap.size .i64 A' y2 → Hid (Calls Try.prog 13 #[.agg #[.int .i64 sm, .slice A xm.length c], .agg #[.int .i64 n2, .slice A' y2.length c']] W (BoolPost W true)))
    (S3 : ∀ W A c A' c', Sl W W.heap.size .i64 A y3 → Sl W W.heap.size .i64 A' y5 → Hid (Calls Try.prog 13 #[.agg #[.int .i64 n3, .slice A y3.length c], .agg #[.int .i64 n5, .slice A' y5.length c']] W (BoolPost W true)))
    (W02 : ∀ W A c A' c', Sl W W.heap.size .i64 A x0 → Sl W W.heap.size .i64 A' x2 → Hid (Calls Try.prog 15 #[.agg #[.int .i64 a0, .slice A x0.length c], .agg #[.int .i64 a2, .slice A' x2.length c']] W (BoolPost W u)))
    (W12 : ∀ W A c A' c', Sl W W.heap.size .i64 A x1 → Sl W W.heap.size .i64 A' x2 → Hid (Calls Try.prog 15 #[.agg #[.int .i64 a1, .slice A x1.length c], .agg #[.int .i64 a2, .slice A' x2.length c']] W (BoolPost W v)))
    (Wm2 : ∀ W A c A' c', Sl W W.heap.size .i64 A xm → Sl W W.heap.size .i64 A' x2 → Hid (Calls Try.prog 15 #[.agg #[.int .i64 sm, .slice A xm.length c], .agg #[.int .i64 a2, .slice A' x2.length c']] W (BoolPost W z)))
    (W0m : ∀ W A c A' c', Sl W W.heap.size .i64 A x0 → Sl W W.heap.size .i64 A' xm → Hid (Calls Try.prog 15 #[.agg #[.int .i64 a0, .slice A x0.length c], .agg #[.int .i64 sm, .slice A' xm.length c']] W (BoolPost W true)))
    (W1m : ∀ W A c A' c', Sl W W.heap.size .i64 A x1 → Sl W W.heap.size .i64 A' xm → Hid (Calls Try.prog 15 #[.agg #[.int .i64 a1, .slice A x1.length c], .agg #[.int .i64 sm, .slice A' xm.length c']] W (BoolPost W true)))
    (Km : ∀ W A c, Sl W W.heap.size .i64 A xm → Hid (Calls Try.prog 11 #[.agg #[.int .i64 sm, .slice A xm.length c], .int .i64 7] W (BoolPost W true))) :
    Calls Try.prog 5 #[.agg #[.int .i64 a0, .slice A0 x0.length c0], .agg #[.int .i64 a1, .slice A1 x1.length c1], .agg #[.int .i64 a2, .slice A2 x2.length c2]] w (UpPost w) := by
  have HZ := Lib.hid hz
  clear hz
  go_enter Try.func5, Try.ntmps5
  go_wp2_with fail
  have BW : Below w.heap.size w (((w.alloc (.cells #[.int .i64 a0, .slice A0 x0.length c0] 24)).alloc (.cells #[.int .i64 a1, .slice A1 x1.length c1] 24)).alloc (.cells #[.int .i64 a2, .slice A2 x2.length c2] 24)) := (((Below.refl _ _).alloc (Nat.le_refl _) _).alloc (by simp) _).alloc (by simp; omega) _
  have Z0 : (((w.alloc (.cells #[.int .i64 a0, .slice A0 x0.length c0] 24)).alloc (.cells #[.int .i64 a1, .slice A1 x1.length c1] 24)).alloc (.cells #[.int .i64 a2, .slice A2 x2.length c2] 24)).heap.size = w.heap.size + 1 + 1 + 1 := by simp
  have C0 : Rb (((w.alloc (.cells #[.int .i64 a0, .slice A0 x0.length c0] 24)).alloc (.cells #[.int .i64 a1, .slice A1 x1.length c1] 24)).alloc (.cells #[.int .i64 a2, .slice A2 x2.length c2] 24)) (w.heap.size) a0 A0 x0.length c0 := by
    have := (((ax_new w a0 A0 x0.length c0).old (.cells #[.int .i64 a1, .slice A1 x1.length c1] 24)).old (.cells #[.int .i64 a2, .slice A2 x2.length c2] 24)).rb
    exact this
  have C1 : Rb (((w.alloc (.cells #[.int .i64 a0, .slice A0 x0.length c0] 24)).alloc (.cells #[.int .i64 a1, .slice A1 x1.length c1] 24)).alloc (.cells #[.int .i64 a2, .slice A2 x2.length c2] 24)) (w.heap.size + 1) a1 A1 x1.length c1 := by
    have := ((ax_new (w.alloc (.cells #[.int .i64 a0, .slice A0 x0.length c0] 24)) a1 A1 x1.length c1).old (.cells #[.int .i64 a2, .slice A2 x2.length c2] 24)).rb
    rw [show (w.alloc (.cells #[.int .i64 a0, .slice A0 x0.length c0] 24)).heap.size = w.heap.size + 1 by simp] at this
    exact this
  have C2 : Rb (((w.alloc (.cells #[.int .i64 a0, .slice A0 x0.length c0] 24)).alloc (.cells #[.int .i64 a1, .slice A1 x1.length c1] 24)).alloc (.cells #[.int .i64 a2, .slice A2 x2.length c2] 24)) (w.heap.size + 1 + 1) a2 A2 x2.length c2 := by
    have := (ax_new ((w.alloc (.cells #[.int .i64 a0, .slice A0 x0.length c0] 24)).alloc (.cells #[.int .i64 a1, .slice A1 x1.length c1] 24)) a2 A2 x2.length c2).rb
    rw [show ((w.alloc (.cells #[.int .i64 a0, .slice A0 x0.length c0] 24)).alloc (.cells #[.int .i64 a1, .slice A1 x1.length c1] 24)).heap.size = w.heap.size + 1 + 1 by simp] at this
    exact this
  have X0 := s0.to BW BW.size
  have X1 := s1.to BW BW.size
  have X2 := s2.to BW BW.size
  generalize (((w.alloc (.cells #[.int .i64 a0, .slice A0 x0.length c0] 24)).alloc (.cells #[.int .i64 a1, .slice A1 x1.length c1] 24)).alloc (.cells #[.int .i64 a2, .slice A2 x2.length c2] 24)) = W0 at *
  refine (awake_any W0).mono ?_
  rintro e w1 ⟨rfl, B1⟩
  have q1 := B1.size
  have B01 := B1
  obtain ⟨p0, r0⟩ := C0.on B01 (by omega)
  obtain ⟨p1, r1⟩ := C1.on B01 (by omega)
  obtain ⟨p2, r2⟩ := C2.on B01 (by omega)
  go_wp2_with fail
  clear p0 r0 p1 r1 p2 r2
  refine (K0 _ A0 c0 (X0.up B01)).out.mono ?_
  rintro e w2 ⟨rfl, B2⟩
  have q2 := B2.size
  have B02 := B01.trans (B2.mono (by omega))
  obtain ⟨p0, r0⟩ := C0.on B02 (by omega)
  obtain ⟨p1, r1⟩ := C1.on B02 (by omega)
  obtain ⟨p2, r2⟩ := C2.on B02 (by omega)
  go_wp2_with fail
  clear p0 r0 p1 r1 p2 r2
  refine (K1 _ A1 c1 (X1.up B02)).out.mono ?_
  rintro e w3 ⟨rfl, B3⟩
  have q3 := B3.size
  have B03 := B02.trans (B3.mono (by omega))
  obtain ⟨p0, r0⟩ := C0.on B03 (by omega)
  obtain ⟨p1, r1⟩ := C1.on B03 (by omega)
  obtain ⟨p2, r2⟩ := C2.on B03 (by omega)
  go_wp2_with fail
  clear p0 r0 p1 r1 p2 r2
  refine (K2 _ A2 c2 (X2.up B03)).out.mono ?_
  rintro e w4 ⟨rfl, B4⟩
  have q4 := B4.size
  have B04 := B03.trans (B4.mono (by omega))
  have BN := (Below.refl w4.heap.size w4).alloc (Nat.le_refl _) (.cells #[.int .i64 a0, .slice A0 x0.length c0, .int .i64 a1, .slice A1 x1.length c1] 24)
  have RC := (rc_two (a := a0) (a' := a1) (c := c0) (c' := c1) (X0.up B04) (X1.up B04)).mono (B' := (w4.alloc (.cells #[.int .i64 a0, .slice A0 x0.length c0, .int .i64 a1, .slice A1 x1.length c1] 24)).heap.size) (by simp)
  have H1 := M01 _ _ 2 RC
  have B04' := B04.trans (BN.mono (by omega))
  clear RC M01 K0 K1 K2 B1 B2 B3 B4 B01 B02 B03
  obtain ⟨p0, r0⟩ := C0.on B04 (by omega)
  obtain ⟨p1, r1⟩ := C1.on B04 (by omega)
  obtain ⟨p2, r2⟩ := C2.on B04 (by omega)
  go_wp2_with fail
  clear p0 r0 p1 r1 p2 r2
  generalize w4.alloc (.cells #[.int .i64 a0, .slice A0 x0.length c0, .int .i64 a1, .slice A1 x1.length c1] 24) = W4 at *
  refine H1.out.mono ?_
  rintro e w5 ⟨Am, cm, rfl, sX, B5⟩
  have q4 := B04'.size
  have B05 := B04'.trans (B5.mono q4)
  have BM := (Below.refl w5.heap.size w5).alloc (Nat.le_refl _) (.cells #[.int .i64 sm, .slice Am xm.length cm] 24)
  have q5 := B05.size
  have B06 := B05.trans (BM.mono q5)
  have C3 := rb_new w5 sm Am xm.length cm
  have X3 := sX.up BM
  have Y0 := X0.up B06
  have Y1 := X1.up B06
  have Y2 := X2.up B06
  have D0 := C0.on B06 (by omega)
  have D1 := C1.on B06 (by omega)
  have D2 := C2.on B06 (by omega)
  have zM : w5.heap.size < (w5.alloc (.cells #[.int .i64 sm, .slice Am xm.length cm] 24)).heap.size := by simp
  have q6 := B06.size
  have BE := BW.trans (B06.mono BW.size)
  clear H1 BN B5 B05 B04 B04' BM sX X0 X1 X2 C0 C1 C2 q4 q5
  go_wp2_with fail
  generalize w5.alloc (.cells #[.int .i64 sm, .slice Am xm.length cm] 24) = w6 at *
  generalize w5.heap.size = M at *
  have z0 : w.heap.size < w6.heap.size := by omega
  have z1 : w.heap.size + 1 < w6.heap.size := by omega
  have z2 : w.heap.size + 1 + 1 < w6.heap.size := by omega
  have z3 : M < w6.heap.size := zM
  have S0 : Rb w6 (w.heap.size) a0 A0 x0.length c0 ∧ Rb w6 (w.heap.size + 1) a1 A1 x1.length c1 ∧ Rb w6 (w.heap.size + 1 + 1) a2 A2 x2.length c2 ∧ Rb w6 (M) sm Am xm.length cm ∧ Below w6.heap.size w6 w6 := ⟨D0, D1, D2, C3, Below.refl _ _⟩
  have KB : ∀ v v', Below w6.heap.size v v' → (Rb v (w.heap.size) a0 A0 x0.length c0 ∧ Rb v (w.heap.size + 1) a1 A1 x1.length c1 ∧ Rb v (w.heap.size + 1 + 1) a2 A2 x2.length c2 ∧ Rb v (M) sm Am xm.length cm ∧ Below w6.heap.size w6 v) → (Rb v' (w.heap.size) a0 A0 x0.length c0 ∧ Rb v' (w.heap.size + 1) a1 A1 x1.length c1 ∧ Rb v' (w.heap.size + 1 + 1) a2 A2 x2.length c2 ∧ Rb v' (M) sm Am xm.length cm ∧ Below w6.heap.size w6 v') := fun v v' hb hS => ⟨hS.1.on (hb) z0, hS.2.1.on (hb) z1, hS.2.2.1.on (hb) z2, hS.2.2.2.1.on (hb) z3, hS.2.2.2.2.trans (hb)⟩
  have KD : Hid (∀ v, (Rb v (w.heap.size) a0 A0 x0.length c0 ∧ Rb v (w.heap.size + 1) a1 A1 x1.length c1 ∧ Rb v (w.heap.size + 1 + 1) a2 A2 x2.length c2 ∧ Rb v (M) sm Am xm.length cm ∧ Below w6.heap.size w6 v) → (Rb v.drew (w.heap.size) a0 A0 x0.length c0 ∧ Rb v.drew (w.heap.size + 1) a1 A1 x1.length c1 ∧ Rb v.drew (w.heap.size + 1 + 1) a2 A2 x2.length c2 ∧ Rb v.drew (M) sm Am xm.length cm ∧ Below w6.heap.size w6 v.drew)) := fun v hS => KB _ _ (Below.refl _ _).drew hS
  have KA : Hid (∀ v o, (Rb v (w.heap.size) a0 A0 x0.length c0 ∧ Rb v (w.heap.size + 1) a1 A1 x1.length c1 ∧ Rb v (w.heap.size + 1 + 1) a2 A2 x2.length c2 ∧ Rb v (M) sm Am xm.length cm ∧ Below w6.heap.size w6 v) → (Rb (v.alloc o) (w.heap.size) a0 A0 x0.length c0 ∧ Rb (v.alloc o) (w.heap.size + 1) a1 A1 x1.length c1 ∧ Rb (v.alloc o) (w.heap.size + 1 + 1) a2 A2 x2.length c2 ∧ Rb (v.alloc o) (M) sm Am xm.length cm ∧ Below w6.heap.size w6 (v.alloc o))) := fun v o hS => KB _ _ ((Below.refl _ _).alloc hS.2.2.2.2.size o) hS
  have KS : Hid (∀ v v', Below v.heap.size v v' → (Rb v (w.heap.size) a0 A0 x0.length c0 ∧ Rb v (w.heap.size + 1) a1 A1 x1.length c1 ∧ Rb v (w.heap.size + 1 + 1) a2 A2 x2.length c2 ∧ Rb v (M) sm Am xm.length cm ∧ Below w6.heap.size w6 v) → (Rb v' (w.heap.size) a0 A0 x0.length c0 ∧ Rb v' (w.heap.size + 1) a1 A1 x1.length c1 ∧ Rb v' (w.heap.size + 1 + 1) a2 A2 x2.length c2 ∧ Rb v' (M) sm Am xm.length cm ∧ Below w6.heap.size w6 v')) := fun v v' hb hS => KB _ _ (hb.mono hS.2.2.2.2.size) hS
  clear KB
  have UP : Hid (∀ W, (Rb W (w.heap.size) a0 A0 x0.length c0 ∧ Rb W (w.heap.size + 1) a1 A1 x1.length c1 ∧ Rb W (w.heap.size + 1 + 1) a2 A2 x2.length c2 ∧ Rb W (M) sm Am xm.length cm ∧ Below w6.heap.size w6 W) → Sl W W.heap.size .i64 A0 x0 ∧ Sl W W.heap.size .i64 A1 x1 ∧ Sl W W.heap.size .i64 A2 x2 ∧ Sl W W.heap.size .i64 Am xm) := fun W hS => ⟨Y0.up hS.2.2.2.2, Y1.up hS.2.2.2.2, Y2.up hS.2.2.2.2, X3.up hS.2.2.2.2⟩
  obtain ⟨p0, r0⟩ := id D0
  obtain ⟨p1, r1⟩ := id D1
  obtain ⟨p2, r2⟩ := id D2
  obtain ⟨p3, r3⟩ := id C3
  have GM : Hid (Calls Try.prog 19 #[.slice (some ⟨w6.heap.size, 0, none⟩) 2 2] (w6.alloc (.cells #[.int .i64 a1, .slice A1 x1.length c1, .int .i64 a0, .slice A0 x0.length c0] 24)).drew (AtPost (w6.alloc (.cells #[.int .i64 a1, .slice A1 x1.length c1, .int .i64 a0, .slice A0 x0.length c0] 24)).drew n1 y1)) := by
    obtain ⟨t0, t1, t2, t3⟩ := UP.out _ (KD.out _ (KA.out _ (.cells #[.int .i64 a1, .slice A1 x1.length c1, .int .i64 a0, .slice A0 x0.length c0] 24) S0))
    exact M10 _ _ _ (rc_two_at (c := c1) (c' := c0) (by simp) (by simp) (by simp) (by simp) t1 t0)
  have GS : ∀ W A' c', (Rb W (w.heap.size) a0 A0 x0.length c0 ∧ Rb W (w.heap.size + 1) a1 A1 x1.length c1 ∧ Rb W (w.heap.size + 1 + 1) a2 A2 x2.length c2 ∧ Rb W (M) sm Am xm.length cm ∧ Below w6.heap.size w6 W) → Sl W W.heap.size .i64 A' y1 → Hid (Calls Try.prog 13 #[.agg #[.int .i64 sm, .slice Am xm.length cm], .agg #[.int .i64 n1, .slice A' y1.length c']] W (BoolPost W true)) := fun W A' c' hS h => S1 W Am cm A' c' (UP.out W hS).2.2.2 h
  go_region_held3 (fun v => (v.cell? ⟨w.heap.size, 0, none⟩ = some (.int .i64 a0) ∧ v.cell? ⟨w.heap.size, 1, none⟩ = some (.slice A0 x0.length c0)) ∧ (v.cell? ⟨w.heap.size + 1, 0, none⟩ = some (.int .i64 a1) ∧ v.cell? ⟨w.heap.size + 1, 1, none⟩ = some (.slice A1 x1.length c1)) ∧ (v.cell? ⟨w.heap.size + 1 + 1, 0, none⟩ = some (.int .i64 a2) ∧ v.cell? ⟨w.heap.size + 1 + 1, 1, none⟩ = some (.slice A2 x2.length c2)) ∧ (v.cell? ⟨M, 0, none⟩ = some (.int .i64 sm) ∧ v.cell? ⟨M, 1, none⟩ = some (.slice Am xm.length cm)) ∧ Below w6.heap.size w6 v)
    (first | (exact S0) | (exact KD.out _ S0) | (exact KD.out _ (KA.out _ _ S0)) | (exact KD.out _ (KA.out _ _ (KA.out _ _ S0))) | (refine KS.out _ _ hbd5 ?_; assumption) | (refine KS.out _ _ hbm5 ?_; assumption) | (refine KA.out _ _ ?_; first | assumption | exact KD.out _ S0) | (refine KD.out _ ?_; assumption))
    (first | (go_at_call 19; (with_reducible refine GM.out.mono ?_); rintro e wm5 ⟨Aq5, cq5, rfl, hq5, hbm5⟩) | (go_at_call 13; (with_reducible refine (GS _ _ _ ?_ ?_).out.mono ?_); (focus assumption); (focus assumption); rintro e wd5 ⟨rfl, hbd5⟩))
  rename_i hSx
  have E0 := hSx.1
  have E1 := hSx.2.1
  have E2 := hSx.2.2.1
  have E3 := hSx.2.2.2.1
  have BL := hSx.2.2.2.2
  have qL5 := BL.size
  have T0 := Y0.up BL
  have T1 := Y1.up BL
  have T2 := Y2.up BL
  have T3 := X3.up BL
  have BF := BE.trans (BL.mono BE.size)
  have zz0 := Nat.lt_of_lt_of_le z0 qL5
  have zz1 := Nat.lt_of_lt_of_le z1 qL5
  have zz2 := Nat.lt_of_lt_of_le z2 qL5
  have zz3 := Nat.lt_of_lt_of_le z3 qL5
  clear hSx S0 KD KA KS UP BL BE Y0 Y1 Y2 X3 D0 D1 D2 C3 p0 r0 p1 r1 p2 r2 p3 r3 z0 z1 z2 z3 qL5 GM GS hbd5 hbm5 hq5 M10 S1
  have D0 := E0
  have D1 := E1
  have D2 := E2
  have C3 := E3
  have Y0 := T0
  have Y1 := T1
  have Y2 := T2
  have X3 := T3
  have BE := BF
  have z0 := zz0
  have z1 := zz1
  have z2 := zz2
  have z3 := zz3
  clear E0 E1 E2 E3 T0 T1 T2 T3 BF zz0 zz1 zz2 zz3
  go_wp2_with fail
  have S0 : Rb wd5 (w.heap.size) a0 A0 x0.length c0 ∧ Rb wd5 (w.heap.size + 1) a1 A1 x1.length c1 ∧ Rb wd5 (w.heap.size + 1 + 1) a2 A2 x2.length c2 ∧ Rb wd5 (M) sm Am xm.length cm ∧ Below wd5.heap.size wd5 wd5 := ⟨D0, D1, D2, C3, Below.refl _ _⟩
  have KB : ∀ v v', Below wd5.heap.size v v' → (Rb v (w.heap.size) a0 A0 x0.length c0 ∧ Rb v (w.heap.size + 1) a1 A1 x1.length c1 ∧ Rb v (w.heap.size + 1 + 1) a2 A2 x2.length c2 ∧ Rb v (M) sm Am xm.length cm ∧ Below wd5.heap.size wd5 v) → (Rb v' (w.heap.size) a0 A0 x0.length c0 ∧ Rb v' (w.heap.size + 1) a1 A1 x1.length c1 ∧ Rb v' (w.heap.size + 1 + 1) a2 A2 x2.length c2 ∧ Rb v' (M) sm Am xm.length cm ∧ Below wd5.heap.size wd5 v') := fun v v' hb hS => ⟨hS.1.on (hb) z0, hS.2.1.on (hb) z1, hS.2.2.1.on (hb) z2, hS.2.2.2.1.on (hb) z3, hS.2.2.2.2.trans (hb)⟩
  have KD : Hid (∀ v, (Rb v (w.heap.size) a0 A0 x0.length c0 ∧ Rb v (w.heap.size + 1) a1 A1 x1.length c1 ∧ Rb v (w.heap.size + 1 + 1) a2 A2 x2.length c2 ∧ Rb v (M) sm Am xm.length cm ∧ Below wd5.heap.size wd5 v) → (Rb v.drew (w.heap.size) a0 A0 x0.length c0 ∧ Rb v.drew (w.heap.size + 1) a1 A1 x1.length c1 ∧ Rb v.drew (w.heap.size + 1 + 1) a2 A2 x2.length c2 ∧ Rb v.drew (M) sm Am xm.length cm ∧ Below wd5.heap.size wd5 v.drew)) := fun v hS => KB _ _ (Below.refl _ _).drew hS
  have KA : Hid (∀ v o, (Rb v (w.heap.size) a0 A0 x0.length c0 ∧ Rb v (w.heap.size + 1) a1 A1 x1.length c1 ∧ Rb v (w.heap.size + 1 + 1) a2 A2 x2.length c2 ∧ Rb v (M) sm Am xm.length cm ∧ Below wd5.heap.size wd5 v) → (Rb (v.alloc o) (w.heap.size) a0 A0 x0.length c0 ∧ Rb (v.alloc o) (w.heap.size + 1) a1 A1 x1.length c1 ∧ Rb (v.alloc o) (w.heap.size + 1 + 1) a2 A2 x2.length c2 ∧ Rb (v.alloc o) (M) sm Am xm.length cm ∧ Below wd5.heap.size wd5 (v.alloc o))) := fun v o hS => KB _ _ ((Below.refl _ _).alloc hS.2.2.2.2.size o) hS
  have KS : Hid (∀ v v', Below v.heap.size v v' → (Rb v (w.heap.size) a0 A0 x0.length c0 ∧ Rb v (w.heap.size + 1) a1 A1 x1.length c1 ∧ Rb v (w.heap.size + 1 + 1) a2 A2 x2.length c2 ∧ Rb v (M) sm Am xm.length cm ∧ Below wd5.heap.size wd5 v) → (Rb v' (w.heap.size) a0 A0 x0.length c0 ∧ Rb v' (w.heap.size + 1) a1 A1 x1.length c1 ∧ Rb v' (w.heap.size + 1 + 1) a2 A2 x2.length c2 ∧ Rb v' (M) sm Am xm.length cm ∧ Below wd5.heap.size wd5 v')) := fun v v' hb hS => KB _ _ (hb.mono hS.2.2.2.2.size) hS
  clear KB
  have UP : Hid (∀ W, (Rb W (w.heap.size) a0 A0 x0.length c0 ∧ Rb W (w.heap.size + 1) a1 A1 x1.length c1 ∧ Rb W (w.heap.size + 1 + 1) a2 A2 x2.length c2 ∧ Rb W (M) sm Am xm.length cm ∧ Below wd5.heap.size wd5 W) → Sl W W.heap.size .i64 A0 x0 ∧ Sl W W.heap.size .i64 A1 x1 ∧ Sl W W.heap.size .i64 A2 x2 ∧ Sl W W.heap.size .i64 Am xm) := fun W hS => ⟨Y0.up hS.2.2.2.2, Y1.up hS.2.2.2.2, Y2.up hS.2.2.2.2, X3.up hS.2.2.2.2⟩
  obtain ⟨p0, r0⟩ := id D0
  obtain ⟨p1, r1⟩ := id D1
  obtain ⟨p2, r2⟩ := id D2
  obtain ⟨p3, r3⟩ := id C3
  have GM : Hid (Calls Try.prog 19 #[.slice (some ⟨wd5.heap.size, 0, none⟩) 4 4] (wd5.alloc (.cells #[.int .i64 a0, .slice A0 x0.length c0, .int .i64 a1, .slice A1 x1.length c1, .int .i64 a0, .slice A0 x0.length c0, .int .i64 sm, .slice Am xm.length cm] 24)).drew (AtPost (wd5.alloc (.cells #[.int .i64 a0, .slice A0 x0.length c0, .int .i64 a1, .slice A1 x1.length c1, .int .i64 a0, .slice A0 x0.length c0, .int .i64 sm, .slice Am xm.length cm] 24)).drew n2 y2)) := by
    obtain ⟨t0, t1, t2, t3⟩ := UP.out _ (KD.out _ (KA.out _ (.cells #[.int .i64 a0, .slice A0 x0.length c0, .int .i64 a1, .slice A1 x1.length c1, .int .i64 a0, .slice A0 x0.length c0, .int .i64 sm, .slice Am xm.length cm] 24) S0))
    exact M4 _ _ _ (rc_four_at (c1 := c0) (c2 := c1) (c3 := c0) (c4 := cm) (by simp) (by simp) (by simp) (by simp) (by simp) (by simp) (by simp) (by simp) t0 t1 t0 t3)
  have GS : ∀ W A' c', (Rb W (w.heap.size) a0 A0 x0.length c0 ∧ Rb W (w.heap.size + 1) a1 A1 x1.length c1 ∧ Rb W (w.heap.size + 1 + 1) a2 A2 x2.length c2 ∧ Rb W (M) sm Am xm.length cm ∧ Below wd5.heap.size wd5 W) → Sl W W.heap.size .i64 A' y2 → Hid (Calls Try.prog 13 #[.agg #[.int .i64 sm, .slice Am xm.length cm], .agg #[.int .i64 n2, .slice A' y2.length c']] W (BoolPost W true)) := fun W A' c' hS h => S2 W Am cm A' c' (UP.out W hS).2.2.2 h
  go_region_held3 (fun v => (v.cell? ⟨w.heap.size, 0, none⟩ = some (.int .i64 a0) ∧ v.cell? ⟨w.heap.size, 1, none⟩ = some (.slice A0 x0.length c0)) ∧ (v.cell? ⟨w.heap.size + 1, 0, none⟩ = some (.int .i64 a1) ∧ v.cell? ⟨w.heap.size + 1, 1, none⟩ = some (.slice A1 x1.length c1)) ∧ (v.cell? ⟨w.heap.size + 1 + 1, 0, none⟩ = some (.int .i64 a2) ∧ v.cell? ⟨w.heap.size + 1 + 1, 1, none⟩ = some (.slice A2 x2.length c2)) ∧ (v.cell? ⟨M, 0, none⟩ = some (.int .i64 sm) ∧ v.cell? ⟨M, 1, none⟩ = some (.slice Am xm.length cm)) ∧ Below wd5.heap.size wd5 v)
    (first | (exact S0) | (exact KD.out _ S0) | (exact KD.out _ (KA.out _ _ S0)) | (exact KD.out _ (KA.out _ _ (KA.out _ _ S0))) | (refine KS.out _ _ hbd6 ?_; assumption) | (refine KS.out _ _ hbm6 ?_; assumption) | (refine KA.out _ _ ?_; first | assumption | exact KD.out _ S0) | (refine KD.out _ ?_; assumption))
    (first | (go_at_call 19; (with_reducible refine GM.out.mono ?_); rintro e wm6 ⟨Aq6, cq6, rfl, hq6, hbm6⟩) | (go_at_call 13; (with_reducible refine (GS _ _ _ ?_ ?_).out.mono ?_); (focus assumption); (focus assumption); rintro e wd6 ⟨rfl, hbd6⟩))
  rename_i hSx
  have E0 := hSx.1
  have E1 := hSx.2.1
  have E2 := hSx.2.2.1
  have E3 := hSx.2.2.2.1
  have BL := hSx.2.2.2.2
  have qL6 := BL.size
  have T0 := Y0.up BL
  have T1 := Y1.up BL
  have T2 := Y2.up BL
  have T3 := X3.up BL
  have BF := BE.trans (BL.mono BE.size)
  have zz0 := Nat.lt_of_lt_of_le z0 qL6
  have zz1 := Nat.lt_of_lt_of_le z1 qL6
  have zz2 := Nat.lt_of_lt_of_le z2 qL6
  have zz3 := Nat.lt_of_lt_of_le z3 qL6
  clear hSx S0 KD KA KS UP BL BE Y0 Y1 Y2 X3 D0 D1 D2 C3 p0 r0 p1 r1 p2 r2 p3 r3 z0 z1 z2 z3 qL6 GM GS hbd6 hbm6 hq6 M4 S2
  have D0 := E0
  have D1 := E1
  have D2 := E2
  have C3 := E3
  have Y0 := T0
  have Y1 := T1
  have Y2 := T2
  have X3 := T3
  have BE := BF
  have z0 := zz0
  have z1 := zz1
  have z2 := zz2
  have z3 := zz3
  clear E0 E1 E2 E3 T0 T1 T2 T3 BF zz0 zz1 zz2 zz3
  go_wp2_with fail
  have S0 : Rb wd6 (w.heap.size) a0 A0 x0.length c0 ∧ Rb wd6 (w.heap.size + 1) a1 A1 x1.length c1 ∧ Rb wd6 (w.heap.size + 1 + 1) a2 A2 x2.length c2 ∧ Rb wd6 (M) sm Am xm.length cm ∧ Below wd6.heap.size wd6 wd6 := ⟨D0, D1, D2, C3, Below.refl _ _⟩
  have KB : ∀ v v', Below wd6.heap.size v v' → (Rb v (w.heap.size) a0 A0 x0.length c0 ∧ Rb v (w.heap.size + 1) a1 A1 x1.length c1 ∧ Rb v (w.heap.size + 1 + 1) a2 A2 x2.length c2 ∧ Rb v (M) sm Am xm.length cm ∧ Below wd6.heap.size wd6 v) → (Rb v' (w.heap.size) a0 A0 x0.length c0 ∧ Rb v' (w.heap.size + 1) a1 A1 x1.length c1 ∧ Rb v' (w.heap.size + 1 + 1) a2 A2 x2.length c2 ∧ Rb v' (M) sm Am xm.length cm ∧ Below wd6.heap.size wd6 v') := fun v v' hb hS => ⟨hS.1.on (hb) z0, hS.2.1.on (hb) z1, hS.2.2.1.on (hb) z2, hS.2.2.2.1.on (hb) z3, hS.2.2.2.2.trans (hb)⟩
  have KD : Hid (∀ v, (Rb v (w.heap.size) a0 A0 x0.length c0 ∧ Rb v (w.heap.size + 1) a1 A1 x1.length c1 ∧ Rb v (w.heap.size + 1 + 1) a2 A2 x2.length c2 ∧ Rb v (M) sm Am xm.length cm ∧ Below wd6.heap.size wd6 v) → (Rb v.drew (w.heap.size) a0 A0 x0.length c0 ∧ Rb v.drew (w.heap.size + 1) a1 A1 x1.length c1 ∧ Rb v.drew (w.heap.size + 1 + 1) a2 A2 x2.length c2 ∧ Rb v.drew (M) sm Am xm.length cm ∧ Below wd6.heap.size wd6 v.drew)) := fun v hS => KB _ _ (Below.refl _ _).drew hS
  have KA : Hid (∀ v o, (Rb v (w.heap.size) a0 A0 x0.length c0 ∧ Rb v (w.heap.size + 1) a1 A1 x1.length c1 ∧ Rb v (w.heap.size + 1 + 1) a2 A2 x2.length c2 ∧ Rb v (M) sm Am xm.length cm ∧ Below wd6.heap.size wd6 v) → (Rb (v.alloc o) (w.heap.size) a0 A0 x0.length c0 ∧ Rb (v.alloc o) (w.heap.size + 1) a1 A1 x1.length c1 ∧ Rb (v.alloc o) (w.heap.size + 1 + 1) a2 A2 x2.length c2 ∧ Rb (v.alloc o) (M) sm Am xm.length cm ∧ Below wd6.heap.size wd6 (v.alloc o))) := fun v o hS => KB _ _ ((Below.refl _ _).alloc hS.2.2.2.2.size o) hS
  have KS : Hid (∀ v v', Below v.heap.size v v' → (Rb v (w.heap.size) a0 A0 x0.length c0 ∧ Rb v (w.heap.size + 1) a1 A1 x1.length c1 ∧ Rb v (w.heap.size + 1 + 1) a2 A2 x2.length c2 ∧ Rb v (M) sm Am xm.length cm ∧ Below wd6.heap.size wd6 v) → (Rb v' (w.heap.size) a0 A0 x0.length c0 ∧ Rb v' (w.heap.size + 1) a1 A1 x1.length c1 ∧ Rb v' (w.heap.size + 1 + 1) a2 A2 x2.length c2 ∧ Rb v' (M) sm Am xm.length cm ∧ Below wd6.heap.size wd6 v')) := fun v v' hb hS => KB _ _ (hb.mono hS.2.2.2.2.size) hS
  clear KB
  have UP : Hid (∀ W, (Rb W (w.heap.size) a0 A0 x0.length c0 ∧ Rb W (w.heap.size + 1) a1 A1 x1.length c1 ∧ Rb W (w.heap.size + 1 + 1) a2 A2 x2.length c2 ∧ Rb W (M) sm Am xm.length cm ∧ Below wd6.heap.size wd6 W) → Sl W W.heap.size .i64 A0 x0 ∧ Sl W W.heap.size .i64 A1 x1 ∧ Sl W W.heap.size .i64 A2 x2 ∧ Sl W W.heap.size .i64 Am xm) := fun W hS => ⟨Y0.up hS.2.2.2.2, Y1.up hS.2.2.2.2, Y2.up hS.2.2.2.2, X3.up hS.2.2.2.2⟩
  obtain ⟨p0, r0⟩ := id D0
  obtain ⟨p1, r1⟩ := id D1
  obtain ⟨p2, r2⟩ := id D2
  obtain ⟨p3, r3⟩ := id C3
  have GA1 : Hid (Calls Try.prog 19 #[.slice (some ⟨wd6.heap.size, 0, none⟩) 2 2] (wd6.alloc (.cells #[.int .i64 sm, .slice Am xm.length cm, .int .i64 a2, .slice A2 x2.length c2] 24)).drew (AtPost (wd6.alloc (.cells #[.int .i64 sm, .slice Am xm.length cm, .int .i64 a2, .slice A2 x2.length c2] 24)).drew n3 y3)) := by
    obtain ⟨t0, t1, t2, t3⟩ := UP.out _ (KD.out _ (KA.out _ (.cells #[.int .i64 sm, .slice Am xm.length cm, .int .i64 a2, .slice A2 x2.length c2] 24) S0))
    exact Mm2 _ _ _ (rc_two_at (c := cm) (c' := c2) (by simp) (by simp) (by simp) (by simp) t3 t2)
  have GA2 : Hid (Calls Try.prog 19 #[.slice (some ⟨wd6.heap.size, 0, none⟩) 2 2] ((wd6.alloc (.cells #[.int .i64 sm, .slice Am xm.length cm, .int .i64 a2, .slice A2 x2.length c2] 24)).alloc (.cells #[.int .i64 a1, .slice A1 x1.length c1, .int .i64 a2, .slice A2 x2.length c2] 24)).drew (AtPost ((wd6.alloc (.cells #[.int .i64 sm, .slice Am xm.length cm, .int .i64 a2, .slice A2 x2.length c2] 24)).alloc (.cells #[.int .i64 a1, .slice A1 x1.length c1, .int .i64 a2, .slice A2 x2.length c2] 24)).drew n3 y3)) := by
    obtain ⟨t0, t1, t2, t3⟩ := UP.out _ (KD.out _ (KA.out _ (.cells #[.int .i64 a1, .slice A1 x1.length c1, .int .i64 a2, .slice A2 x2.length c2] 24) (KA.out _ (.cells #[.int .i64 sm, .slice Am xm.length cm, .int .i64 a2, .slice A2 x2.length c2] 24) S0)))
    exact Mm2 _ _ _ (rc_two_at (c := cm) (c' := c2) (by simp) (by simp) (by simp) (by simp) t3 t2)
  have GA3 : Hid (Calls Try.prog 19 #[.slice (some ⟨wd6.heap.size + 1, 0, none⟩) 2 2] ((wd6.alloc (.cells #[.int .i64 a1, .slice A1 x1.length c1, .int .i64 a2, .slice A2 x2.length c2] 24)).alloc (.cells #[.int .i64 sm, .slice Am xm.length cm, .int .i64 a2, .slice A2 x2.length c2] 24)).drew (AtPost ((wd6.alloc (.cells #[.int .i64 a1, .slice A1 x1.length c1, .int .i64 a2, .slice A2 x2.length c2] 24)).alloc (.cells #[.int .i64 sm, .slice Am xm.length cm, .int .i64 a2, .slice A2 x2.length c2] 24)).drew n3 y3)) := by
    obtain ⟨t0, t1, t2, t3⟩ := UP.out _ (KD.out _ (KA.out _ (.cells #[.int .i64 sm, .slice Am xm.length cm, .int .i64 a2, .slice A2 x2.length c2] 24) (KA.out _ (.cells #[.int .i64 a1, .slice A1 x1.length c1, .int .i64 a2, .slice A2 x2.length c2] 24) S0)))
    exact Mm2 _ _ _ (rc_two_at (c := cm) (c' := c2) (by simp) (by simp) (by simp) (by simp) t3 t2)
  have RB2 : Hid (Rc ((wd6.alloc (.cells #[.int .i64 sm, .slice Am xm.length cm, .int .i64 a2, .slice A2 x2.length c2] 24)).alloc (.cells #[.int .i64 a1, .slice A1 x1.length c1, .int .i64 a2, .slice A2 x2.length c2] 24)).drew ((wd6.alloc (.cells #[.int .i64 sm, .slice Am xm.length cm, .int .i64 a2, .slice A2 x2.length c2] 24)).alloc (.cells #[.int .i64 a1, .slice A1 x1.length c1, .int .i64 a2, .slice A2 x2.length c2] 24)).drew.heap.size (some ⟨wd6.heap.size + 1, 0, none⟩) [(a1, x1), (a2, x2)]) := by
    obtain ⟨t0, t1, t2, t3⟩ := UP.out _ (KD.out _ (KA.out _ (.cells #[.int .i64 a1, .slice A1 x1.length c1, .int .i64 a2, .slice A2 x2.length c2] 24) (KA.out _ (.cells #[.int .i64 sm, .slice Am xm.length cm, .int .i64 a2, .slice A2 x2.length c2] 24) S0)))
    exact rc_two_at (c := c1) (c' := c2) (by simp) (by simp) (by simp) (by simp) t1 t2
  have RB3 : Hid (Rc ((wd6.alloc (.cells #[.int .i64 a1, .slice A1 x1.length c1, .int .i64 a2, .slice A2 x2.length c2] 24)).alloc (.cells #[.int .i64 sm, .slice Am xm.length cm, .int .i64 a2, .slice A2 x2.length c2] 24)).drew ((wd6.alloc (.cells #[.int .i64 a1, .slice A1 x1.length c1, .int .i64 a2, .slice A2 x2.length c2] 24)).alloc (.cells #[.int .i64 sm, .slice Am xm.length cm, .int .i64 a2, .slice A2 x2.length c2] 24)).drew.heap.size (some ⟨wd6.heap.size, 0, none⟩) [(a1, x1), (a2, x2)]) := by
    obtain ⟨t0, t1, t2, t3⟩ := UP.out _ (KD.out _ (KA.out _ (.cells #[.int .i64 sm, .slice Am xm.length cm, .int .i64 a2, .slice A2 x2.length c2] 24) (KA.out _ (.cells #[.int .i64 a1, .slice A1 x1.length c1, .int .i64 a2, .slice A2 x2.length c2] 24) S0)))
    exact rc_two_at (c := c1) (c' := c2) (by simp) (by simp) (by simp) (by simp) t1 t2
  have GB1 : ∀ W : World, (Rb (W.alloc (.cells #[.int .i64 a1, .slice A1 x1.length c1, .int .i64 a2, .slice A2 x2.length c2] 24)) (w.heap.size) a0 A0 x0.length c0 ∧ Rb (W.alloc (.cells #[.int .i64 a1, .slice A1 x1.length c1, .int .i64 a2, .slice A2 x2.length c2] 24)) (w.heap.size + 1) a1 A1 x1.length c1 ∧ Rb (W.alloc (.cells #[.int .i64 a1, .slice A1 x1.length c1, .int .i64 a2, .slice A2 x2.length c2] 24)) (w.heap.size + 1 + 1) a2 A2 x2.length c2 ∧ Rb (W.alloc (.cells #[.int .i64 a1, .slice A1 x1.length c1, .int .i64 a2, .slice A2 x2.length c2] 24)) (M) sm Am xm.length cm ∧ Below wd6.heap.size wd6 (W.alloc (.cells #[.int .i64 a1, .slice A1 x1.length c1, .int .i64 a2, .slice A2 x2.length c2] 24))) → Hid (Calls Try.prog 19 #[.slice (some ⟨W.heap.size, 0, none⟩) 2 2] (W.alloc (.cells #[.int .i64 a1, .slice A1 x1.length c1, .int .i64 a2, .slice A2 x2.length c2] 24)) (AtPost (W.alloc (.cells #[.int .i64 a1, .slice A1 x1.length c1, .int .i64 a2, .slice A2 x2.length c2] 24)) n4 y4)) := fun W hS => by
    obtain ⟨t0, t1, t2, t3⟩ := UP.out _ hS
    exact M12 _ _ _ (rc_two_at (c := c1) (c' := c2) (by simp) (by simp) (by simp) (by simp) t1 t2)
  have GB2 : ∀ (W : World) (A : Option Addr), (Rb W (w.heap.size) a0 A0 x0.length c0 ∧ Rb W (w.heap.size + 1) a1 A1 x1.length c1 ∧ Rb W (w.heap.size + 1 + 1) a2 A2 x2.length c2 ∧ Rb W (M) sm Am xm.length cm ∧ Below wd6.heap.size wd6 W) → Rc W W.heap.size A [(a1, x1), (a2, x2)] → Hid (Calls Try.prog 19 #[.slice A 2 2] W (AtPost W n4 y4)) := fun W A hS h => M12 W A 2 h
  have GC : ∀ (W : World) (A : Option Addr) (c : Nat), (Rb (W.alloc (.cells #[.int .i64 a0, .slice A0 x0.length c0, .int .i64 n4, .slice A y4.length c] 24)) (w.heap.size) a0 A0 x0.length c0 ∧ Rb (W.alloc (.cells #[.int .i64 a0, .slice A0 x0.length c0, .int .i64 n4, .slice A y4.length c] 24)) (w.heap.size + 1) a1 A1 x1.length c1 ∧ Rb (W.alloc (.cells #[.int .i64 a0, .slice A0 x0.length c0, .int .i64 n4, .slice A y4.length c] 24)) (w.heap.size + 1 + 1) a2 A2 x2.length c2 ∧ Rb (W.alloc (.cells #[.int .i64 a0, .slice A0 x0.length c0, .int .i64 n4, .slice A y4.length c] 24)) (M) sm Am xm.length cm ∧ Below wd6.heap.size wd6 (W.alloc (.cells #[.int .i64 a0, .slice A0 x0.length c0, .int .i64 n4, .slice A y4.length c] 24))) → Sl (W.alloc (.cells #[.int .i64 a0, .slice A0 x0.length c0, .int .i64 n4, .slice A y4.length c] 24)) (W.alloc (.cells #[.int .i64 a0, .slice A0 x0.length c0, .int .i64 n4, .slice A y4.length c] 24)).heap.size .i64 A y4 → Hid (Calls Try.prog 19 #[.slice (some ⟨W.heap.size, 0, none⟩) 2 2] (W.alloc (.cells #[.int .i64 a0, .slice A0 x0.length c0, .int .i64 n4, .slice A y4.length c] 24)) (AtPost (W.alloc (.cells #[.int .i64 a0, .slice A0 x0.length c0, .int .i64 n4, .slice A y4.length c] 24)) n5 y5)) := fun W A c hS t4 => by
    obtain ⟨t0, t1, t2, t3⟩ := UP.out _ hS
    exact M0y _ _ _ (rc_two_at (c := c0) (c' := c) (by simp) (by simp) (by simp) (by simp) t0 t4)
  clear M12 M0y Mm2
  go_region_held3 (fun v => (v.cell? ⟨w.heap.size, 0, none⟩ = some (.int .i64 a0) ∧ v.cell? ⟨w.heap.size, 1, none⟩ = some (.slice A0 x0.length c0)) ∧ (v.cell? ⟨w.heap.size + 1, 0, none⟩ = some (.int .i64 a1) ∧ v.cell? ⟨w.heap.size + 1, 1, none⟩ = some (.slice A1 x1.length c1)) ∧ (v.cell? ⟨w.heap.size + 1 + 1, 0, none⟩ = some (.int .i64 a2) ∧ v.cell? ⟨w.heap.size + 1 + 1, 1, none⟩ = some (.slice A2 x2.length c2)) ∧ (v.cell? ⟨M, 0, none⟩ = some (.int .i64 sm) ∧ v.cell? ⟨M, 1, none⟩ = some (.slice Am xm.length cm)) ∧ Below wd6.heap.size wd6 v)
    (first | (exact S0) | (exact KD.out _ S0) | (exact KD.out _ (KA.out _ _ S0)) | (exact KD.out _ (KA.out _ _ (KA.out _ _ S0))) | (refine KS.out _ _ hbd7 ?_; assumption) | (refine KS.out _ _ hbc ?_; assumption) | (refine KS.out _ _ hbb ?_; assumption) | (refine KS.out _ _ hba ?_; assumption) | (refine KA.out _ _ ?_; first | assumption | exact KD.out _ S0) | (refine KD.out _ ?_; assumption))
    (first
      | (go_at_call 19; (with_reducible refine GA1.out.mono ?_); rintro e wa ⟨Aa, ca, rfl, ha, hba⟩)
      | (go_at_call 19; (with_reducible refine GA2.out.mono ?_); rintro e wa ⟨Aa, ca, rfl, ha, hba⟩; have RB := RB2.out.up hba)
      | (go_at_call 19; (with_reducible refine GA3.out.mono ?_); rintro e wa ⟨Aa, ca, rfl, ha, hba⟩; have RB := RB3.out.up hba)
      | (go_at_call 19; (with_reducible refine (GB1 _ ?_).out.mono ?_); (focus assumption); rintro e wb ⟨Ab, cb, rfl, hb, hbb⟩; have ha2 := ha.up2 hbb)
      | (go_at_call 19; (with_reducible refine (GB2 _ _ ?_ ?_).out.mono ?_); (focus assumption); (focus assumption); rintro e wb ⟨Ab, cb, rfl, hb, hbb⟩; have ha2 := ha.up hbb)
      | (go_at_call 19; (with_reducible refine (GC _ _ _ ?_ ?_).out.mono ?_); (focus assumption); (focus (exact hb.up ((Below.refl _ _).alloc (Nat.le_refl _) _))); rintro e wc ⟨Ac, cc, rfl, hc, hbc⟩; have ha3 := ha2.up2 hbc)
      | (go_at_call 13; (with_reducible refine (S3 _ _ _ _ _ ?_ ?_).out.mono ?_); (focus (exact ha3)); (focus assumption); rintro e wd7 ⟨rfl, hbd7⟩))
  all_goals (
    rename_i hSx
    have E0 := hSx.1
    have E1 := hSx.2.1
    have E2 := hSx.2.2.1
    have E3 := hSx.2.2.2.1
    have BL := hSx.2.2.2.2
    have qL7 := BL.size
    have T0 := Y0.up BL
    have T1 := Y1.up BL
    have T2 := Y2.up BL
    have T3 := X3.up BL
    have BF := BE.trans (BL.mono BE.size)
    have zz0 := Nat.lt_of_lt_of_le z0 qL7
    have zz1 := Nat.lt_of_lt_of_le z1 qL7
    have zz2 := Nat.lt_of_lt_of_le z2 qL7
    have zz3 := Nat.lt_of_lt_of_le z3 qL7
    clear hSx S0 KD KA KS UP BL BE Y0 Y1 Y2 X3 D0 D1 D2 C3 p0 r0 p1 r1 p2 r2 p3 r3 z0 z1 z2 z3 qL7 GA1 GA2 GA3 GB1 GB2 GC RB2 RB3 S3
    have D0 := E0
    have D1 := E1
    have D2 := E2
    have C3 := E3
    have Y0 := T0
    have Y1 := T1
    have Y2 := T2
    have X3 := T3
    have BE := BF
    have z0 := zz0
    have z1 := zz1
    have z2 := zz2
    have z3 := zz3
    clear E0 E1 E2 E3 T0 T1 T2 T3 BF zz0 zz1 zz2 zz3
    have Q0 := Below.refl wd7.heap.size wd7
    obtain ⟨p0, r0⟩ := Rb.on D0 Q0 z0
    obtain ⟨p1, r1⟩ := Rb.on D1 Q0 z1
    obtain ⟨p2, r2⟩ := Rb.on D2 Q0 z2
    obtain ⟨p3, r3⟩ := Rb.on C3 Q0 z3
    go_wp2_with fail
    clear p0 r0 p1 r1 p2 r2 p3 r3
    refine (W02 _ A0 c0 A2 c2 (Y0.up Q0) (Y2.up Q0)).out.mono ?_
    rintro e v1 ⟨rfl, N1⟩
    have Q1 := Q0.trans (N1.mono Q0.size)
    clear N1
    cases u
    · obtain ⟨p0, r0⟩ := Rb.on D0 Q1 z0
      obtain ⟨p1, r1⟩ := Rb.on D1 Q1 z1
      obtain ⟨p2, r2⟩ := Rb.on D2 Q1 z2
      obtain ⟨p3, r3⟩ := Rb.on C3 Q1 z3
      go_wp2_with fail
      clear p0 r0 p1 r1 p2 r2 p3 r3
      refine (W0m _ A0 c0 Am cm (Y0.up Q1) (X3.up Q1)).out.mono ?_
      rintro e v2 ⟨rfl, N2⟩
      have Q2 := Q1.trans (N2.mono Q1.size)
      clear N2
      obtain ⟨p0, r0⟩ := Rb.on D0 Q2 z0
      obtain ⟨p1, r1⟩ := Rb.on D1 Q2 z1
      obtain ⟨p2, r2⟩ := Rb.on D2 Q2 z2
      obtain ⟨p3, r3⟩ := Rb.on C3 Q2 z3
      go_wp2_with fail
      clear p0 r0 p1 r1 p2 r2 p3 r3
      refine (W1m _ A1 c1 Am cm (Y1.up Q2) (X3.up Q2)).out.mono ?_
      rintro e v3 ⟨rfl, N3⟩
      have Q3 := Q2.trans (N3.mono Q2.size)
      clear N3
      obtain ⟨p0, r0⟩ := Rb.on D0 Q3 z0
      obtain ⟨p1, r1⟩ := Rb.on D1 Q3 z1
      obtain ⟨p2, r2⟩ := Rb.on D2 Q3 z2
      obtain ⟨p3, r3⟩ := Rb.on C3 Q3 z3
      go_wp2_with fail
      clear p0 r0 p1 r1 p2 r2 p3 r3
      refine (Km _ Am cm (X3.up Q3)).out.mono ?_
      rintro e v4 ⟨rfl, N4⟩
      have Q4 := Q3.trans (N4.mono Q3.size)
      clear N4
      have BX := BE.trans (Q4.mono BE.size)
      go_wp2
      go_ret
      exact ⟨rfl, BX⟩
    obtain ⟨p0, r0⟩ := Rb.on D0 Q1 z0
    obtain ⟨p1, r1⟩ := Rb.on D1 Q1 z1
    obtain ⟨p2, r2⟩ := Rb.on D2 Q1 z2
    obtain ⟨p3, r3⟩ := Rb.on C3 Q1 z3
    go_wp2_with fail
    clear p0 r0 p1 r1 p2 r2 p3 r3
    refine (W12 _ A1 c1 A2 c2 (Y1.up Q1) (Y2.up Q1)).out.mono ?_
    rintro e v2 ⟨rfl, N2⟩
    have Q2 := Q1.trans (N2.mono Q1.size)
    clear N2
    cases v
    · obtain ⟨p0, r0⟩ := Rb.on D0 Q2 z0
      obtain ⟨p1, r1⟩ := Rb.on D1 Q2 z1
      obtain ⟨p2, r2⟩ := Rb.on D2 Q2 z2
      obtain ⟨p3, r3⟩ := Rb.on C3 Q2 z3
      go_wp2_with fail
      clear p0 r0 p1 r1 p2 r2 p3 r3
      refine (W0m _ A0 c0 Am cm (Y0.up Q2) (X3.up Q2)).out.mono ?_
      rintro e v3 ⟨rfl, N3⟩
      have Q3 := Q2.trans (N3.mono Q2.size)
      clear N3
      obtain ⟨p0, r0⟩ := Rb.on D0 Q3 z0
      obtain ⟨p1, r1⟩ := Rb.on D1 Q3 z1
      obtain ⟨p2, r2⟩ := Rb.on D2 Q3 z2
      obtain ⟨p3, r3⟩ := Rb.on C3 Q3 z3
      go_wp2_with fail
      clear p0 r0 p1 r1 p2 r2 p3 r3
      refine (W1m _ A1 c1 Am cm (Y1.up Q3) (X3.up Q3)).out.mono ?_
      rintro e v4 ⟨rfl, N4⟩
      have Q4 := Q3.trans (N4.mono Q3.size)
      clear N4
      obtain ⟨p0, r0⟩ := Rb.on D0 Q4 z0
      obtain ⟨p1, r1⟩ := Rb.on D1 Q4 z1
      obtain ⟨p2, r2⟩ := Rb.on D2 Q4 z2
      obtain ⟨p3, r3⟩ := Rb.on C3 Q4 z3
      go_wp2_with fail
      clear p0 r0 p1 r1 p2 r2 p3 r3
      refine (Km _ Am cm (X3.up Q4)).out.mono ?_
      rintro e v5 ⟨rfl, N5⟩
      have Q5 := Q4.trans (N5.mono Q4.size)
      clear N5
      have BX := BE.trans (Q5.mono BE.size)
      go_wp2
      go_ret
      exact ⟨rfl, BX⟩
    obtain rfl : z = true := HZ.out (by first | rfl | trivial) (by first | rfl | trivial)
    obtain ⟨p0, r0⟩ := Rb.on D0 Q2 z0
    obtain ⟨p1, r1⟩ := Rb.on D1 Q2 z1
    obtain ⟨p2, r2⟩ := Rb.on D2 Q2 z2
    obtain ⟨p3, r3⟩ := Rb.on C3 Q2 z3
    go_wp2_with fail
    clear p0 r0 p1 r1 p2 r2 p3 r3
    refine (Wm2 _ Am cm A2 c2 (X3.up Q2) (Y2.up Q2)).out.mono ?_
    rintro e v3 ⟨rfl, N3⟩
    have Q3 := Q2.trans (N3.mono Q2.size)
    clear N3
    obtain ⟨p0, r0⟩ := Rb.on D0 Q3 z0
    obtain ⟨p1, r1⟩ := Rb.on D1 Q3 z1
    obtain ⟨p2, r2⟩ := Rb.on D2 Q3 z2
    obtain ⟨p3, r3⟩ := Rb.on C3 Q3 z3
    go_wp2_with fail
    clear p0 r0 p1 r1 p2 r2 p3 r3
    refine (W0m _ A0 c0 Am cm (Y0.up Q3) (X3.up Q3)).out.mono ?_
    rintro e v4 ⟨rfl, N4⟩
    have Q4 := Q3.trans (N4.mono Q3.size)
    clear N4
    obtain ⟨p0, r0⟩ := Rb.on D0 Q4 z0
    obtain ⟨p1, r1⟩ := Rb.on D1 Q4 z1
    obtain ⟨p2, r2⟩ := Rb.on D2 Q4 z2
    obtain ⟨p3, r3⟩ := Rb.on C3 Q4 z3
    go_wp2_with fail
    clear p0 r0 p1 r1 p2 r2 p3 r3
    refine (W1m _ A1 c1 Am cm (Y1.up Q4) (X3.up Q4)).out.mono ?_
    rintro e v5 ⟨rfl, N5⟩
    have Q5 := Q4.trans (N5.mono Q4.size)
    clear N5
    obtain ⟨p0, r0⟩ := Rb.on D0 Q5 z0
    obtain ⟨p1, r1⟩ := Rb.on D1 Q5 z1
    obtain ⟨p2, r2⟩ := Rb.on D2 Q5 z2
    obtain ⟨p3, r3⟩ := Rb.on C3 Q5 z3
    go_wp2_with fail
    clear p0 r0 p1 r1 p2 r2 p3 r3
    refine (Km _ Am cm (X3.up Q5)).out.mono ?_
    rintro e v6 ⟨rfl, N6⟩
    have Q6 := Q5.trans (N6.mono Q5.size)
    clear N6
    have BX := BE.trans (Q6.mono BE.size)
    go_wp2
    go_ret
    exact ⟨rfl, BX⟩)

theorem walk (a0 : Int) (A0 : Option Addr) (c0 : Nat) (x0 : List Int) (a1 : Int) (A1 : Option Addr) (c1 : Nat) (x1 : List Int) (a2 : Int) (A2 : Option Addr) (c2 : Nat) (x2 : List Int) (w : World) (s0 : Sl w w.heap.size .i64 A0 x0) (s1 : Sl w w.heap.size .i64 A1 x1) (s2 : Sl w w.heap.size .i64 A2 x2) : Calls Try.prog 5 #[.agg #[.int .i64 a0, .slice A0 x0.length c0], .agg #[.int .i64 a1, .slice A1 x1.length c1], .agg #[.int .i64 a2, .slice A2 x2.length c2]] w (UpPost w) := by
  have M0 : ∀ (W : World) (A : Option Addr) (c : Nat), Sl W W.heap.size .i64 A x0 → Hid (Calls Try.prog 11 #[.agg #[.int .i64 a0, .slice A x0.length c], .int .i64 7] W (BoolPost W (my a0 x0 7))) := fun W A c h => may_any a0 A c x0 7 W h
  have M1 : ∀ (W : World) (A : Option Addr) (c : Nat), Sl W W.heap.size .i64 A x1 → Hid (Calls Try.prog 11 #[.agg #[.int .i64 a1, .slice A x1.length c], .int .i64 7] W (BoolPost W (my a1 x1 7))) := fun W A c h => may_any a1 A c x1 7 W h
  have M2 : ∀ (W : World) (A : Option Addr) (c : Nat), Sl W W.heap.size .i64 A x2 → Hid (Calls Try.prog 11 #[.agg #[.int .i64 a2, .slice A x2.length c], .int .i64 7] W (BoolPost W (my a2 x2 7))) := fun W A c h => may_any a2 A c x2 7 W h
  rcases h0 : my a0 x0 7 with _ | _
  · rw [h0] at M0
    exact nay0 a0 A0 c0 x0 a1 A1 c1 x1 a2 A2 c2 x2 w s0 s1 s2 M0
  rcases h1 : my a1 x1 7 with _ | _
  · rw [h0] at M0
    rw [h1] at M1
    exact nay1 a0 A0 c0 x0 a1 A1 c1 x1 a2 A2 c2 x2 w s0 s1 s2 M0 M1
  rcases h2 : my a2 x2 7 with _ | _
  · rw [h0] at M0
    rw [h1] at M1
    rw [h2] at M2
    exact nay2 a0 A0 c0 x0 a1 A1 c1 x1 a2 A2 c2 x2 w s0 s1 s2 M0 M1 M2
  rw [h0] at M0
  rw [h1] at M1
  rw [h2] at M2
  have l0 := (my_iff.1 h0).2.2.1
  have l1 := (my_iff.1 h1).2.2.1
  have l2 := (my_iff.1 h2).2.2.1
  have lm : (mg [(a0, x0), (a1, x1)]).length ≤ 1000 := by rw [mg_len, lg2]; simp only; omega
  refine rest (wi a0 x0 a2 x2) (wi a1 x1 a2 x2) (wi (sq [(a0, x0), (a1, x1)]) (mg [(a0, x0), (a1, x1)]) a2 x2) (sq [(a0, x0), (a1, x1)]) (sq [(a1, x1), (a0, x0)]) (sq [(a0, x0), (a1, x1), (a0, x0), ((sq [(a0, x0), (a1, x1)]), (mg [(a0, x0), (a1, x1)]))]) (sq [((sq [(a0, x0), (a1, x1)]), (mg [(a0, x0), (a1, x1)])), (a2, x2)]) (sq [(a1, x1), (a2, x2)]) (sq [(a0, x0), ((sq [(a1, x1), (a2, x2)]), (mg [(a1, x1), (a2, x2)]))]) (mg [(a0, x0), (a1, x1)]) (mg [(a1, x1), (a0, x0)]) (mg [(a0, x0), (a1, x1), (a0, x0), ((sq [(a0, x0), (a1, x1)]), (mg [(a0, x0), (a1, x1)]))]) (mg [((sq [(a0, x0), (a1, x1)]), (mg [(a0, x0), (a1, x1)])), (a2, x2)]) (mg [(a1, x1), (a2, x2)]) (mg [(a0, x0), ((sq [(a1, x1), (a2, x2)]), (mg [(a1, x1), (a2, x2)]))])
    a0 A0 c0 x0 a1 A1 c1 x1 a2 A2 c2 x2 w s0 s1 s2 (fun e1 e2 => wi_least (p := (a0, x0)) (q := (a1, x1)) (r := (a2, x2)) h2 e1 e2) M0 M1 M2
    (fun W A c h => merge_any A c [(a0, x0), (a1, x1)] W (by simp) (by rw [lg2]; simp only [mg_len, lg2]; omega) h) (fun W A c h => merge_any A c [(a1, x1), (a0, x0)] W (by simp) (by rw [lg2]; simp only [mg_len, lg2]; omega) h) (fun W A c h => merge_any A c [(a0, x0), (a1, x1), (a0, x0), ((sq [(a0, x0), (a1, x1)]), (mg [(a0, x0), (a1, x1)]))] W (by simp) (by simp only [lg, List.foldl_cons, List.foldl_nil, mg_len]; omega) h) (fun W A c h => merge_any A c [((sq [(a0, x0), (a1, x1)]), (mg [(a0, x0), (a1, x1)])), (a2, x2)] W (by simp) (by rw [lg2]; simp only [mg_len, lg2]; omega) h) (fun W A c h => merge_any A c [(a1, x1), (a2, x2)] W (by simp) (by rw [lg2]; simp only [mg_len, lg2]; omega) h) (fun W A c h => merge_any A c [(a0, x0), ((sq [(a1, x1), (a2, x2)]), (mg [(a1, x1), (a2, x2)]))] W (by simp) (by rw [lg2]; simp only [mg_len, lg2]; omega) h)
    (fun W A c A' c' h h' => by have := same_any (sq [(a0, x0), (a1, x1)]) (sq [(a1, x1), (a0, x0)]) A A' c c' (mg [(a0, x0), (a1, x1)]) (mg [(a1, x1), (a0, x0)]) W h h' (by rw [mg_len, lg2]; simp only [mg_len, lg2]; omega) (by rw [mg_len, lg2]; simp only [mg_len, lg2]; omega); rw [sa_comm2] at this; exact this)
    (fun W A c A' c' h h' => by have := same_any (sq [(a0, x0), (a1, x1)]) (sq [(a0, x0), (a1, x1), (a0, x0), ((sq [(a0, x0), (a1, x1)]), (mg [(a0, x0), (a1, x1)]))]) A A' c c' (mg [(a0, x0), (a1, x1)]) (mg [(a0, x0), (a1, x1), (a0, x0), ((sq [(a0, x0), (a1, x1)]), (mg [(a0, x0), (a1, x1)]))]) W h h' (by rw [mg_len, lg2]; simp only [mg_len, lg2]; omega) (by rw [mg_len]; simp only [lg, List.foldl_cons, List.foldl_nil, mg_len]; omega); rw [sa_four] at this; exact this)
    (fun W A c A' c' h h' => by have := same_any (sq [((sq [(a0, x0), (a1, x1)]), (mg [(a0, x0), (a1, x1)])), (a2, x2)]) (sq [(a0, x0), ((sq [(a1, x1), (a2, x2)]), (mg [(a1, x1), (a2, x2)]))]) A A' c c' (mg [((sq [(a0, x0), (a1, x1)]), (mg [(a0, x0), (a1, x1)])), (a2, x2)]) (mg [(a0, x0), ((sq [(a1, x1), (a2, x2)]), (mg [(a1, x1), (a2, x2)]))]) W h h' (by rw [mg_len, lg2]; simp only [mg_len, lg2]; omega) (by rw [mg_len, lg2]; simp only [mg_len, lg2]; omega); rw [sa_assoc] at this; exact this)
    (fun W A c A' c' h h' => within_any a0 a2 A A' c c' x0 x2 W h h' (by omega) (by omega)) (fun W A c A' c' h h' => within_any a1 a2 A A' c c' x1 x2 W h h' (by omega) (by omega)) (fun W A c A' c' h h' => within_any (sq [(a0, x0), (a1, x1)]) a2 A A' c c' (mg [(a0, x0), (a1, x1)]) x2 W h h' lm (by omega)) ?_ ?_ ?_
  · intro W A c A' c' h h'
    have := within_any a0 (sq [(a0, x0), (a1, x1)]) A A' c c' x0 (mg [(a0, x0), (a1, x1)]) W h h' (by omega) lm
    rw [wi_left (p := (a0, x0)) (q := (a1, x1))] at this
    exact this
  · intro W A c A' c' h h'
    have := within_any a1 (sq [(a0, x0), (a1, x1)]) A A' c c' x1 (mg [(a0, x0), (a1, x1)]) W h h' (by omega) lm
    rw [wi_right (p := (a0, x0)) (q := (a1, x1))] at this
    exact this
  · intro W A c h
    have := may_any (sq [(a0, x0), (a1, x1)]) A c (mg [(a0, x0), (a1, x1)]) 7 W h
    rw [my_merge (p := (a0, x0)) (q := (a1, x1)) h0 h1] at this
    exact this

theorem own : ownKnob Try.prog.godebug = none := by kernel_rfl
theorem laidOut : laidOutB Try.prog = true := by kernel_rfl

set_option maxRecDepth 100000 in
theorem lifted (os : Os) (started : os.Started) (H : Type) (enc : TypeId × Value → H) :
    ReturnsInHanded {} Try.checked os 5 .any (Rows.attrJoinsSpec.pre6 enc Try.prog Try.f5 Rows.attrJoinsRow.domain false) (Rows.attrJoinsSpec.post enc Try.prog Try.f5 false true false false) := by
  refine returnsInHanded_of_change (C := Try.checked) own started (by kernel_rfl) Try.func5
    (ChangeSpec.witness6 (enc := enc) (C := Try.checked) false ⟨#[], #[.agg #[.int .i64 0, .slice none 0 0], .agg #[.int .i64 0, .slice none 0 0], .agg #[.int .i64 0, .slice none 0 0]], []⟩ 8 (by kernel_rfl) (by kernel_rfl) (by kernel_rfl) (by kernel_rfl)) ?_
  intro W base args ds gs before hval0 hW hcnd _
  have hval : ∀ (j : Nat) t v, Try.f5.params[j]? = some t → args[j]? = some v → Value.okWide Try.prog W .any base t v := hval0
  have hW' := hW
  obtain ⟨p, q, hA, hV, rfl, hfz, hnd⟩ := hW
  have hA : DataW.TrodAll enc Try.prog W 0 (fun _ => true) true Try.f5.params.toList args.toList ds p := hA
  rw [Try.params5] at hA hval
  obtain ⟨v0, vs0, d0, ds0, p0, q0, hargs, rfl, rfl, h0, r0⟩ := trodAll_cons hA
  obtain ⟨v1, vs1, d1, ds1, p1, q1, rfl, rfl, rfl, h1, r1⟩ := trodAll_cons r0
  obtain ⟨v2, vs2, d2, ds2, p2, q2, rfl, rfl, rfl, h2, r2⟩ := trodAll_cons r1
  obtain ⟨rfl, rfl, rfl⟩ := trodAll_nil r2
  obtain rfl : args = #[v0, v1, v2] := by cases args; simp_all
  obtain ⟨rfl, rfl⟩ := trodVars_none hV
  have k0 := h0
  have lt0 : ∀ x ∈ p0, x.block < W.heap.size := by obtain ⟨m, hm⟩ := k0; exact DataW.trod_lt m _ _ _ hm
  obtain ⟨a0, A0, c0, x0, rfl, s0⟩ := open_attr (hval 0 24 v0 rfl rfl) h0
  have k1 := h1
  have lt1 : ∀ x ∈ p1, x.block < W.heap.size := by obtain ⟨m, hm⟩ := k1; exact DataW.trod_lt m _ _ _ hm
  obtain ⟨a1, A1, c1, x1, rfl, s1⟩ := open_attr (hval 1 24 v1 rfl rfl) h1
  have k2 := h2
  have lt2 : ∀ x ∈ p2, x.block < W.heap.size := by obtain ⟨m, hm⟩ := k2; exact DataW.trod_lt m _ _ _ hm
  obtain ⟨a2, A2, c2, x2, rfl, s2⟩ := open_attr (hval 2 24 v2 rfl rfl) h2
  clear hval0
  refine (walk a0 A0 c0 x0 a1 A1 c1 x1 a2 A2 c2 x2 W s0 s1 s2).mono fun e W' ⟨he, bel⟩ => ?_
  subst he
  exact ⟨_, rfl, _, _, _, [], _, [], hW', trodAll_mk1 (shut_bool Try.underlying4 _), (trodAll_cons_mk (Below.trod laidOut (by kernel_rfl) (of_decide_eq_true (by kernel_rfl)) k0 bel lt0) (trodAll_cons_mk (Below.trod laidOut (by kernel_rfl) (of_decide_eq_true (by kernel_rfl)) k1 bel lt1) (trodAll_cons_mk (Below.trod laidOut (by kernel_rfl) (of_decide_eq_true (by kernel_rfl)) k2 bel lt2) trodAll_mk0))), rfl, bel.frame _, fun h => by cases h⟩

theorem over : Rows.attrJoinsRow.holds Try.pinned (OpenSpec.ofChange Rows.attrJoinsSpec) :=
  OpenClaim.holds_of_wide 5 Try.f5 rfl rfl rfl rfl rfl rfl rfl ⟨rfl, rfl, rfl, rfl, rfl⟩ rfl rfl rfl rfl rfl (by kernel_rfl) Try.func5 (by kernel_rfl)
    (of_decide_eq_true (by kernel_rfl)) (by unfold Func.isWrapper; first | (rw [if_pos (by decide +kernel)]; kernel_rfl) | (rw [if_neg (by decide +kernel)]; exact ⟨rfl, rfl⟩))
    (fun os started H enc _ => lifted os started H enc)

theorem proved : Rows.AttrJoinsSaid := over
#print axioms proved
end Go.Proofs.Ytiedagbboednkaa.attrJoins
