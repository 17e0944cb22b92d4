/-
  Whether any attribute may be, two are the same, one is within the other, or waits for any instance, is what the document says: AttrTells answers true whatever the two attributes, the number and the instance; they read as they did. Conditions: none.
-/
import Derived.Test.YtiedagbboednkaaOpen
import Derived.Test.YtiedagbboednkaaRwi
import Derived.Deep.RegionLaw
import Derived.Deep.AppendLies
namespace Go.Proofs.Ytiedagbboednkaa.attrTells
open Go.ChangeShapes Go.WideShapes Go.ChangeAt Go.RowKit
set_option linter.unusedVariables false
set_option linter.unusedSimpArgs false

set_option maxHeartbeats 4000000 in
theorem rest (m s v t f0 f1 : Bool) (a0 : Int) (A0 : Option Addr) (c0 : Nat) (x0 : List Int) (a1 : Int) (A1 : Option Addr) (c1 : Nat) (x1 : List Int) (a2 : Int) (a3 b3 : Int) (w : World) (s0 : Sl w w.heap.size .i64 A0 x0) (s1 : Sl w w.heap.size .i64 A1 x1) (w2 : a2 ≤ 9223372036854775807) (w3 : a3 ≤ 9223372036854775807) (v3 : b3 ≤ 9223372036854775807)
    (F0 : ∀ W, Hid (Calls Try.prog 10 #[.agg #[.int .i64 a0, .slice A0 x0.length c0]] W (BoolPost W f0))) (F1 : ∀ W, Hid (Calls Try.prog 10 #[.agg #[.int .i64 a1, .slice A1 x1.length c1]] W (BoolPost W f1)))
    (HM : f0 = true → f1 = true → ∀ W, Sl W W.heap.size .i64 A0 x0 → Hid (Calls Try.prog 11 #[.agg #[.int .i64 a0, .slice A0 x0.length c0], .int .i64 a2] W (BoolPost W m)))
    (RM : f0 = true → f1 = true → ∀ W, Sl W W.heap.size .i64 A0 x0 → Hid (Calls Try.prog 12 #[.agg #[.int .i64 a0, .slice A0 x0.length c0], .int .i64 a2] W (BoolPost W m)))
    (HS : f0 = true → f1 = true → ∀ W, Sl W W.heap.size .i64 A0 x0 → Sl W W.heap.size .i64 A1 x1 → Hid (Calls Try.prog 13 #[.agg #[.int .i64 a0, .slice A0 x0.length c0], .agg #[.int .i64 a1, .slice A1 x1.length c1]] W (BoolPost W s)))
    (RS : f0 = true → f1 = true → ∀ W, Sl W W.heap.size .i64 A0 x0 → Sl W W.heap.size .i64 A1 x1 → Hid (Calls Try.prog 14 #[.agg #[.int .i64 a0, .slice A0 x0.length c0], .agg #[.int .i64 a1, .slice A1 x1.length c1]] W (BoolPost W s)))
    (HW : f0 = true → f1 = true → ∀ W, Sl W W.heap.size .i64 A0 x0 → Sl W W.heap.size .i64 A1 x1 → Hid (Calls Try.prog 15 #[.agg #[.int .i64 a0, .slice A0 x0.length c0], .agg #[.int .i64 a1, .slice A1 x1.length c1]] W (BoolPost W v)))
    (RW : f0 = true → f1 = true → ∀ W, Sl W W.heap.size .i64 A0 x0 → Sl W W.heap.size .i64 A1 x1 → Hid (Calls Try.prog 16 #[.agg #[.int .i64 a0, .slice A0 x0.length c0], .agg #[.int .i64 a1, .slice A1 x1.length c1]] W (BoolPost W v)))
    (HT : f0 = true → f1 = true → ∀ W, Sl W W.heap.size .i64 A0 x0 → Hid (Calls Try.prog 17 #[.agg #[.int .i64 a0, .slice A0 x0.length c0], .agg #[.int .i64 a3, .int .i64 b3]] W (BoolPost W t)))
    (RT : f0 = true → f1 = true → ∀ W, Sl W W.heap.size .i64 A0 x0 → Hid (Calls Try.prog 18 #[.agg #[.int .i64 a0, .slice A0 x0.length c0], .agg #[.int .i64 a3, .int .i64 b3]] W (BoolPost W t))) :
    Calls Try.prog 3 #[.agg #[.int .i64 a0, .slice A0 x0.length c0], .agg #[.int .i64 a1, .slice A1 x1.length c1], .int .i64 a2, .agg #[.int .i64 a3, .int .i64 b3]] w (UpPost w) := by
  go_enter Try.func3, Try.ntmps3
  go_wp2_with fail
  have BW : Below w.heap.size w (((w.alloc (.cells #[.int .i64 a0, .slice A0 x0.length c0] 24)).alloc (.cells #[.int .i64 a1, .slice A1 x1.length c1] 24)).alloc (.cells #[.int .i64 a3, .int .i64 b3] 26)) := (((Below.refl _ _).alloc (Nat.le_refl _) _).alloc (by simp) _).alloc (by simp; omega) _
  have Z0 : (((w.alloc (.cells #[.int .i64 a0, .slice A0 x0.length c0] 24)).alloc (.cells #[.int .i64 a1, .slice A1 x1.length c1] 24)).alloc (.cells #[.int .i64 a3, .int .i64 b3] 26)).heap.size = w.heap.size + 1 + 1 + 1 := by simp
  have C0 : Rb (((w.alloc (.cells #[.int .i64 a0, .slice A0 x0.length c0] 24)).alloc (.cells #[.int .i64 a1, .slice A1 x1.length c1] 24)).alloc (.cells #[.int .i64 a3, .int .i64 b3] 26)) (w.heap.size) a0 A0 x0.length c0 := by
    have := (((ax_new w a0 A0 x0.length c0).old (.cells #[.int .i64 a1, .slice A1 x1.length c1] 24)).old (.cells #[.int .i64 a3, .int .i64 b3] 26)).rb
    exact this
  have C1 : Rb (((w.alloc (.cells #[.int .i64 a0, .slice A0 x0.length c0] 24)).alloc (.cells #[.int .i64 a1, .slice A1 x1.length c1] 24)).alloc (.cells #[.int .i64 a3, .int .i64 b3] 26)) (w.heap.size + 1) a1 A1 x1.length c1 := by
    have := ((ax_new (w.alloc (.cells #[.int .i64 a0, .slice A0 x0.length c0] 24)) a1 A1 x1.length c1).old (.cells #[.int .i64 a3, .int .i64 b3] 26)).rb
    rw [show (w.alloc (.cells #[.int .i64 a0, .slice A0 x0.length c0] 24)).heap.size = w.heap.size + 1 by simp] at this
    exact this
  have C3 : Ib (((w.alloc (.cells #[.int .i64 a0, .slice A0 x0.length c0] 24)).alloc (.cells #[.int .i64 a1, .slice A1 x1.length c1] 24)).alloc (.cells #[.int .i64 a3, .int .i64 b3] 26)) (w.heap.size + 1 + 1) a3 b3 := by
    have := (ix_new ((w.alloc (.cells #[.int .i64 a0, .slice A0 x0.length c0] 24)).alloc (.cells #[.int .i64 a1, .slice A1 x1.length c1] 24)) a3 b3).ib
    rw [show ((w.alloc (.cells #[.int .i64 a0, .slice A0 x0.length c0] 24)).alloc (.cells #[.int .i64 a1, .slice A1 x1.length c1] 24)).heap.size = w.heap.size + 1 + 1 by simp] at this
    exact this
  have X0 := s0.to BW BW.size
  have X1 := s1.to BW BW.size
  generalize (((w.alloc (.cells #[.int .i64 a0, .slice A0 x0.length c0] 24)).alloc (.cells #[.int .i64 a1, .slice A1 x1.length c1] 24)).alloc (.cells #[.int .i64 a3, .int .i64 b3] 26)) = W0 at *
  refine (awake_any W0).mono ?_
  rintro e w1 ⟨rfl, B1⟩
  have q1 := B1.size
  have B01 := B1
  obtain ⟨p0, r0⟩ := C0.on B01 (by omega)
  obtain ⟨p1, r1⟩ := C1.on B01 (by omega)
  obtain ⟨p3, r3⟩ := C3.on B01 (by omega)
  go_wp2_with fail
  clear p0 r0 p1 r1 p3 r3
  refine (F0 _).out.mono ?_
  rintro e w2 ⟨rfl, B2⟩
  have q2 := B2.size
  have B02 := B01.trans (B2.mono (by omega))
  obtain ⟨p0, r0⟩ := C0.on B02 (by omega)
  obtain ⟨p1, r1⟩ := C1.on B02 (by omega)
  obtain ⟨p3, r3⟩ := C3.on B02 (by omega)
  go_wp2_with fail
  clear p0 r0 p1 r1 p3 r3
  refine (F1 _).out.mono ?_
  rintro e w3 ⟨rfl, B3⟩
  have q3 := B3.size
  have B03 := B02.trans (B3.mono (by omega))
  have BE := BW.trans (B03.mono BW.size)
  cases f0
  · go_wp2
    go_ret
    exact ⟨rfl, BE⟩
  cases f1
  · go_wp2
    go_ret
    exact ⟨rfl, BE⟩
  clear F0 F1
  have D0 := C0.on B03 (by omega)
  have D1 := C1.on B03 (by omega)
  have D3 := C3.on B03 (by omega)
  have Y0 := X0.up B03
  have Y1 := X1.up B03
  clear C0 C1 C3 X0 X1 B1 B2 B3 B01 B02 s0 s1
  have C0 := D0
  have C1 := D1
  have C3 := D3
  clear D0 D1 D3
  have z0 : w.heap.size < w3.heap.size := by omega
  have z1 : w.heap.size + 1 < w3.heap.size := by omega
  have z3 : w.heap.size + 1 + 1 < w3.heap.size := by omega
  have S0 : Rb w3 (w.heap.size) a0 A0 x0.length c0 ∧ Rb w3 (w.heap.size + 1) a1 A1 x1.length c1 ∧ Ib w3 (w.heap.size + 1 + 1) a3 b3 ∧ Below w3.heap.size w3 w3 := ⟨C0, C1, C3, Below.refl _ _⟩
  have KB : ∀ v v', Below w3.heap.size v v' → (Rb v (w.heap.size) a0 A0 x0.length c0 ∧ Rb v (w.heap.size + 1) a1 A1 x1.length c1 ∧ Ib v (w.heap.size + 1 + 1) a3 b3 ∧ Below w3.heap.size w3 v) → (Rb v' (w.heap.size) a0 A0 x0.length c0 ∧ Rb v' (w.heap.size + 1) a1 A1 x1.length c1 ∧ Ib v' (w.heap.size + 1 + 1) a3 b3 ∧ Below w3.heap.size w3 v') := fun v v' hb hS => ⟨hS.1.on (hb) z0, hS.2.1.on (hb) z1, hS.2.2.1.on (hb) z3, hS.2.2.2.trans (hb)⟩
  have KD : Hid (∀ v, (Rb v (w.heap.size) a0 A0 x0.length c0 ∧ Rb v (w.heap.size + 1) a1 A1 x1.length c1 ∧ Ib v (w.heap.size + 1 + 1) a3 b3 ∧ Below w3.heap.size w3 v) → (Rb v.drew (w.heap.size) a0 A0 x0.length c0 ∧ Rb v.drew (w.heap.size + 1) a1 A1 x1.length c1 ∧ Ib v.drew (w.heap.size + 1 + 1) a3 b3 ∧ Below w3.heap.size w3 v.drew)) := fun v hS => KB _ _ (Below.refl _ _).drew hS
  have KA : Hid (∀ v o, (Rb v (w.heap.size) a0 A0 x0.length c0 ∧ Rb v (w.heap.size + 1) a1 A1 x1.length c1 ∧ Ib v (w.heap.size + 1 + 1) a3 b3 ∧ Below w3.heap.size w3 v) → (Rb (v.alloc o) (w.heap.size) a0 A0 x0.length c0 ∧ Rb (v.alloc o) (w.heap.size + 1) a1 A1 x1.length c1 ∧ Ib (v.alloc o) (w.heap.size + 1 + 1) a3 b3 ∧ Below w3.heap.size w3 (v.alloc o))) := fun v o hS => KB _ _ ((Below.refl _ _).alloc hS.2.2.2.size o) hS
  have KS : Hid (∀ v v', Below v.heap.size v v' → (Rb v (w.heap.size) a0 A0 x0.length c0 ∧ Rb v (w.heap.size + 1) a1 A1 x1.length c1 ∧ Ib v (w.heap.size + 1 + 1) a3 b3 ∧ Below w3.heap.size w3 v) → (Rb v' (w.heap.size) a0 A0 x0.length c0 ∧ Rb v' (w.heap.size + 1) a1 A1 x1.length c1 ∧ Ib v' (w.heap.size + 1 + 1) a3 b3 ∧ Below w3.heap.size w3 v')) := fun v v' hb hS => KB _ _ (hb.mono hS.2.2.2.size) hS
  clear KB
  have GHM : ∀ W, (Rb W (w.heap.size) a0 A0 x0.length c0 ∧ Rb W (w.heap.size + 1) a1 A1 x1.length c1 ∧ Ib W (w.heap.size + 1 + 1) a3 b3 ∧ Below w3.heap.size w3 W) → Hid (Calls Try.prog 11 #[.agg #[.int .i64 a0, .slice A0 x0.length c0], .int .i64 a2] W (BoolPost W m)) := fun W hS => HM rfl rfl W (Y0.up hS.2.2.2)
  have GRM : ∀ W, (Rb W (w.heap.size) a0 A0 x0.length c0 ∧ Rb W (w.heap.size + 1) a1 A1 x1.length c1 ∧ Ib W (w.heap.size + 1 + 1) a3 b3 ∧ Below w3.heap.size w3 W) → Hid (Calls Try.prog 12 #[.agg #[.int .i64 a0, .slice A0 x0.length c0], .int .i64 a2] W (BoolPost W m)) := fun W hS => RM rfl rfl W (Y0.up hS.2.2.2)
  have GHS : ∀ W, (Rb W (w.heap.size) a0 A0 x0.length c0 ∧ Rb W (w.heap.size + 1) a1 A1 x1.length c1 ∧ Ib W (w.heap.size + 1 + 1) a3 b3 ∧ Below w3.heap.size w3 W) → Hid (Calls Try.prog 13 #[.agg #[.int .i64 a0, .slice A0 x0.length c0], .agg #[.int .i64 a1, .slice A1 x1.length c1]] W (BoolPost W s)) := fun W hS => HS rfl rfl W (Y0.up hS.2.2.2) (Y1.up hS.2.2.2)
  have GRS : ∀ W, (Rb W (w.heap.size) a0 A0 x0.length c0 ∧ Rb W (w.heap.size + 1) a1 A1 x1.length c1 ∧ Ib W (w.heap.size + 1 + 1) a3 b3 ∧ Below w3.heap.size w3 W) → Hid (Calls Try.prog 14 #[.agg #[.int .i64 a0, .slice A0 x0.length c0], .agg #[.int .i64 a1, .slice A1 x1.length c1]] W (BoolPost W s)) := fun W hS => RS rfl rfl W (Y0.up hS.2.2.2) (Y1.up hS.2.2.2)
  have GHW : ∀ W, (Rb W (w.heap.size) a0 A0 x0.length c0 ∧ Rb W (w.heap.size + 1) a1 A1 x1.length c1 ∧ Ib W (w.heap.size + 1 + 1) a3 b3 ∧ Below w3.heap.size w3 W) → Hid (Calls Try.prog 15 #[.agg #[.int .i64 a0, .slice A0 x0.length c0], .agg #[.int .i64 a1, .slice A1 x1.length c1]] W (BoolPost W v)) := fun W hS => HW rfl rfl W (Y0.up hS.2.2.2) (Y1.up hS.2.2.2)
  have GRW : ∀ W, (Rb W (w.heap.size) a0 A0 x0.length c0 ∧ Rb W (w.heap.size + 1) a1 A1 x1.length c1 ∧ Ib W (w.heap.size + 1 + 1) a3 b3 ∧ Below w3.heap.size w3 W) → Hid (Calls Try.prog 16 #[.agg #[.int .i64 a0, .slice A0 x0.length c0], .agg #[.int .i64 a1, .slice A1 x1.length c1]] W (BoolPost W v)) := fun W hS => RW rfl rfl W (Y0.up hS.2.2.2) (Y1.up hS.2.2.2)
  have GHT : ∀ W, (Rb W (w.heap.size) a0 A0 x0.length c0 ∧ Rb W (w.heap.size + 1) a1 A1 x1.length c1 ∧ Ib W (w.heap.size + 1 + 1) a3 b3 ∧ Below w3.heap.size w3 W) → Hid (Calls Try.prog 17 #[.agg #[.int .i64 a0, .slice A0 x0.length c0], .agg #[.int .i64 a3, .int .i64 b3]] W (BoolPost W t)) := fun W hS => HT rfl rfl W (Y0.up hS.2.2.2)
  have GRT : ∀ W, (Rb W (w.heap.size) a0 A0 x0.length c0 ∧ Rb W (w.heap.size + 1) a1 A1 x1.length c1 ∧ Ib W (w.heap.size + 1 + 1) a3 b3 ∧ Below w3.heap.size w3 W) → Hid (Calls Try.prog 18 #[.agg #[.int .i64 a0, .slice A0 x0.length c0], .agg #[.int .i64 a3, .int .i64 b3]] W (BoolPost W t)) := fun W hS => RT rfl rfl W (Y0.up hS.2.2.2)
  clear HM RM HS RS HW RW HT RT Y0 Y1
  obtain ⟨p0, r0⟩ := id C0
  obtain ⟨p1, r1⟩ := id C1
  obtain ⟨p3, r3⟩ := id C3
  clear C0 C1 C3
  go_wp2_with fail
  go_region_held3 (fun v => (v.cell? ⟨w.heap.size, 0, none⟩ = some (.int .i64 a0) ∧ v.cell? ⟨w.heap.size, 1, none⟩ = some (.slice A0 x0.length c0)) ∧ (v.cell? ⟨w.heap.size + 1, 0, none⟩ = some (.int .i64 a1) ∧ v.cell? ⟨w.heap.size + 1, 1, none⟩ = some (.slice A1 x1.length c1)) ∧ (v.cell? ⟨w.heap.size + 1 + 1, 0, none⟩ = some (.int .i64 a3) ∧ v.cell? ⟨w.heap.size + 1 + 1, 1, none⟩ = some (.int .i64 b3)) ∧ Below w3.heap.size w3 v)
        (first | (exact S0) | (exact KD.out _ S0) | (refine KS.out _ _ hbRT ?_; first | assumption | exact KD.out _ S0) | (refine KS.out _ _ hbHT ?_; first | assumption | exact KD.out _ S0) | (refine KS.out _ _ hbRW ?_; first | assumption | exact KD.out _ S0) | (refine KS.out _ _ hbHW ?_; first | assumption | exact KD.out _ S0) | (refine KS.out _ _ hbRS ?_; first | assumption | exact KD.out _ S0) | (refine KS.out _ _ hbHS ?_; first | assumption | exact KD.out _ S0) | (refine KS.out _ _ hbRM ?_; first | assumption | exact KD.out _ S0) | (refine KS.out _ _ hbHM ?_; first | assumption | exact KD.out _ S0) | (refine KD.out _ ?_; assumption))
        (first | (go_at_call 11; (with_reducible refine (GHM _ ?_).out.mono ?_); (focus (first | assumption | exact KD.out _ S0)); rintro e wqHM ⟨rfl, hbHM⟩) | (go_at_call 12; (with_reducible refine (GRM _ ?_).out.mono ?_); (focus (first | assumption | exact KD.out _ S0)); rintro e wqRM ⟨rfl, hbRM⟩) | (go_at_call 13; (with_reducible refine (GHS _ ?_).out.mono ?_); (focus (first | assumption | exact KD.out _ S0)); rintro e wqHS ⟨rfl, hbHS⟩) | (go_at_call 14; (with_reducible refine (GRS _ ?_).out.mono ?_); (focus (first | assumption | exact KD.out _ S0)); rintro e wqRS ⟨rfl, hbRS⟩) | (go_at_call 15; (with_reducible refine (GHW _ ?_).out.mono ?_); (focus (first | assumption | exact KD.out _ S0)); rintro e wqHW ⟨rfl, hbHW⟩) | (go_at_call 16; (with_reducible refine (GRW _ ?_).out.mono ?_); (focus (first | assumption | exact KD.out _ S0)); rintro e wqRW ⟨rfl, hbRW⟩) | (go_at_call 17; (with_reducible refine (GHT _ ?_).out.mono ?_); (focus (first | assumption | exact KD.out _ S0)); rintro e wqHT ⟨rfl, hbHT⟩) | (go_at_call 18; (with_reducible refine (GRT _ ?_).out.mono ?_); (focus (first | assumption | exact KD.out _ S0)); rintro e wqRT ⟨rfl, hbRT⟩))
  rename_i hSx
  have BX := BE.trans (hSx.2.2.2.mono (by omega))
  go_wp2
  go_ret
  exact ⟨rfl, BX⟩

theorem walk (a0 : Int) (A0 : Option Addr) (c0 : Nat) (x0 : List Int) (a1 : Int) (A1 : Option Addr) (c1 : Nat) (x1 : List Int) (a2 : Int) (a3 b3 : Int) (w : World) (s0 : Sl w w.heap.size .i64 A0 x0) (s1 : Sl w w.heap.size .i64 A1 x1) (w2 : a2 ≤ 9223372036854775807) (w3 : a3 ≤ 9223372036854775807) (v3 : b3 ≤ 9223372036854775807) : Calls Try.prog 3 #[.agg #[.int .i64 a0, .slice A0 x0.length c0], .agg #[.int .i64 a1, .slice A1 x1.length c1], .int .i64 a2, .agg #[.int .i64 a3, .int .i64 b3]] w (UpPost w) :=
  rest (my a0 x0 a2) (sa a0 x0 a1 x1) (wi a0 x0 a1 x1) (wt x0 a3 b3) _ _ a0 A0 c0 x0 a1 A1 c1 x1 a2 a3 b3 w s0 s1 w2 w3 v3 (fun W => few_any a0 A0 x0.length c0 W) (fun W => few_any a1 A1 x1.length c1 W)
    (fun _ _ W e0 => may_any a0 A0 c0 x0 a2 W e0) (fun _ _ W e0 => rmay_any a0 A0 c0 x0 a2 W e0)
    (fun h0 h1 W e0 e1 => same_any a0 a1 A0 A1 c0 c1 x0 x1 W e0 e1 (by have := of_decide_eq_true h0; omega) (by have := of_decide_eq_true h1; omega)) (fun h0 h1 W e0 e1 => rsame_any a0 a1 A0 A1 c0 c1 x0 x1 W e0 e1 (by have := of_decide_eq_true h0; omega) (by have := of_decide_eq_true h1; omega)) (fun h0 h1 W e0 e1 => within_any a0 a1 A0 A1 c0 c1 x0 x1 W e0 e1 (by have := of_decide_eq_true h0; omega) (by have := of_decide_eq_true h1; omega)) (fun h0 h1 W e0 e1 => rwithin_any a0 a1 A0 A1 c0 c1 x0 x1 W e0 e1 (by have := of_decide_eq_true h0; omega) (by have := of_decide_eq_true h1; omega))
    (fun _ _ W e0 => waits_any a0 a3 b3 A0 c0 x0 W e0 w3) (fun _ _ W e0 => rwaits_any a0 a3 b3 A0 c0 x0 W e0 w3)

theorem own : ownKnob Try.prog.godebug = none := by kernel_rfl
theorem laidOut : laidOutB Try.prog = true := by kernel_rfl

set_option maxRecDepth 100000 in
theorem lifted (os : Os) (started : os.Started) (H : Type) (enc : TypeId × Value → H) :
    ReturnsInHanded {} Try.checked os 3 .any (Rows.attrTellsSpec.pre6 enc Try.prog Try.f3 Rows.attrTellsRow.domain false) (Rows.attrTellsSpec.post enc Try.prog Try.f3 false true false false) := by
  refine returnsInHanded_of_change (C := Try.checked) own started (by kernel_rfl) Try.func3
    (ChangeSpec.witness6 (enc := enc) (C := Try.checked) false ⟨#[], #[.agg #[.int .i64 0, .slice none 0 0], .agg #[.int .i64 0, .slice none 0 0], .int .i64 0, .agg #[.int .i64 0, .int .i64 0]], []⟩ 8 (by kernel_rfl) (by kernel_rfl) (by kernel_rfl) (by kernel_rfl)) ?_
  intro W base args ds gs before hval0 hW hcnd _
  have hval : ∀ (j : Nat) t v, Try.f3.params[j]? = some t → args[j]? = some v → Value.okWide Try.prog W .any base t v := hval0
  have hW' := hW
  obtain ⟨p, q, hA, hV, rfl, hfz, hnd⟩ := hW
  have hA : DataW.TrodAll enc Try.prog W 0 (fun _ => true) true Try.f3.params.toList args.toList ds p := hA
  rw [Try.params3] at hA hval
  obtain ⟨v0, vs0, d0, ds0, p0, q0, hargs, rfl, rfl, h0, r0⟩ := trodAll_cons hA
  obtain ⟨v1, vs1, d1, ds1, p1, q1, rfl, rfl, rfl, h1, r1⟩ := trodAll_cons r0
  obtain ⟨v2, vs2, d2, ds2, p2, q2, rfl, rfl, rfl, h2, r2⟩ := trodAll_cons r1
  obtain ⟨v3, vs3, d3, ds3, p3, q3, rfl, rfl, rfl, h3, r3⟩ := trodAll_cons r2
  obtain ⟨rfl, rfl, rfl⟩ := trodAll_nil r3
  obtain rfl : args = #[v0, v1, v2, v3] := by cases args; simp_all
  obtain ⟨rfl, rfl⟩ := trodVars_none hV
  have k0 := h0
  have lt0 : ∀ x ∈ p0, x.block < W.heap.size := by obtain ⟨m, hm⟩ := k0; exact DataW.trod_lt m _ _ _ hm
  obtain ⟨a0, A0, c0, x0, rfl, s0⟩ := open_attr (hval 0 24 v0 rfl rfl) h0
  have k1 := h1
  have lt1 : ∀ x ∈ p1, x.block < W.heap.size := by obtain ⟨m, hm⟩ := k1; exact DataW.trod_lt m _ _ _ hm
  obtain ⟨a1, A1, c1, x1, rfl, s1⟩ := open_attr (hval 1 24 v1 rfl rfl) h1
  obtain ⟨a2, rfl, rfl, rfl, w2⟩ := open_int Try.underlying3 (hval 2 3 v2 rfl rfl) h2
  have k3 := h3
  have lt3 : ∀ x ∈ p3, x.block < W.heap.size := by obtain ⟨m, hm⟩ := k3; exact DataW.trod_lt m _ _ _ hm
  obtain ⟨a3, b3, rfl, w3, v3⟩ := open_inst (hval 3 26 v3 rfl rfl) h3
  clear hval0
  refine (walk a0 A0 c0 x0 a1 A1 c1 x1 a2 a3 b3 W s0 s1 (int_of w2).2 w3 v3).mono fun e W' ⟨he, bel⟩ => ?_
  subst he
  exact ⟨_, rfl, _, _, _, [], _, [], hW', trodAll_mk1 (shut_bool Try.underlying4 _), (trodAll_cons_mk (Below.trod laidOut (by kernel_rfl) (of_decide_eq_true (by kernel_rfl)) k0 bel lt0) (trodAll_cons_mk (Below.trod laidOut (by kernel_rfl) (of_decide_eq_true (by kernel_rfl)) k1 bel lt1) (trodAll_cons_mk (shut_int Try.underlying3 w2) (trodAll_cons_mk (Below.trod laidOut (by kernel_rfl) (of_decide_eq_true (by kernel_rfl)) k3 bel lt3) trodAll_mk0)))), rfl, bel.frame _, fun h => by cases h⟩

theorem over : Rows.attrTellsRow.holds Try.pinned (OpenSpec.ofChange Rows.attrTellsSpec) :=
  OpenClaim.holds_of_wide 3 Try.f3 rfl rfl rfl rfl rfl rfl rfl ⟨rfl, rfl, rfl, rfl, rfl⟩ rfl rfl rfl rfl rfl (by kernel_rfl) Try.func3 (by kernel_rfl)
    (of_decide_eq_true (by kernel_rfl)) (by unfold Func.isWrapper; first | (rw [if_pos (by decide +kernel)]; kernel_rfl) | (rw [if_neg (by decide +kernel)]; exact ⟨rfl, rfl⟩))
    (fun os started H enc _ => lifted os started H enc)

theorem proved : Rows.AttrTellsSaid := over
#print axioms proved
end Go.Proofs.Ytiedagbboednkaa.attrTells
