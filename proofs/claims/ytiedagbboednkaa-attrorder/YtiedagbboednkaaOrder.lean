/-
  To be within is an order: of itself, of three, and two that are within each other are the same: AttrOrder answers true whatever the three attributes; they read as they did. Conditions: none.
-/
import Derived.Test.YtiedagbboednkaaOpen
import Derived.Deep.RegionLaw
import Derived.Deep.AppendLies
namespace Go.Proofs.Ytiedagbboednkaa.attrOrder
open Go.ChangeShapes Go.WideShapes Go.ChangeAt Go.RowKit
set_option linter.unusedVariables false
set_option linter.unusedSimpArgs false

set_option maxHeartbeats 4000000 in
theorem rest (u v z y : Bool) (a0 : Int) (A0 : Option Addr) (c0 : Nat) (x0 : List Int) (a1 : Int) (A1 : Option Addr) (c1 : Nat) (x1 : List Int) (a2 : Int) (A2 : Option Addr) (c2 : Nat) (x2 : List Int) (w : World) (s0 : Sl w w.heap.size .i64 A0 x0) (s1 : Sl w w.heap.size .i64 A1 x1) (s2 : Sl w w.heap.size .i64 A2 x2) (f0 f1 f2 : Bool) (hz : u = true → v = true → z = true)
    (F0 : ∀ W, Hid (Calls Try.prog 10 #[.agg #[.int .i64 a0, .slice A0 x0.length c0]] W (BoolPost W f0))) (F1 : ∀ W, Hid (Calls Try.prog 10 #[.agg #[.int .i64 a1, .slice A1 x1.length c1]] W (BoolPost W f1))) (F2 : ∀ W, Hid (Calls Try.prog 10 #[.agg #[.int .i64 a2, .slice A2 x2.length c2]] W (BoolPost W f2)))
    (HAA : f0 = true → f1 = true → f2 = true → ∀ W, Sl W W.heap.size .i64 A0 x0 → Sl W W.heap.size .i64 A0 x0 → Hid (Calls Try.prog 15 #[.agg #[.int .i64 a0, .slice A0 x0.length c0], .agg #[.int .i64 a0, .slice A0 x0.length c0]] W (BoolPost W true))) (HAB : f0 = true → f1 = true → f2 = true → ∀ W, Sl W W.heap.size .i64 A0 x0 → Sl W W.heap.size .i64 A1 x1 → Hid (Calls Try.prog 15 #[.agg #[.int .i64 a0, .slice A0 x0.length c0], .agg #[.int .i64 a1, .slice A1 x1.length c1]] W (BoolPost W u))) (HBC : f0 = true → f1 = true → f2 = true → ∀ W, Sl W W.heap.size .i64 A1 x1 → Sl W W.heap.size .i64 A2 x2 → Hid (Calls Try.prog 15 #[.agg #[.int .i64 a1, .slice A1 x1.length c1], .agg #[.int .i64 a2, .slice A2 x2.length c2]] W (BoolPost W v))) (HAC : f0 = true → f1 = true → f2 = true → ∀ W, Sl W W.heap.size .i64 A0 x0 → Sl W W.heap.size .i64 A2 x2 → Hid (Calls Try.prog 15 #[.agg #[.int .i64 a0, .slice A0 x0.length c0], .agg #[.int .i64 a2, .slice A2 x2.length c2]] W (BoolPost W z))) (HBA : f0 = true → f1 = true → f2 = true → ∀ W, Sl W W.heap.size .i64 A1 x1 → Sl W W.heap.size .i64 A0 x0 → Hid (Calls Try.prog 15 #[.agg #[.int .i64 a1, .slice A1 x1.length c1], .agg #[.int .i64 a0, .slice A0 x0.length c0]] W (BoolPost W y)))
    (HSA : f0 = true → f1 = true → f2 = true → ∀ W, Sl W W.heap.size .i64 A0 x0 → Sl W W.heap.size .i64 A1 x1 → Hid (Calls Try.prog 13 #[.agg #[.int .i64 a0, .slice A0 x0.length c0], .agg #[.int .i64 a1, .slice A1 x1.length c1]] W (BoolPost W (u && y)))) :
    Calls Try.prog 7 #[.agg #[.int .i64 a0, .slice A0 x0.length c0], .agg #[.int .i64 a1, .slice A1 x1.length c1], .agg #[.int .i64 a2, .slice A2 x2.length c2]] w (UpPost w) := by
  go_enter Try.func7, Try.ntmps7
  go_wp2_with fail
  have BW : Below w.heap.size w (((w.alloc (.cells #[.int .i64 a0, .slice A0 x0.length c0] 24)).alloc (.cells #[.int .i64 a1, .slice A1 x1.length c1] 24)).alloc (.cells #[.int .i64 a2, .slice A2 x2.length c2] 24)) := (((Below.refl _ _).alloc (Nat.le_refl _) _).alloc (by simp) _).alloc (by simp; omega) _
  have Z0 : (((w.alloc (.cells #[.int .i64 a0, .slice A0 x0.length c0] 24)).alloc (.cells #[.int .i64 a1, .slice A1 x1.length c1] 24)).alloc (.cells #[.int .i64 a2, .slice A2 x2.length c2] 24)).heap.size = w.heap.size + 1 + 1 + 1 := by simp
  have C0 : Rb (((w.alloc (.cells #[.int .i64 a0, .slice A0 x0.length c0] 24)).alloc (.cells #[.int .i64 a1, .slice A1 x1.length c1] 24)).alloc (.cells #[.int .i64 a2, .slice A2 x2.length c2] 24)) (w.heap.size) a0 A0 x0.length c0 := by
    have := (((ax_new w a0 A0 x0.length c0).old (.cells #[.int .i64 a1, .slice A1 x1.length c1] 24)).old (.cells #[.int .i64 a2, .slice A2 x2.length c2] 24)).rb
    exact this
  have C1 : Rb (((w.alloc (.cells #[.int .i64 a0, .slice A0 x0.length c0] 24)).alloc (.cells #[.int .i64 a1, .slice A1 x1.length c1] 24)).alloc (.cells #[.int .i64 a2, .slice A2 x2.length c2] 24)) (w.heap.size + 1) a1 A1 x1.length c1 := by
    have := ((ax_new (w.alloc (.cells #[.int .i64 a0, .slice A0 x0.length c0] 24)) a1 A1 x1.length c1).old (.cells #[.int .i64 a2, .slice A2 x2.length c2] 24)).rb
    rw [show (w.alloc (.cells #[.int .i64 a0, .slice A0 x0.length c0] 24)).heap.size = w.heap.size + 1 by simp] at this
    exact this
  have C2 : Rb (((w.alloc (.cells #[.int .i64 a0, .slice A0 x0.length c0] 24)).alloc (.cells #[.int .i64 a1, .slice A1 x1.length c1] 24)).alloc (.cells #[.int .i64 a2, .slice A2 x2.length c2] 24)) (w.heap.size + 1 + 1) a2 A2 x2.length c2 := by
    have := (ax_new ((w.alloc (.cells #[.int .i64 a0, .slice A0 x0.length c0] 24)).alloc (.cells #[.int .i64 a1, .slice A1 x1.length c1] 24)) a2 A2 x2.length c2).rb
    rw [show ((w.alloc (.cells #[.int .i64 a0, .slice A0 x0.length c0] 24)).alloc (.cells #[.int .i64 a1, .slice A1 x1.length c1] 24)).heap.size = w.heap.size + 1 + 1 by simp] at this
    exact this
  have X0 := s0.to BW BW.size
  have X1 := s1.to BW BW.size
  have X2 := s2.to BW BW.size
  generalize (((w.alloc (.cells #[.int .i64 a0, .slice A0 x0.length c0] 24)).alloc (.cells #[.int .i64 a1, .slice A1 x1.length c1] 24)).alloc (.cells #[.int .i64 a2, .slice A2 x2.length c2] 24)) = W0 at *
  refine (awake_any W0).mono ?_
  rintro e w1 ⟨rfl, B1⟩
  have q1 := B1.size
  have B01 := B1
  obtain ⟨p0, r0⟩ := C0.on B01 (by omega)
  obtain ⟨p1, r1⟩ := C1.on B01 (by omega)
  obtain ⟨p2, r2⟩ := C2.on B01 (by omega)
  go_wp2_with fail
  clear p0 r0 p1 r1 p2 r2
  refine (F0 _).out.mono ?_
  rintro e w2 ⟨rfl, B2⟩
  have q2 := B2.size
  have B02 := B01.trans (B2.mono (by omega))
  obtain ⟨p0, r0⟩ := C0.on B02 (by omega)
  obtain ⟨p1, r1⟩ := C1.on B02 (by omega)
  obtain ⟨p2, r2⟩ := C2.on B02 (by omega)
  go_wp2_with fail
  clear p0 r0 p1 r1 p2 r2
  refine (F1 _).out.mono ?_
  rintro e w3 ⟨rfl, B3⟩
  have q3 := B3.size
  have B03 := B02.trans (B3.mono (by omega))
  obtain ⟨p0, r0⟩ := C0.on B03 (by omega)
  obtain ⟨p1, r1⟩ := C1.on B03 (by omega)
  obtain ⟨p2, r2⟩ := C2.on B03 (by omega)
  go_wp2_with fail
  clear p0 r0 p1 r1 p2 r2
  refine (F2 _).out.mono ?_
  rintro e w4 ⟨rfl, B4⟩
  have q4 := B4.size
  have B04 := B03.trans (B4.mono (by omega))
  have BE := BW.trans (B04.mono BW.size)
  cases f0
  · go_wp2
    go_ret
    exact ⟨rfl, BE⟩
  cases f1
  · go_wp2
    go_ret
    exact ⟨rfl, BE⟩
  cases f2
  · go_wp2
    go_ret
    exact ⟨rfl, BE⟩
  have YAA := HAA rfl rfl rfl
  have YAB := HAB rfl rfl rfl
  have YBC := HBC rfl rfl rfl
  have YAC := HAC rfl rfl rfl
  have YBA := HBA rfl rfl rfl
  have YSA := HSA rfl rfl rfl
  clear HAA HAB HBC HAC HBA HSA F0 F1 F2 B2 B3 B4
  obtain ⟨p0, r0⟩ := C0.on B04 (by omega)
  obtain ⟨p1, r1⟩ := C1.on B04 (by omega)
  obtain ⟨p2, r2⟩ := C2.on B04 (by omega)
  go_wp2_with fail
  clear p0 r0 p1 r1 p2 r2
  refine (YAB _ (X0.up B04) (X1.up B04)).out.mono ?_
  rintro e w5 ⟨rfl, B5⟩
  have q5 := B5.size
  have B05 := B04.trans (B5.mono (by omega))
  obtain ⟨p0, r0⟩ := C0.on B05 (by omega)
  obtain ⟨p1, r1⟩ := C1.on B05 (by omega)
  obtain ⟨p2, r2⟩ := C2.on B05 (by omega)
  go_wp2_with fail
  clear p0 r0 p1 r1 p2 r2
  refine (YBC _ (X1.up B05) (X2.up B05)).out.mono ?_
  rintro e w6 ⟨rfl, B6⟩
  have q6 := B6.size
  have B06 := B05.trans (B6.mono (by omega))
  have BF := BW.trans (B06.mono BW.size)
  have D0 := C0.on B06 (by omega)
  have Y0 := X0.up B06
  have D1 := C1.on B06 (by omega)
  have Y1 := X1.up B06
  have D2 := C2.on B06 (by omega)
  have Y2 := X2.up B06
  clear C0 C1 C2 X0 X1 X2 B1 B5 B6 B01 B02 B03 B04 B05 s0 s1 s2
  have C0 := D0
  have C1 := D1
  have C2 := D2
  clear D0 D1 D2
  have z0 : w.heap.size < w6.heap.size := by omega
  have z1 : w.heap.size + 1 < w6.heap.size := by omega
  have z2 : w.heap.size + 1 + 1 < w6.heap.size := by omega
  have S0 : Rb w6 (w.heap.size) a0 A0 x0.length c0 ∧ Rb w6 (w.heap.size + 1) a1 A1 x1.length c1 ∧ Rb w6 (w.heap.size + 1 + 1) a2 A2 x2.length c2 ∧ Below w6.heap.size w6 w6 := ⟨C0, C1, C2, Below.refl _ _⟩
  have KB : ∀ v v', Below w6.heap.size v v' → (Rb v (w.heap.size) a0 A0 x0.length c0 ∧ Rb v (w.heap.size + 1) a1 A1 x1.length c1 ∧ Rb v (w.heap.size + 1 + 1) a2 A2 x2.length c2 ∧ Below w6.heap.size w6 v) → (Rb v' (w.heap.size) a0 A0 x0.length c0 ∧ Rb v' (w.heap.size + 1) a1 A1 x1.length c1 ∧ Rb v' (w.heap.size + 1 + 1) a2 A2 x2.length c2 ∧ Below w6.heap.size w6 v') := fun v v' hb hS => ⟨hS.1.on (hb) z0, hS.2.1.on (hb) z1, hS.2.2.1.on (hb) z2, hS.2.2.2.trans (hb)⟩
  have KD : Hid (∀ v, (Rb v (w.heap.size) a0 A0 x0.length c0 ∧ Rb v (w.heap.size + 1) a1 A1 x1.length c1 ∧ Rb v (w.heap.size + 1 + 1) a2 A2 x2.length c2 ∧ Below w6.heap.size w6 v) → (Rb v.drew (w.heap.size) a0 A0 x0.length c0 ∧ Rb v.drew (w.heap.size + 1) a1 A1 x1.length c1 ∧ Rb v.drew (w.heap.size + 1 + 1) a2 A2 x2.length c2 ∧ Below w6.heap.size w6 v.drew)) := fun v hS => KB _ _ (Below.refl _ _).drew hS
  have KA : Hid (∀ v o, (Rb v (w.heap.size) a0 A0 x0.length c0 ∧ Rb v (w.heap.size + 1) a1 A1 x1.length c1 ∧ Rb v (w.heap.size + 1 + 1) a2 A2 x2.length c2 ∧ Below w6.heap.size w6 v) → (Rb (v.alloc o) (w.heap.size) a0 A0 x0.length c0 ∧ Rb (v.alloc o) (w.heap.size + 1) a1 A1 x1.length c1 ∧ Rb (v.alloc o) (w.heap.size + 1 + 1) a2 A2 x2.length c2 ∧ Below w6.heap.size w6 (v.alloc o))) := fun v o hS => KB _ _ ((Below.refl _ _).alloc hS.2.2.2.size o) hS
  have KS : Hid (∀ v v', Below v.heap.size v v' → (Rb v (w.heap.size) a0 A0 x0.length c0 ∧ Rb v (w.heap.size + 1) a1 A1 x1.length c1 ∧ Rb v (w.heap.size + 1 + 1) a2 A2 x2.length c2 ∧ Below w6.heap.size w6 v) → (Rb v' (w.heap.size) a0 A0 x0.length c0 ∧ Rb v' (w.heap.size + 1) a1 A1 x1.length c1 ∧ Rb v' (w.heap.size + 1 + 1) a2 A2 x2.length c2 ∧ Below w6.heap.size w6 v')) := fun v v' hb hS => KB _ _ (hb.mono hS.2.2.2.size) hS
  clear KB
  have GAA : ∀ W, (Rb W (w.heap.size) a0 A0 x0.length c0 ∧ Rb W (w.heap.size + 1) a1 A1 x1.length c1 ∧ Rb W (w.heap.size + 1 + 1) a2 A2 x2.length c2 ∧ Below w6.heap.size w6 W) → Hid (Calls Try.prog 15 #[.agg #[.int .i64 a0, .slice A0 x0.length c0], .agg #[.int .i64 a0, .slice A0 x0.length c0]] W (BoolPost W true)) := fun W hS => YAA W (Y0.up hS.2.2.2) (Y0.up hS.2.2.2)
  have GAC : ∀ W, (Rb W (w.heap.size) a0 A0 x0.length c0 ∧ Rb W (w.heap.size + 1) a1 A1 x1.length c1 ∧ Rb W (w.heap.size + 1 + 1) a2 A2 x2.length c2 ∧ Below w6.heap.size w6 W) → Hid (Calls Try.prog 15 #[.agg #[.int .i64 a0, .slice A0 x0.length c0], .agg #[.int .i64 a2, .slice A2 x2.length c2]] W (BoolPost W z)) := fun W hS => YAC W (Y0.up hS.2.2.2) (Y2.up hS.2.2.2)
  have GBA : ∀ W, (Rb W (w.heap.size) a0 A0 x0.length c0 ∧ Rb W (w.heap.size + 1) a1 A1 x1.length c1 ∧ Rb W (w.heap.size + 1 + 1) a2 A2 x2.length c2 ∧ Below w6.heap.size w6 W) → Hid (Calls Try.prog 15 #[.agg #[.int .i64 a1, .slice A1 x1.length c1], .agg #[.int .i64 a0, .slice A0 x0.length c0]] W (BoolPost W y)) := fun W hS => YBA W (Y1.up hS.2.2.2) (Y0.up hS.2.2.2)
  have GSA : ∀ W, (Rb W (w.heap.size) a0 A0 x0.length c0 ∧ Rb W (w.heap.size + 1) a1 A1 x1.length c1 ∧ Rb W (w.heap.size + 1 + 1) a2 A2 x2.length c2 ∧ Below w6.heap.size w6 W) → Hid (Calls Try.prog 13 #[.agg #[.int .i64 a0, .slice A0 x0.length c0], .agg #[.int .i64 a1, .slice A1 x1.length c1]] W (BoolPost W (u && y))) := fun W hS => YSA W (Y0.up hS.2.2.2) (Y1.up hS.2.2.2)
  clear YAA YAB YBC YAC YBA YSA Y0 Y1 Y2
  obtain ⟨p0, r0⟩ := id C0
  obtain ⟨p1, r1⟩ := id C1
  obtain ⟨p2, r2⟩ := id C2
  clear C0 C1 C2
  cases u
  · cases v
    · go_wp2_with fail
      refine wp_region_held_drew (S := fun v => (v.cell? ⟨w.heap.size, 0, none⟩ = some (.int .i64 a0) ∧ v.cell? ⟨w.heap.size, 1, none⟩ = some (.slice A0 x0.length c0)) ∧ (v.cell? ⟨w.heap.size + 1, 0, none⟩ = some (.int .i64 a1) ∧ v.cell? ⟨w.heap.size + 1, 1, none⟩ = some (.slice A1 x1.length c1)) ∧ (v.cell? ⟨w.heap.size + 1 + 1, 0, none⟩ = some (.int .i64 a2) ∧ v.cell? ⟨w.heap.size + 1 + 1, 1, none⟩ = some (.slice A2 x2.length c2)) ∧ Below w6.heap.size w6 v) (by kernel_rfl) (KD.out _ S0) (fun hH => ?_)
      refine wpAnyH_take (i := 0) (v := ?v1) rfl (by kernel_rfl) (by kernel_rfl) (by kernel_rfl) (fun _ _ _ h => h) (Or.inl ⟨by rfl, ?hy1⟩) hH ?rest1
      case hy1 => (intro w hSw; (try dsimp only at hSw); go_simp; try with_reducible rfl)
      try simp only [Act.put, List.setIfInBounds_toArray, List.set_cons_zero, List.set_cons_succ, List.getElem_toArray, List.getElem_cons_zero, List.getElem_cons_succ]
      refine wpAnyH_take (i := 1) (v := ?v2) rfl (by kernel_rfl) (by kernel_rfl) (by kernel_rfl) (fun _ _ _ h => h) (Or.inl ⟨by rfl, ?hy2⟩) hH ?rest2
      case hy2 => (intro w hSw; (try dsimp only at hSw); go_simp; try with_reducible rfl)
      try simp only [Act.put, List.setIfInBounds_toArray, List.set_cons_zero, List.set_cons_succ, List.getElem_toArray, List.getElem_cons_zero, List.getElem_cons_succ]
      refine wpAnyH_ready (rs := [2]) (by kernel_rfl) (by simp) ?_
      refine AllReadyH.cons rfl (fun K hK => ?_) AllReadyH.nil
      go_simp
      go_at_call 15
      have hGa := GAA _ hH
      with_reducible refine hGa.out.mono ?_
      clear hGa
      rintro e wqa ⟨rfl, hba⟩
      go_wp2_with fail
      refine hK.out _ _ (KS.out _ _ hba hH) (fun hH2 => ?_)
      clear hK K hH
      have hH := hH2
      clear hH2
      try simp only [Act.put, List.setIfInBounds_toArray, List.set_cons_zero, List.set_cons_succ, List.getElem_toArray, List.getElem_cons_zero, List.getElem_cons_succ]
      refine wpAnyH_take (i := 3) (v := ?v3) rfl (by kernel_rfl) (by kernel_rfl) (by kernel_rfl) (fun _ _ _ h => h) (Or.inl ⟨by rfl, ?hy3⟩) hH ?rest3
      case hy3 => (intro w hSw; (try dsimp only at hSw); go_simp; try with_reducible rfl)
      try simp only [Act.put, List.setIfInBounds_toArray, List.set_cons_zero, List.set_cons_succ, List.getElem_toArray, List.getElem_cons_zero, List.getElem_cons_succ]
      refine wpAnyH_take (i := 4) (v := ?v4) rfl (by kernel_rfl) (by kernel_rfl) (by kernel_rfl) (fun _ _ _ h => h) (Or.inl ⟨by rfl, ?hy4⟩) hH ?rest4
      case hy4 => (intro w hSw; (try dsimp only at hSw); go_simp; try with_reducible rfl)
      try simp only [Act.put, List.setIfInBounds_toArray, List.set_cons_zero, List.set_cons_succ, List.getElem_toArray, List.getElem_cons_zero, List.getElem_cons_succ]
      refine wpAnyH_take (i := 5) (v := ?v5) rfl (by kernel_rfl) (by kernel_rfl) (by kernel_rfl) (fun _ _ _ h => h) (Or.inl ⟨by rfl, ?hy5⟩) hH ?rest5
      case hy5 => (intro w hSw; (try dsimp only at hSw); go_simp; try with_reducible rfl)
      try simp only [Act.put, List.setIfInBounds_toArray, List.set_cons_zero, List.set_cons_succ, List.getElem_toArray, List.getElem_cons_zero, List.getElem_cons_succ]
      refine wpAnyH_take (i := 6) (v := ?v6) rfl (by kernel_rfl) (by kernel_rfl) (by kernel_rfl) (fun _ _ _ h => h) (Or.inl ⟨by rfl, ?hy6⟩) hH ?rest6
      case hy6 => (intro w hSw; (try dsimp only at hSw); go_simp; try with_reducible rfl)
      try simp only [Act.put, List.setIfInBounds_toArray, List.set_cons_zero, List.set_cons_succ, List.getElem_toArray, List.getElem_cons_zero, List.getElem_cons_succ]
      refine wpAnyH_take (i := 7) (v := undef) rfl (by kernel_rfl) (by kernel_rfl) (by kernel_rfl) (fun _ _ _ h => h) (Or.inr ⟨by rfl, rfl⟩) hH ?_
      try simp only [Act.put, List.setIfInBounds_toArray, List.set_cons_zero, List.set_cons_succ, List.getElem_toArray, List.getElem_cons_zero, List.getElem_cons_succ]
      refine wpAnyH_take (i := 8) (v := undef) rfl (by kernel_rfl) (by kernel_rfl) (by kernel_rfl) (fun _ _ _ h => h) (Or.inr ⟨by rfl, rfl⟩) hH ?_
      try simp only [Act.put, List.setIfInBounds_toArray, List.set_cons_zero, List.set_cons_succ, List.getElem_toArray, List.getElem_cons_zero, List.getElem_cons_succ]
      refine wpAnyH_take (i := 9) (v := ?v9) rfl (by kernel_rfl) (by kernel_rfl) (by kernel_rfl) (fun _ _ _ h => h) (Or.inl ⟨by rfl, ?hy9⟩) hH ?rest9
      case hy9 => (intro w hSw; (try dsimp only at hSw); go_simp; try with_reducible rfl)
      try simp only [Act.put, List.setIfInBounds_toArray, List.set_cons_zero, List.set_cons_succ, List.getElem_toArray, List.getElem_cons_zero, List.getElem_cons_succ]
      refine wpAnyH_take (i := 10) (v := ?v10) rfl (by kernel_rfl) (by kernel_rfl) (by kernel_rfl) (fun _ _ _ h => h) (Or.inl ⟨by rfl, ?hy10⟩) hH ?rest10
      case hy10 => (intro w hSw; (try dsimp only at hSw); go_simp; try with_reducible rfl)
      try simp only [Act.put, List.setIfInBounds_toArray, List.set_cons_zero, List.set_cons_succ, List.getElem_toArray, List.getElem_cons_zero, List.getElem_cons_succ]
      refine wpAnyH_take (i := 11) (v := undef) rfl (by kernel_rfl) (by kernel_rfl) (by kernel_rfl) (fun _ _ _ h => h) (Or.inr ⟨by rfl, rfl⟩) hH ?_
      try simp only [Act.put, List.setIfInBounds_toArray, List.set_cons_zero, List.set_cons_succ, List.getElem_toArray, List.getElem_cons_zero, List.getElem_cons_succ]
      refine wpAnyH_take (i := 12) (v := undef) rfl (by kernel_rfl) (by kernel_rfl) (by kernel_rfl) (fun _ _ _ h => h) (Or.inr ⟨by rfl, rfl⟩) hH ?_
      try simp only [Act.put, List.setIfInBounds_toArray, List.set_cons_zero, List.set_cons_succ, List.getElem_toArray, List.getElem_cons_zero, List.getElem_cons_succ]
      refine wpAnyH_take (i := 13) (v := undef) rfl (by kernel_rfl) (by kernel_rfl) (by kernel_rfl) (fun _ _ _ h => h) (Or.inr ⟨by rfl, rfl⟩) hH ?_
      try simp only [Act.put, List.setIfInBounds_toArray, List.set_cons_zero, List.set_cons_succ, List.getElem_toArray, List.getElem_cons_zero, List.getElem_cons_succ]
      refine wpAnyH_take (i := 14) (v := ?v14) rfl (by kernel_rfl) (by kernel_rfl) (by kernel_rfl) (fun _ _ _ h => h) (Or.inl ⟨by rfl, ?hy14⟩) hH ?rest14
      case hy14 => (intro w hSw; (try dsimp only at hSw); go_simp; try with_reducible rfl)
      try simp only [Act.put, List.setIfInBounds_toArray, List.set_cons_zero, List.set_cons_succ, List.getElem_toArray, List.getElem_cons_zero, List.getElem_cons_succ]
      refine wpAnyH_take (i := 15) (v := ?v15) rfl (by kernel_rfl) (by kernel_rfl) (by kernel_rfl) (fun _ _ _ h => h) (Or.inl ⟨by rfl, ?hy15⟩) hH ?rest15
      case hy15 => (intro w hSw; (try dsimp only at hSw); go_simp; try with_reducible rfl)
      try simp only [Act.put, List.setIfInBounds_toArray, List.set_cons_zero, List.set_cons_succ, List.getElem_toArray, List.getElem_cons_zero, List.getElem_cons_succ]
      refine wpAnyH_take (i := 16) (v := ?v16) rfl (by kernel_rfl) (by kernel_rfl) (by kernel_rfl) (fun _ _ _ h => h) (Or.inl ⟨by rfl, ?hy16⟩) hH ?rest16
      case hy16 => (intro w hSw; (try dsimp only at hSw); go_simp; try with_reducible rfl)
      try simp only [Act.put, List.setIfInBounds_toArray, List.set_cons_zero, List.set_cons_succ, List.getElem_toArray, List.getElem_cons_zero, List.getElem_cons_succ]
      refine wpAnyH_take (i := 17) (v := ?v17) rfl (by kernel_rfl) (by kernel_rfl) (by kernel_rfl) (fun _ _ _ h => h) (Or.inl ⟨by rfl, ?hy17⟩) hH ?rest17
      case hy17 => (intro w hSw; (try dsimp only at hSw); go_simp; try with_reducible rfl)
      try simp only [Act.put, List.setIfInBounds_toArray, List.set_cons_zero, List.set_cons_succ, List.getElem_toArray, List.getElem_cons_zero, List.getElem_cons_succ]
      refine wpAnyH_take (i := 18) (v := ?v18) rfl (by kernel_rfl) (by kernel_rfl) (by kernel_rfl) (fun _ _ _ h => h) (Or.inl ⟨by rfl, ?hy18⟩) hH ?rest18
      case hy18 => (intro w hSw; (try dsimp only at hSw); go_simp; try with_reducible rfl)
      try simp only [Act.put, List.setIfInBounds_toArray, List.set_cons_zero, List.set_cons_succ, List.getElem_toArray, List.getElem_cons_zero, List.getElem_cons_succ]
      refine wpAnyH_take (i := 19) (v := undef) rfl (by kernel_rfl) (by kernel_rfl) (by kernel_rfl) (fun _ _ _ h => h) (Or.inr ⟨by rfl, rfl⟩) hH ?_
      try simp only [Act.put, List.setIfInBounds_toArray, List.set_cons_zero, List.set_cons_succ, List.getElem_toArray, List.getElem_cons_zero, List.getElem_cons_succ]
      refine wpAnyH_take (i := 20) (v := undef) rfl (by kernel_rfl) (by kernel_rfl) (by kernel_rfl) (fun _ _ _ h => h) (Or.inr ⟨by rfl, rfl⟩) hH ?_
      try simp only [Act.put, List.setIfInBounds_toArray, List.set_cons_zero, List.set_cons_succ, List.getElem_toArray, List.getElem_cons_zero, List.getElem_cons_succ]
      refine wpAnyH_take (i := 21) (v := undef) rfl (by kernel_rfl) (by kernel_rfl) (by kernel_rfl) (fun _ _ _ h => h) (Or.inr ⟨by rfl, rfl⟩) hH ?_
      try simp only [Act.put, List.setIfInBounds_toArray, List.set_cons_zero, List.set_cons_succ, List.getElem_toArray, List.getElem_cons_zero, List.getElem_cons_succ]
      refine wpAnyH_take (i := 22) (v := ?v22) rfl (by kernel_rfl) (by kernel_rfl) (by kernel_rfl) (fun _ _ _ h => h) (Or.inl ⟨by rfl, ?hy22⟩) hH ?rest22
      case hy22 => (intro w hSw; (try dsimp only at hSw); go_simp; try with_reducible rfl)
      try simp only [Act.put, List.setIfInBounds_toArray, List.set_cons_zero, List.set_cons_succ, List.getElem_toArray, List.getElem_cons_zero, List.getElem_cons_succ]
      refine wpAnyH_take (i := 23) (v := ?v23) rfl (by kernel_rfl) (by kernel_rfl) (by kernel_rfl) (fun _ _ _ h => h) (Or.inl ⟨by rfl, ?hy23⟩) hH ?rest23
      case hy23 => (intro w hSw; (try dsimp only at hSw); go_simp; try with_reducible rfl)
      try simp only [Act.put, List.setIfInBounds_toArray, List.set_cons_zero, List.set_cons_succ, List.getElem_toArray, List.getElem_cons_zero, List.getElem_cons_succ]
      refine wpAnyH_take (i := 24) (v := ?v24) rfl (by kernel_rfl) (by kernel_rfl) (by kernel_rfl) (fun _ _ _ h => h) (Or.inl ⟨by rfl, ?hy24⟩) hH ?rest24
      case hy24 => (intro w hSw; (try dsimp only at hSw); go_simp; try with_reducible rfl)
      try simp only [Act.put, List.setIfInBounds_toArray, List.set_cons_zero, List.set_cons_succ, List.getElem_toArray, List.getElem_cons_zero, List.getElem_cons_succ]
      refine wpAnyH_ready (rs := [25]) (by kernel_rfl) (by simp) ?_
      refine AllReadyH.cons rfl (fun K hK => ?_) AllReadyH.nil
      go_simp
      go_at_call 13
      have hGd := GSA _ hH
      with_reducible refine hGd.out.mono ?_
      clear hGd
      rintro e wqd ⟨rfl, hbd⟩
      go_wp2_with fail
      refine hK.out _ _ (KS.out _ _ hbd hH) (fun hH2 => ?_)
      clear hK K hH
      have hH := hH2
      clear hH2
      try simp only [Act.put, List.setIfInBounds_toArray, List.set_cons_zero, List.set_cons_succ, List.getElem_toArray, List.getElem_cons_zero, List.getElem_cons_succ]
      refine wpAnyH_take (i := 26) (v := ?v25) rfl (by kernel_rfl) (by kernel_rfl) (by kernel_rfl) (fun _ _ _ h => h) (Or.inl ⟨by rfl, ?hy25⟩) hH ?rest25
      case hy25 => (intro w hSw; (try dsimp only at hSw); go_simp; try with_reducible rfl)
      try simp only [Act.put, List.setIfInBounds_toArray, List.set_cons_zero, List.set_cons_succ, List.getElem_toArray, List.getElem_cons_zero, List.getElem_cons_succ]
      refine wpAnyH_take (i := 27) (v := ?v26) rfl (by kernel_rfl) (by kernel_rfl) (by kernel_rfl) (fun _ _ _ h => h) (Or.inl ⟨by rfl, ?hy26⟩) hH ?rest26
      case hy26 => (intro w hSw; (try dsimp only at hSw); go_simp; try with_reducible rfl)
      try simp only [Act.put, List.setIfInBounds_toArray, List.set_cons_zero, List.set_cons_succ, List.getElem_toArray, List.getElem_cons_zero, List.getElem_cons_succ]
      refine wpAnyH_take (i := 28) (v := ?v27) rfl (by kernel_rfl) (by kernel_rfl) (by kernel_rfl) (fun _ _ _ h => h) (Or.inl ⟨by rfl, ?hy27⟩) hH ?rest27
      case hy27 => (intro w hSw; (try dsimp only at hSw); go_simp; try with_reducible rfl)
      try simp only [Act.put, List.setIfInBounds_toArray, List.set_cons_zero, List.set_cons_succ, List.getElem_toArray, List.getElem_cons_zero, List.getElem_cons_succ]
      refine wpAnyH_done (by kernel_rfl) ?_ _
      (
        have BX := BF.trans (hH.2.2.2.mono (by omega))
        go_wp2
        go_ret
        exact ⟨rfl, BX⟩)
    · go_wp2_with fail
      refine wp_region_held_drew (S := fun v => (v.cell? ⟨w.heap.size, 0, none⟩ = some (.int .i64 a0) ∧ v.cell? ⟨w.heap.size, 1, none⟩ = some (.slice A0 x0.length c0)) ∧ (v.cell? ⟨w.heap.size + 1, 0, none⟩ = some (.int .i64 a1) ∧ v.cell? ⟨w.heap.size + 1, 1, none⟩ = some (.slice A1 x1.length c1)) ∧ (v.cell? ⟨w.heap.size + 1 + 1, 0, none⟩ = some (.int .i64 a2) ∧ v.cell? ⟨w.heap.size + 1 + 1, 1, none⟩ = some (.slice A2 x2.length c2)) ∧ Below w6.heap.size w6 v) (by kernel_rfl) (KD.out _ S0) (fun hH => ?_)
      refine wpAnyH_take (i := 0) (v := ?v28) rfl (by kernel_rfl) (by kernel_rfl) (by kernel_rfl) (fun _ _ _ h => h) (Or.inl ⟨by rfl, ?hy28⟩) hH ?rest28
      case hy28 => (intro w hSw; (try dsimp only at hSw); go_simp; try with_reducible rfl)
      try simp only [Act.put, List.setIfInBounds_toArray, List.set_cons_zero, List.set_cons_succ, List.getElem_toArray, List.getElem_cons_zero, List.getElem_cons_succ]
      refine wpAnyH_take (i := 1) (v := ?v29) rfl (by kernel_rfl) (by kernel_rfl) (by kernel_rfl) (fun _ _ _ h => h) (Or.inl ⟨by rfl, ?hy29⟩) hH ?rest29
      case hy29 => (intro w hSw; (try dsimp only at hSw); go_simp; try with_reducible rfl)
      try simp only [Act.put, List.setIfInBounds_toArray, List.set_cons_zero, List.set_cons_succ, List.getElem_toArray, List.getElem_cons_zero, List.getElem_cons_succ]
      refine wpAnyH_ready (rs := [2]) (by kernel_rfl) (by simp) ?_
      refine AllReadyH.cons rfl (fun K hK => ?_) AllReadyH.nil
      go_simp
      go_at_call 15
      have hGa := GAA _ hH
      with_reducible refine hGa.out.mono ?_
      clear hGa
      rintro e wqa ⟨rfl, hba⟩
      go_wp2_with fail
      refine hK.out _ _ (KS.out _ _ hba hH) (fun hH2 => ?_)
      clear hK K hH
      have hH := hH2
      clear hH2
      try simp only [Act.put, List.setIfInBounds_toArray, List.set_cons_zero, List.set_cons_succ, List.getElem_toArray, List.getElem_cons_zero, List.getElem_cons_succ]
      refine wpAnyH_take (i := 3) (v := ?v30) rfl (by kernel_rfl) (by kernel_rfl) (by kernel_rfl) (fun _ _ _ h => h) (Or.inl ⟨by rfl, ?hy30⟩) hH ?rest30
      case hy30 => (intro w hSw; (try dsimp only at hSw); go_simp; try with_reducible rfl)
      try simp only [Act.put, List.setIfInBounds_toArray, List.set_cons_zero, List.set_cons_succ, List.getElem_toArray, List.getElem_cons_zero, List.getElem_cons_succ]
      refine wpAnyH_take (i := 4) (v := ?v31) rfl (by kernel_rfl) (by kernel_rfl) (by kernel_rfl) (fun _ _ _ h => h) (Or.inl ⟨by rfl, ?hy31⟩) hH ?rest31
      case hy31 => (intro w hSw; (try dsimp only at hSw); go_simp; try with_reducible rfl)
      try simp only [Act.put, List.setIfInBounds_toArray, List.set_cons_zero, List.set_cons_succ, List.getElem_toArray, List.getElem_cons_zero, List.getElem_cons_succ]
      refine wpAnyH_take (i := 5) (v := ?v32) rfl (by kernel_rfl) (by kernel_rfl) (by kernel_rfl) (fun _ _ _ h => h) (Or.inl ⟨by rfl, ?hy32⟩) hH ?rest32
      case hy32 => (intro w hSw; (try dsimp only at hSw); go_simp; try with_reducible rfl)
      try simp only [Act.put, List.setIfInBounds_toArray, List.set_cons_zero, List.set_cons_succ, List.getElem_toArray, List.getElem_cons_zero, List.getElem_cons_succ]
      refine wpAnyH_take (i := 6) (v := ?v33) rfl (by kernel_rfl) (by kernel_rfl) (by kernel_rfl) (fun _ _ _ h => h) (Or.inl ⟨by rfl, ?hy33⟩) hH ?rest33
      case hy33 => (intro w hSw; (try dsimp only at hSw); go_simp; try with_reducible rfl)
      try simp only [Act.put, List.setIfInBounds_toArray, List.set_cons_zero, List.set_cons_succ, List.getElem_toArray, List.getElem_cons_zero, List.getElem_cons_succ]
      refine wpAnyH_take (i := 7) (v := undef) rfl (by kernel_rfl) (by kernel_rfl) (by kernel_rfl) (fun _ _ _ h => h) (Or.inr ⟨by rfl, rfl⟩) hH ?_
      try simp only [Act.put, List.setIfInBounds_toArray, List.set_cons_zero, List.set_cons_succ, List.getElem_toArray, List.getElem_cons_zero, List.getElem_cons_succ]
      refine wpAnyH_take (i := 8) (v := undef) rfl (by kernel_rfl) (by kernel_rfl) (by kernel_rfl) (fun _ _ _ h => h) (Or.inr ⟨by rfl, rfl⟩) hH ?_
      try simp only [Act.put, List.setIfInBounds_toArray, List.set_cons_zero, List.set_cons_succ, List.getElem_toArray, List.getElem_cons_zero, List.getElem_cons_succ]
      refine wpAnyH_take (i := 9) (v := ?v36) rfl (by kernel_rfl) (by kernel_rfl) (by kernel_rfl) (fun _ _ _ h => h) (Or.inl ⟨by rfl, ?hy36⟩) hH ?rest36
      case hy36 => (intro w hSw; (try dsimp only at hSw); go_simp; try with_reducible rfl)
      try simp only [Act.put, List.setIfInBounds_toArray, List.set_cons_zero, List.set_cons_succ, List.getElem_toArray, List.getElem_cons_zero, List.getElem_cons_succ]
      refine wpAnyH_take (i := 10) (v := ?v37) rfl (by kernel_rfl) (by kernel_rfl) (by kernel_rfl) (fun _ _ _ h => h) (Or.inl ⟨by rfl, ?hy37⟩) hH ?rest37
      case hy37 => (intro w hSw; (try dsimp only at hSw); go_simp; try with_reducible rfl)
      try simp only [Act.put, List.setIfInBounds_toArray, List.set_cons_zero, List.set_cons_succ, List.getElem_toArray, List.getElem_cons_zero, List.getElem_cons_succ]
      refine wpAnyH_take (i := 11) (v := undef) rfl (by kernel_rfl) (by kernel_rfl) (by kernel_rfl) (fun _ _ _ h => h) (Or.inr ⟨by rfl, rfl⟩) hH ?_
      try simp only [Act.put, List.setIfInBounds_toArray, List.set_cons_zero, List.set_cons_succ, List.getElem_toArray, List.getElem_cons_zero, List.getElem_cons_succ]
      refine wpAnyH_take (i := 12) (v := undef) rfl (by kernel_rfl) (by kernel_rfl) (by kernel_rfl) (fun _ _ _ h => h) (Or.inr ⟨by rfl, rfl⟩) hH ?_
      try simp only [Act.put, List.setIfInBounds_toArray, List.set_cons_zero, List.set_cons_succ, List.getElem_toArray, List.getElem_cons_zero, List.getElem_cons_succ]
      refine wpAnyH_take (i := 13) (v := undef) rfl (by kernel_rfl) (by kernel_rfl) (by kernel_rfl) (fun _ _ _ h => h) (Or.inr ⟨by rfl, rfl⟩) hH ?_
      try simp only [Act.put, List.setIfInBounds_toArray, List.set_cons_zero, List.set_cons_succ, List.getElem_toArray, List.getElem_cons_zero, List.getElem_cons_succ]
      refine wpAnyH_take (i := 14) (v := ?v41) rfl (by kernel_rfl) (by kernel_rfl) (by kernel_rfl) (fun _ _ _ h => h) (Or.inl ⟨by rfl, ?hy41⟩) hH ?rest41
      case hy41 => (intro w hSw; (try dsimp only at hSw); go_simp; try with_reducible rfl)
      try simp only [Act.put, List.setIfInBounds_toArray, List.set_cons_zero, List.set_cons_succ, List.getElem_toArray, List.getElem_cons_zero, List.getElem_cons_succ]
      refine wpAnyH_take (i := 15) (v := ?v42) rfl (by kernel_rfl) (by kernel_rfl) (by kernel_rfl) (fun _ _ _ h => h) (Or.inl ⟨by rfl, ?hy42⟩) hH ?rest42
      case hy42 => (intro w hSw; (try dsimp only at hSw); go_simp; try with_reducible rfl)
      try simp only [Act.put, List.setIfInBounds_toArray, List.set_cons_zero, List.set_cons_succ, List.getElem_toArray, List.getElem_cons_zero, List.getElem_cons_succ]
      refine wpAnyH_take (i := 16) (v := ?v43) rfl (by kernel_rfl) (by kernel_rfl) (by kernel_rfl) (fun _ _ _ h => h) (Or.inl ⟨by rfl, ?hy43⟩) hH ?rest43
      case hy43 => (intro w hSw; (try dsimp only at hSw); go_simp; try with_reducible rfl)
      try simp only [Act.put, List.setIfInBounds_toArray, List.set_cons_zero, List.set_cons_succ, List.getElem_toArray, List.getElem_cons_zero, List.getElem_cons_succ]
      refine wpAnyH_take (i := 17) (v := ?v44) rfl (by kernel_rfl) (by kernel_rfl) (by kernel_rfl) (fun _ _ _ h => h) (Or.inl ⟨by rfl, ?hy44⟩) hH ?rest44
      case hy44 => (intro w hSw; (try dsimp only at hSw); go_simp; try with_reducible rfl)
      try simp only [Act.put, List.setIfInBounds_toArray, List.set_cons_zero, List.set_cons_succ, List.getElem_toArray, List.getElem_cons_zero, List.getElem_cons_succ]
      refine wpAnyH_take (i := 18) (v := ?v45) rfl (by kernel_rfl) (by kernel_rfl) (by kernel_rfl) (fun _ _ _ h => h) (Or.inl ⟨by rfl, ?hy45⟩) hH ?rest45
      case hy45 => (intro w hSw; (try dsimp only at hSw); go_simp; try with_reducible rfl)
      try simp only [Act.put, List.setIfInBounds_toArray, List.set_cons_zero, List.set_cons_succ, List.getElem_toArray, List.getElem_cons_zero, List.getElem_cons_succ]
      refine wpAnyH_take (i := 19) (v := undef) rfl (by kernel_rfl) (by kernel_rfl) (by kernel_rfl) (fun _ _ _ h => h) (Or.inr ⟨by rfl, rfl⟩) hH ?_
      try simp only [Act.put, List.setIfInBounds_toArray, List.set_cons_zero, List.set_cons_succ, List.getElem_toArray, List.getElem_cons_zero, List.getElem_cons_succ]
      refine wpAnyH_take (i := 20) (v := undef) rfl (by kernel_rfl) (by kernel_rfl) (by kernel_rfl) (fun _ _ _ h => h) (Or.inr ⟨by rfl, rfl⟩) hH ?_
      try simp only [Act.put, List.setIfInBounds_toArray, List.set_cons_zero, List.set_cons_succ, List.getElem_toArray, List.getElem_cons_zero, List.getElem_cons_succ]
      refine wpAnyH_take (i := 21) (v := undef) rfl (by kernel_rfl) (by kernel_rfl) (by kernel_rfl) (fun _ _ _ h => h) (Or.inr ⟨by rfl, rfl⟩) hH ?_
      try simp only [Act.put, List.setIfInBounds_toArray, List.set_cons_zero, List.set_cons_succ, List.getElem_toArray, List.getElem_cons_zero, List.getElem_cons_succ]
      refine wpAnyH_take (i := 22) (v := ?v49) rfl (by kernel_rfl) (by kernel_rfl) (by kernel_rfl) (fun _ _ _ h => h) (Or.inl ⟨by rfl, ?hy49⟩) hH ?rest49
      case hy49 => (intro w hSw; (try dsimp only at hSw); go_simp; try with_reducible rfl)
      try simp only [Act.put, List.setIfInBounds_toArray, List.set_cons_zero, List.set_cons_succ, List.getElem_toArray, List.getElem_cons_zero, List.getElem_cons_succ]
      refine wpAnyH_take (i := 23) (v := ?v50) rfl (by kernel_rfl) (by kernel_rfl) (by kernel_rfl) (fun _ _ _ h => h) (Or.inl ⟨by rfl, ?hy50⟩) hH ?rest50
      case hy50 => (intro w hSw; (try dsimp only at hSw); go_simp; try with_reducible rfl)
      try simp only [Act.put, List.setIfInBounds_toArray, List.set_cons_zero, List.set_cons_succ, List.getElem_toArray, List.getElem_cons_zero, List.getElem_cons_succ]
      refine wpAnyH_take (i := 24) (v := ?v51) rfl (by kernel_rfl) (by kernel_rfl) (by kernel_rfl) (fun _ _ _ h => h) (Or.inl ⟨by rfl, ?hy51⟩) hH ?rest51
      case hy51 => (intro w hSw; (try dsimp only at hSw); go_simp; try with_reducible rfl)
      try simp only [Act.put, List.setIfInBounds_toArray, List.set_cons_zero, List.set_cons_succ, List.getElem_toArray, List.getElem_cons_zero, List.getElem_cons_succ]
      refine wpAnyH_ready (rs := [25]) (by kernel_rfl) (by simp) ?_
      refine AllReadyH.cons rfl (fun K hK => ?_) AllReadyH.nil
      go_simp
      go_at_call 13
      have hGd := GSA _ hH
      with_reducible refine hGd.out.mono ?_
      clear hGd
      rintro e wqd ⟨rfl, hbd⟩
      go_wp2_with fail
      refine hK.out _ _ (KS.out _ _ hbd hH) (fun hH2 => ?_)
      clear hK K hH
      have hH := hH2
      clear hH2
      try simp only [Act.put, List.setIfInBounds_toArray, List.set_cons_zero, List.set_cons_succ, List.getElem_toArray, List.getElem_cons_zero, List.getElem_cons_succ]
      refine wpAnyH_take (i := 26) (v := ?v52) rfl (by kernel_rfl) (by kernel_rfl) (by kernel_rfl) (fun _ _ _ h => h) (Or.inl ⟨by rfl, ?hy52⟩) hH ?rest52
      case hy52 => (intro w hSw; (try dsimp only at hSw); go_simp; try with_reducible rfl)
      try simp only [Act.put, List.setIfInBounds_toArray, List.set_cons_zero, List.set_cons_succ, List.getElem_toArray, List.getElem_cons_zero, List.getElem_cons_succ]
      refine wpAnyH_take (i := 27) (v := ?v53) rfl (by kernel_rfl) (by kernel_rfl) (by kernel_rfl) (fun _ _ _ h => h) (Or.inl ⟨by rfl, ?hy53⟩) hH ?rest53
      case hy53 => (intro w hSw; (try dsimp only at hSw); go_simp; try with_reducible rfl)
      try simp only [Act.put, List.setIfInBounds_toArray, List.set_cons_zero, List.set_cons_succ, List.getElem_toArray, List.getElem_cons_zero, List.getElem_cons_succ]
      refine wpAnyH_take (i := 28) (v := ?v54) rfl (by kernel_rfl) (by kernel_rfl) (by kernel_rfl) (fun _ _ _ h => h) (Or.inl ⟨by rfl, ?hy54⟩) hH ?rest54
      case hy54 => (intro w hSw; (try dsimp only at hSw); go_simp; try with_reducible rfl)
      try simp only [Act.put, List.setIfInBounds_toArray, List.set_cons_zero, List.set_cons_succ, List.getElem_toArray, List.getElem_cons_zero, List.getElem_cons_succ]
      refine wpAnyH_done (by kernel_rfl) ?_ _
      (
        have BX := BF.trans (hH.2.2.2.mono (by omega))
        go_wp2
        go_ret
        exact ⟨rfl, BX⟩)
  · cases v
    · cases y
      · go_wp2_with fail
        refine wp_region_held_drew (S := fun v => (v.cell? ⟨w.heap.size, 0, none⟩ = some (.int .i64 a0) ∧ v.cell? ⟨w.heap.size, 1, none⟩ = some (.slice A0 x0.length c0)) ∧ (v.cell? ⟨w.heap.size + 1, 0, none⟩ = some (.int .i64 a1) ∧ v.cell? ⟨w.heap.size + 1, 1, none⟩ = some (.slice A1 x1.length c1)) ∧ (v.cell? ⟨w.heap.size + 1 + 1, 0, none⟩ = some (.int .i64 a2) ∧ v.cell? ⟨w.heap.size + 1 + 1, 1, none⟩ = some (.slice A2 x2.length c2)) ∧ Below w6.heap.size w6 v) (by kernel_rfl) (KD.out _ S0) (fun hH => ?_)
        refine wpAnyH_take (i := 0) (v := ?v55) rfl (by kernel_rfl) (by kernel_rfl) (by kernel_rfl) (fun _ _ _ h => h) (Or.inl ⟨by rfl, ?hy55⟩) hH ?rest55
        case hy55 => (intro w hSw; (try dsimp only at hSw); go_simp; try with_reducible rfl)
        try simp only [Act.put, List.setIfInBounds_toArray, List.set_cons_zero, List.set_cons_succ, List.getElem_toArray, List.getElem_cons_zero, List.getElem_cons_succ]
        refine wpAnyH_take (i := 1) (v := ?v56) rfl (by kernel_rfl) (by kernel_rfl) (by kernel_rfl) (fun _ _ _ h => h) (Or.inl ⟨by rfl, ?hy56⟩) hH ?rest56
        case hy56 => (intro w hSw; (try dsimp only at hSw); go_simp; try with_reducible rfl)
        try simp only [Act.put, List.setIfInBounds_toArray, List.set_cons_zero, List.set_cons_succ, List.getElem_toArray, List.getElem_cons_zero, List.getElem_cons_succ]
        refine wpAnyH_ready (rs := [2]) (by kernel_rfl) (by simp) ?_
        refine AllReadyH.cons rfl (fun K hK => ?_) AllReadyH.nil
        go_simp
        go_at_call 15
        have hGa := GAA _ hH
        with_reducible refine hGa.out.mono ?_
        clear hGa
        rintro e wqa ⟨rfl, hba⟩
        go_wp2_with fail
        refine hK.out _ _ (KS.out _ _ hba hH) (fun hH2 => ?_)
        clear hK K hH
        have hH := hH2
        clear hH2
        try simp only [Act.put, List.setIfInBounds_toArray, List.set_cons_zero, List.set_cons_succ, List.getElem_toArray, List.getElem_cons_zero, List.getElem_cons_succ]
        refine wpAnyH_take (i := 3) (v := ?v57) rfl (by kernel_rfl) (by kernel_rfl) (by kernel_rfl) (fun _ _ _ h => h) (Or.inl ⟨by rfl, ?hy57⟩) hH ?rest57
        case hy57 => (intro w hSw; (try dsimp only at hSw); go_simp; try with_reducible rfl)
        try simp only [Act.put, List.setIfInBounds_toArray, List.set_cons_zero, List.set_cons_succ, List.getElem_toArray, List.getElem_cons_zero, List.getElem_cons_succ]
        refine wpAnyH_take (i := 4) (v := ?v58) rfl (by kernel_rfl) (by kernel_rfl) (by kernel_rfl) (fun _ _ _ h => h) (Or.inl ⟨by rfl, ?hy58⟩) hH ?rest58
        case hy58 => (intro w hSw; (try dsimp only at hSw); go_simp; try with_reducible rfl)
        try simp only [Act.put, List.setIfInBounds_toArray, List.set_cons_zero, List.set_cons_succ, List.getElem_toArray, List.getElem_cons_zero, List.getElem_cons_succ]
        refine wpAnyH_take (i := 5) (v := ?v59) rfl (by kernel_rfl) (by kernel_rfl) (by kernel_rfl) (fun _ _ _ h => h) (Or.inl ⟨by rfl, ?hy59⟩) hH ?rest59
        case hy59 => (intro w hSw; (try dsimp only at hSw); go_simp; try with_reducible rfl)
        try simp only [Act.put, List.setIfInBounds_toArray, List.set_cons_zero, List.set_cons_succ, List.getElem_toArray, List.getElem_cons_zero, List.getElem_cons_succ]
        refine wpAnyH_take (i := 6) (v := ?v60) rfl (by kernel_rfl) (by kernel_rfl) (by kernel_rfl) (fun _ _ _ h => h) (Or.inl ⟨by rfl, ?hy60⟩) hH ?rest60
        case hy60 => (intro w hSw; (try dsimp only at hSw); go_simp; try with_reducible rfl)
        try simp only [Act.put, List.setIfInBounds_toArray, List.set_cons_zero, List.set_cons_succ, List.getElem_toArray, List.getElem_cons_zero, List.getElem_cons_succ]
        refine wpAnyH_take (i := 7) (v := ?v61) rfl (by kernel_rfl) (by kernel_rfl) (by kernel_rfl) (fun _ _ _ h => h) (Or.inl ⟨by rfl, ?hy61⟩) hH ?rest61
        case hy61 => (intro w hSw; (try dsimp only at hSw); go_simp; try with_reducible rfl)
        try simp only [Act.put, List.setIfInBounds_toArray, List.set_cons_zero, List.set_cons_succ, List.getElem_toArray, List.getElem_cons_zero, List.getElem_cons_succ]
        refine wpAnyH_take (i := 8) (v := ?v62) rfl (by kernel_rfl) (by kernel_rfl) (by kernel_rfl) (fun _ _ _ h => h) (Or.inl ⟨by rfl, ?hy62⟩) hH ?rest62
        case hy62 => (intro w hSw; (try dsimp only at hSw); go_simp; try with_reducible rfl)
        try simp only [Act.put, List.setIfInBounds_toArray, List.set_cons_zero, List.set_cons_succ, List.getElem_toArray, List.getElem_cons_zero, List.getElem_cons_succ]
        refine wpAnyH_take (i := 9) (v := ?v63) rfl (by kernel_rfl) (by kernel_rfl) (by kernel_rfl) (fun _ _ _ h => h) (Or.inl ⟨by rfl, ?hy63⟩) hH ?rest63
        case hy63 => (intro w hSw; (try dsimp only at hSw); go_simp; try with_reducible rfl)
        try simp only [Act.put, List.setIfInBounds_toArray, List.set_cons_zero, List.set_cons_succ, List.getElem_toArray, List.getElem_cons_zero, List.getElem_cons_succ]
        refine wpAnyH_take (i := 10) (v := ?v64) rfl (by kernel_rfl) (by kernel_rfl) (by kernel_rfl) (fun _ _ _ h => h) (Or.inl ⟨by rfl, ?hy64⟩) hH ?rest64
        case hy64 => (intro w hSw; (try dsimp only at hSw); go_simp; try with_reducible rfl)
        try simp only [Act.put, List.setIfInBounds_toArray, List.set_cons_zero, List.set_cons_succ, List.getElem_toArray, List.getElem_cons_zero, List.getElem_cons_succ]
        refine wpAnyH_take (i := 11) (v := undef) rfl (by kernel_rfl) (by kernel_rfl) (by kernel_rfl) (fun _ _ _ h => h) (Or.inr ⟨by rfl, rfl⟩) hH ?_
        try simp only [Act.put, List.setIfInBounds_toArray, List.set_cons_zero, List.set_cons_succ, List.getElem_toArray, List.getElem_cons_zero, List.getElem_cons_succ]
        refine wpAnyH_take (i := 12) (v := undef) rfl (by kernel_rfl) (by kernel_rfl) (by kernel_rfl) (fun _ _ _ h => h) (Or.inr ⟨by rfl, rfl⟩) hH ?_
        try simp only [Act.put, List.setIfInBounds_toArray, List.set_cons_zero, List.set_cons_succ, List.getElem_toArray, List.getElem_cons_zero, List.getElem_cons_succ]
        refine wpAnyH_take (i := 13) (v := undef) rfl (by kernel_rfl) (by kernel_rfl) (by kernel_rfl) (fun _ _ _ h => h) (Or.inr ⟨by rfl, rfl⟩) hH ?_
        try simp only [Act.put, List.setIfInBounds_toArray, List.set_cons_zero, List.set_cons_succ, List.getElem_toArray, List.getElem_cons_zero, List.getElem_cons_succ]
        refine wpAnyH_take (i := 14) (v := ?v68) rfl (by kernel_rfl) (by kernel_rfl) (by kernel_rfl) (fun _ _ _ h => h) (Or.inl ⟨by rfl, ?hy68⟩) hH ?rest68
        case hy68 => (intro w hSw; (try dsimp only at hSw); go_simp; try with_reducible rfl)
        try simp only [Act.put, List.setIfInBounds_toArray, List.set_cons_zero, List.set_cons_succ, List.getElem_toArray, List.getElem_cons_zero, List.getElem_cons_succ]
        refine wpAnyH_take (i := 15) (v := ?v69) rfl (by kernel_rfl) (by kernel_rfl) (by kernel_rfl) (fun _ _ _ h => h) (Or.inl ⟨by rfl, ?hy69⟩) hH ?rest69
        case hy69 => (intro w hSw; (try dsimp only at hSw); go_simp; try with_reducible rfl)
        try simp only [Act.put, List.setIfInBounds_toArray, List.set_cons_zero, List.set_cons_succ, List.getElem_toArray, List.getElem_cons_zero, List.getElem_cons_succ]
        refine wpAnyH_take (i := 16) (v := ?v70) rfl (by kernel_rfl) (by kernel_rfl) (by kernel_rfl) (fun _ _ _ h => h) (Or.inl ⟨by rfl, ?hy70⟩) hH ?rest70
        case hy70 => (intro w hSw; (try dsimp only at hSw); go_simp; try with_reducible rfl)
        try simp only [Act.put, List.setIfInBounds_toArray, List.set_cons_zero, List.set_cons_succ, List.getElem_toArray, List.getElem_cons_zero, List.getElem_cons_succ]
        refine wpAnyH_take (i := 17) (v := ?v71) rfl (by kernel_rfl) (by kernel_rfl) (by kernel_rfl) (fun _ _ _ h => h) (Or.inl ⟨by rfl, ?hy71⟩) hH ?rest71
        case hy71 => (intro w hSw; (try dsimp only at hSw); go_simp; try with_reducible rfl)
        try simp only [Act.put, List.setIfInBounds_toArray, List.set_cons_zero, List.set_cons_succ, List.getElem_toArray, List.getElem_cons_zero, List.getElem_cons_succ]
        refine wpAnyH_take (i := 18) (v := ?v72) rfl (by kernel_rfl) (by kernel_rfl) (by kernel_rfl) (fun _ _ _ h => h) (Or.inl ⟨by rfl, ?hy72⟩) hH ?rest72
        case hy72 => (intro w hSw; (try dsimp only at hSw); go_simp; try with_reducible rfl)
        try simp only [Act.put, List.setIfInBounds_toArray, List.set_cons_zero, List.set_cons_succ, List.getElem_toArray, List.getElem_cons_zero, List.getElem_cons_succ]
        refine wpAnyH_take (i := 19) (v := ?v73) rfl (by kernel_rfl) (by kernel_rfl) (by kernel_rfl) (fun _ _ _ h => h) (Or.inl ⟨by rfl, ?hy73⟩) hH ?rest73
        case hy73 => (intro w hSw; (try dsimp only at hSw); go_simp; try with_reducible rfl)
        try simp only [Act.put, List.setIfInBounds_toArray, List.set_cons_zero, List.set_cons_succ, List.getElem_toArray, List.getElem_cons_zero, List.getElem_cons_succ]
        refine wpAnyH_take (i := 20) (v := ?v74) rfl (by kernel_rfl) (by kernel_rfl) (by kernel_rfl) (fun _ _ _ h => h) (Or.inl ⟨by rfl, ?hy74⟩) hH ?rest74
        case hy74 => (intro w hSw; (try dsimp only at hSw); go_simp; try with_reducible rfl)
        try simp only [Act.put, List.setIfInBounds_toArray, List.set_cons_zero, List.set_cons_succ, List.getElem_toArray, List.getElem_cons_zero, List.getElem_cons_succ]
        refine wpAnyH_take (i := 23) (v := ?v75) rfl (by kernel_rfl) (by kernel_rfl) (by kernel_rfl) (fun _ _ _ h => h) (Or.inl ⟨by rfl, ?hy75⟩) hH ?rest75
        case hy75 => (intro w hSw; (try dsimp only at hSw); go_simp; try with_reducible rfl)
        try simp only [Act.put, List.setIfInBounds_toArray, List.set_cons_zero, List.set_cons_succ, List.getElem_toArray, List.getElem_cons_zero, List.getElem_cons_succ]
        refine wpAnyH_take (i := 24) (v := ?v76) rfl (by kernel_rfl) (by kernel_rfl) (by kernel_rfl) (fun _ _ _ h => h) (Or.inl ⟨by rfl, ?hy76⟩) hH ?rest76
        case hy76 => (intro w hSw; (try dsimp only at hSw); go_simp; try with_reducible rfl)
        try simp only [Act.put, List.setIfInBounds_toArray, List.set_cons_zero, List.set_cons_succ, List.getElem_toArray, List.getElem_cons_zero, List.getElem_cons_succ]
        refine wpAnyH_ready (rs := [21]) (by kernel_rfl) (by simp) ?_
        refine AllReadyH.cons rfl (fun K hK => ?_) AllReadyH.nil
        go_simp
        go_at_call 15
        have hGc := GBA _ hH
        with_reducible refine hGc.out.mono ?_
        clear hGc
        rintro e wqc ⟨rfl, hbc⟩
        go_wp2_with fail
        refine hK.out _ _ (KS.out _ _ hbc hH) (fun hH2 => ?_)
        clear hK K hH
        have hH := hH2
        clear hH2
        try simp only [Act.put, List.setIfInBounds_toArray, List.set_cons_zero, List.set_cons_succ, List.getElem_toArray, List.getElem_cons_zero, List.getElem_cons_succ]
        refine wpAnyH_take (i := 22) (v := ?v77) rfl (by kernel_rfl) (by kernel_rfl) (by kernel_rfl) (fun _ _ _ h => h) (Or.inl ⟨by rfl, ?hy77⟩) hH ?rest77
        case hy77 => (intro w hSw; (try dsimp only at hSw); go_simp; try with_reducible rfl)
        try simp only [Act.put, List.setIfInBounds_toArray, List.set_cons_zero, List.set_cons_succ, List.getElem_toArray, List.getElem_cons_zero, List.getElem_cons_succ]
        refine wpAnyH_ready (rs := [25]) (by kernel_rfl) (by simp) ?_
        refine AllReadyH.cons rfl (fun K hK => ?_) AllReadyH.nil
        go_simp
        go_at_call 13
        have hGd := GSA _ hH
        with_reducible refine hGd.out.mono ?_
        clear hGd
        rintro e wqd ⟨rfl, hbd⟩
        go_wp2_with fail
        refine hK.out _ _ (KS.out _ _ hbd hH) (fun hH2 => ?_)
        clear hK K hH
        have hH := hH2
        clear hH2
        try simp only [Act.put, List.setIfInBounds_toArray, List.set_cons_zero, List.set_cons_succ, List.getElem_toArray, List.getElem_cons_zero, List.getElem_cons_succ]
        refine wpAnyH_take (i := 26) (v := ?v78) rfl (by kernel_rfl) (by kernel_rfl) (by kernel_rfl) (fun _ _ _ h => h) (Or.inl ⟨by rfl, ?hy78⟩) hH ?rest78
        case hy78 => (intro w hSw; (try dsimp only at hSw); go_simp; try with_reducible rfl)
        try simp only [Act.put, List.setIfInBounds_toArray, List.set_cons_zero, List.set_cons_succ, List.getElem_toArray, List.getElem_cons_zero, List.getElem_cons_succ]
        refine wpAnyH_take (i := 27) (v := ?v79) rfl (by kernel_rfl) (by kernel_rfl) (by kernel_rfl) (fun _ _ _ h => h) (Or.inl ⟨by rfl, ?hy79⟩) hH ?rest79
        case hy79 => (intro w hSw; (try dsimp only at hSw); go_simp; try with_reducible rfl)
        try simp only [Act.put, List.setIfInBounds_toArray, List.set_cons_zero, List.set_cons_succ, List.getElem_toArray, List.getElem_cons_zero, List.getElem_cons_succ]
        refine wpAnyH_take (i := 28) (v := ?v80) rfl (by kernel_rfl) (by kernel_rfl) (by kernel_rfl) (fun _ _ _ h => h) (Or.inl ⟨by rfl, ?hy80⟩) hH ?rest80
        case hy80 => (intro w hSw; (try dsimp only at hSw); go_simp; try with_reducible rfl)
        try simp only [Act.put, List.setIfInBounds_toArray, List.set_cons_zero, List.set_cons_succ, List.getElem_toArray, List.getElem_cons_zero, List.getElem_cons_succ]
        refine wpAnyH_done (by kernel_rfl) ?_ _
        (
          have BX := BF.trans (hH.2.2.2.mono (by omega))
          go_wp2
          go_ret
          exact ⟨rfl, BX⟩)
      · go_wp2_with fail
        refine wp_region_held_drew (S := fun v => (v.cell? ⟨w.heap.size, 0, none⟩ = some (.int .i64 a0) ∧ v.cell? ⟨w.heap.size, 1, none⟩ = some (.slice A0 x0.length c0)) ∧ (v.cell? ⟨w.heap.size + 1, 0, none⟩ = some (.int .i64 a1) ∧ v.cell? ⟨w.heap.size + 1, 1, none⟩ = some (.slice A1 x1.length c1)) ∧ (v.cell? ⟨w.heap.size + 1 + 1, 0, none⟩ = some (.int .i64 a2) ∧ v.cell? ⟨w.heap.size + 1 + 1, 1, none⟩ = some (.slice A2 x2.length c2)) ∧ Below w6.heap.size w6 v) (by kernel_rfl) (KD.out _ S0) (fun hH => ?_)
        refine wpAnyH_take (i := 0) (v := ?v81) rfl (by kernel_rfl) (by kernel_rfl) (by kernel_rfl) (fun _ _ _ h => h) (Or.inl ⟨by rfl, ?hy81⟩) hH ?rest81
        case hy81 => (intro w hSw; (try dsimp only at hSw); go_simp; try with_reducible rfl)
        try simp only [Act.put, List.setIfInBounds_toArray, List.set_cons_zero, List.set_cons_succ, List.getElem_toArray, List.getElem_cons_zero, List.getElem_cons_succ]
        refine wpAnyH_take (i := 1) (v := ?v82) rfl (by kernel_rfl) (by kernel_rfl) (by kernel_rfl) (fun _ _ _ h => h) (Or.inl ⟨by rfl, ?hy82⟩) hH ?rest82
        case hy82 => (intro w hSw; (try dsimp only at hSw); go_simp; try with_reducible rfl)
        try simp only [Act.put, List.setIfInBounds_toArray, List.set_cons_zero, List.set_cons_succ, List.getElem_toArray, List.getElem_cons_zero, List.getElem_cons_succ]
        refine wpAnyH_ready (rs := [2]) (by kernel_rfl) (by simp) ?_
        refine AllReadyH.cons rfl (fun K hK => ?_) AllReadyH.nil
        go_simp
        go_at_call 15
        have hGa := GAA _ hH
        with_reducible refine hGa.out.mono ?_
        clear hGa
        rintro e wqa ⟨rfl, hba⟩
        go_wp2_with fail
        refine hK.out _ _ (KS.out _ _ hba hH) (fun hH2 => ?_)
        clear hK K hH
        have hH := hH2
        clear hH2
        try simp only [Act.put, List.setIfInBounds_toArray, List.set_cons_zero, List.set_cons_succ, List.getElem_toArray, List.getElem_cons_zero, List.getElem_cons_succ]
        refine wpAnyH_take (i := 3) (v := ?v83) rfl (by kernel_rfl) (by kernel_rfl) (by kernel_rfl) (fun _ _ _ h => h) (Or.inl ⟨by rfl, ?hy83⟩) hH ?rest83
        case hy83 => (intro w hSw; (try dsimp only at hSw); go_simp; try with_reducible rfl)
        try simp only [Act.put, List.setIfInBounds_toArray, List.set_cons_zero, List.set_cons_succ, List.getElem_toArray, List.getElem_cons_zero, List.getElem_cons_succ]
        refine wpAnyH_take (i := 4) (v := ?v84) rfl (by kernel_rfl) (by kernel_rfl) (by kernel_rfl) (fun _ _ _ h => h) (Or.inl ⟨by rfl, ?hy84⟩) hH ?rest84
        case hy84 => (intro w hSw; (try dsimp only at hSw); go_simp; try with_reducible rfl)
        try simp only [Act.put, List.setIfInBounds_toArray, List.set_cons_zero, List.set_cons_succ, List.getElem_toArray, List.getElem_cons_zero, List.getElem_cons_succ]
        refine wpAnyH_take (i := 5) (v := ?v85) rfl (by kernel_rfl) (by kernel_rfl) (by kernel_rfl) (fun _ _ _ h => h) (Or.inl ⟨by rfl, ?hy85⟩) hH ?rest85
        case hy85 => (intro w hSw; (try dsimp only at hSw); go_simp; try with_reducible rfl)
        try simp only [Act.put, List.setIfInBounds_toArray, List.set_cons_zero, List.set_cons_succ, List.getElem_toArray, List.getElem_cons_zero, List.getElem_cons_succ]
        refine wpAnyH_take (i := 6) (v := ?v86) rfl (by kernel_rfl) (by kernel_rfl) (by kernel_rfl) (fun _ _ _ h => h) (Or.inl ⟨by rfl, ?hy86⟩) hH ?rest86
        case hy86 => (intro w hSw; (try dsimp only at hSw); go_simp; try with_reducible rfl)
        try simp only [Act.put, List.setIfInBounds_toArray, List.set_cons_zero, List.set_cons_succ, List.getElem_toArray, List.getElem_cons_zero, List.getElem_cons_succ]
        refine wpAnyH_take (i := 7) (v := ?v87) rfl (by kernel_rfl) (by kernel_rfl) (by kernel_rfl) (fun _ _ _ h => h) (Or.inl ⟨by rfl, ?hy87⟩) hH ?rest87
        case hy87 => (intro w hSw; (try dsimp only at hSw); go_simp; try with_reducible rfl)
        try simp only [Act.put, List.setIfInBounds_toArray, List.set_cons_zero, List.set_cons_succ, List.getElem_toArray, List.getElem_cons_zero, List.getElem_cons_succ]
        refine wpAnyH_take (i := 8) (v := ?v88) rfl (by kernel_rfl) (by kernel_rfl) (by kernel_rfl) (fun _ _ _ h => h) (Or.inl ⟨by rfl, ?hy88⟩) hH ?rest88
        case hy88 => (intro w hSw; (try dsimp only at hSw); go_simp; try with_reducible rfl)
        try simp only [Act.put, List.setIfInBounds_toArray, List.set_cons_zero, List.set_cons_succ, List.getElem_toArray, List.getElem_cons_zero, List.getElem_cons_succ]
        refine wpAnyH_take (i := 9) (v := ?v89) rfl (by kernel_rfl) (by kernel_rfl) (by kernel_rfl) (fun _ _ _ h => h) (Or.inl ⟨by rfl, ?hy89⟩) hH ?rest89
        case hy89 => (intro w hSw; (try dsimp only at hSw); go_simp; try with_reducible rfl)
        try simp only [Act.put, List.setIfInBounds_toArray, List.set_cons_zero, List.set_cons_succ, List.getElem_toArray, List.getElem_cons_zero, List.getElem_cons_succ]
        refine wpAnyH_take (i := 10) (v := ?v90) rfl (by kernel_rfl) (by kernel_rfl) (by kernel_rfl) (fun _ _ _ h => h) (Or.inl ⟨by rfl, ?hy90⟩) hH ?rest90
        case hy90 => (intro w hSw; (try dsimp only at hSw); go_simp; try with_reducible rfl)
        try simp only [Act.put, List.setIfInBounds_toArray, List.set_cons_zero, List.set_cons_succ, List.getElem_toArray, List.getElem_cons_zero, List.getElem_cons_succ]
        refine wpAnyH_take (i := 11) (v := undef) rfl (by kernel_rfl) (by kernel_rfl) (by kernel_rfl) (fun _ _ _ h => h) (Or.inr ⟨by rfl, rfl⟩) hH ?_
        try simp only [Act.put, List.setIfInBounds_toArray, List.set_cons_zero, List.set_cons_succ, List.getElem_toArray, List.getElem_cons_zero, List.getElem_cons_succ]
        refine wpAnyH_take (i := 12) (v := undef) rfl (by kernel_rfl) (by kernel_rfl) (by kernel_rfl) (fun _ _ _ h => h) (Or.inr ⟨by rfl, rfl⟩) hH ?_
        try simp only [Act.put, List.setIfInBounds_toArray, List.set_cons_zero, List.set_cons_succ, List.getElem_toArray, List.getElem_cons_zero, List.getElem_cons_succ]
        refine wpAnyH_take (i := 13) (v := undef) rfl (by kernel_rfl) (by kernel_rfl) (by kernel_rfl) (fun _ _ _ h => h) (Or.inr ⟨by rfl, rfl⟩) hH ?_
        try simp only [Act.put, List.setIfInBounds_toArray, List.set_cons_zero, List.set_cons_succ, List.getElem_toArray, List.getElem_cons_zero, List.getElem_cons_succ]
        refine wpAnyH_take (i := 14) (v := ?v94) rfl (by kernel_rfl) (by kernel_rfl) (by kernel_rfl) (fun _ _ _ h => h) (Or.inl ⟨by rfl, ?hy94⟩) hH ?rest94
        case hy94 => (intro w hSw; (try dsimp only at hSw); go_simp; try with_reducible rfl)
        try simp only [Act.put, List.setIfInBounds_toArray, List.set_cons_zero, List.set_cons_succ, List.getElem_toArray, List.getElem_cons_zero, List.getElem_cons_succ]
        refine wpAnyH_take (i := 15) (v := ?v95) rfl (by kernel_rfl) (by kernel_rfl) (by kernel_rfl) (fun _ _ _ h => h) (Or.inl ⟨by rfl, ?hy95⟩) hH ?rest95
        case hy95 => (intro w hSw; (try dsimp only at hSw); go_simp; try with_reducible rfl)
        try simp only [Act.put, List.setIfInBounds_toArray, List.set_cons_zero, List.set_cons_succ, List.getElem_toArray, List.getElem_cons_zero, List.getElem_cons_succ]
        refine wpAnyH_take (i := 16) (v := ?v96) rfl (by kernel_rfl) (by kernel_rfl) (by kernel_rfl) (fun _ _ _ h => h) (Or.inl ⟨by rfl, ?hy96⟩) hH ?rest96
        case hy96 => (intro w hSw; (try dsimp only at hSw); go_simp; try with_reducible rfl)
        try simp only [Act.put, List.setIfInBounds_toArray, List.set_cons_zero, List.set_cons_succ, List.getElem_toArray, List.getElem_cons_zero, List.getElem_cons_succ]
        refine wpAnyH_take (i := 17) (v := ?v97) rfl (by kernel_rfl) (by kernel_rfl) (by kernel_rfl) (fun _ _ _ h => h) (Or.inl ⟨by rfl, ?hy97⟩) hH ?rest97
        case hy97 => (intro w hSw; (try dsimp only at hSw); go_simp; try with_reducible rfl)
        try simp only [Act.put, List.setIfInBounds_toArray, List.set_cons_zero, List.set_cons_succ, List.getElem_toArray, List.getElem_cons_zero, List.getElem_cons_succ]
        refine wpAnyH_take (i := 18) (v := ?v98) rfl (by kernel_rfl) (by kernel_rfl) (by kernel_rfl) (fun _ _ _ h => h) (Or.inl ⟨by rfl, ?hy98⟩) hH ?rest98
        case hy98 => (intro w hSw; (try dsimp only at hSw); go_simp; try with_reducible rfl)
        try simp only [Act.put, List.setIfInBounds_toArray, List.set_cons_zero, List.set_cons_succ, List.getElem_toArray, List.getElem_cons_zero, List.getElem_cons_succ]
        refine wpAnyH_take (i := 19) (v := ?v99) rfl (by kernel_rfl) (by kernel_rfl) (by kernel_rfl) (fun _ _ _ h => h) (Or.inl ⟨by rfl, ?hy99⟩) hH ?rest99
        case hy99 => (intro w hSw; (try dsimp only at hSw); go_simp; try with_reducible rfl)
        try simp only [Act.put, List.setIfInBounds_toArray, List.set_cons_zero, List.set_cons_succ, List.getElem_toArray, List.getElem_cons_zero, List.getElem_cons_succ]
        refine wpAnyH_take (i := 20) (v := ?v100) rfl (by kernel_rfl) (by kernel_rfl) (by kernel_rfl) (fun _ _ _ h => h) (Or.inl ⟨by rfl, ?hy100⟩) hH ?rest100
        case hy100 => (intro w hSw; (try dsimp only at hSw); go_simp; try with_reducible rfl)
        try simp only [Act.put, List.setIfInBounds_toArray, List.set_cons_zero, List.set_cons_succ, List.getElem_toArray, List.getElem_cons_zero, List.getElem_cons_succ]
        refine wpAnyH_take (i := 23) (v := ?v101) rfl (by kernel_rfl) (by kernel_rfl) (by kernel_rfl) (fun _ _ _ h => h) (Or.inl ⟨by rfl, ?hy101⟩) hH ?rest101
        case hy101 => (intro w hSw; (try dsimp only at hSw); go_simp; try with_reducible rfl)
        try simp only [Act.put, List.setIfInBounds_toArray, List.set_cons_zero, List.set_cons_succ, List.getElem_toArray, List.getElem_cons_zero, List.getElem_cons_succ]
        refine wpAnyH_take (i := 24) (v := ?v102) rfl (by kernel_rfl) (by kernel_rfl) (by kernel_rfl) (fun _ _ _ h => h) (Or.inl ⟨by rfl, ?hy102⟩) hH ?rest102
        case hy102 => (intro w hSw; (try dsimp only at hSw); go_simp; try with_reducible rfl)
        try simp only [Act.put, List.setIfInBounds_toArray, List.set_cons_zero, List.set_cons_succ, List.getElem_toArray, List.getElem_cons_zero, List.getElem_cons_succ]
        refine wpAnyH_ready (rs := [21]) (by kernel_rfl) (by simp) ?_
        refine AllReadyH.cons rfl (fun K hK => ?_) AllReadyH.nil
        go_simp
        go_at_call 15
        have hGc := GBA _ hH
        with_reducible refine hGc.out.mono ?_
        clear hGc
        rintro e wqc ⟨rfl, hbc⟩
        go_wp2_with fail
        refine hK.out _ _ (KS.out _ _ hbc hH) (fun hH2 => ?_)
        clear hK K hH
        have hH := hH2
        clear hH2
        try simp only [Act.put, List.setIfInBounds_toArray, List.set_cons_zero, List.set_cons_succ, List.getElem_toArray, List.getElem_cons_zero, List.getElem_cons_succ]
        refine wpAnyH_take (i := 22) (v := ?v103) rfl (by kernel_rfl) (by kernel_rfl) (by kernel_rfl) (fun _ _ _ h => h) (Or.inl ⟨by rfl, ?hy103⟩) hH ?rest103
        case hy103 => (intro w hSw; (try dsimp only at hSw); go_simp; try with_reducible rfl)
        try simp only [Act.put, List.setIfInBounds_toArray, List.set_cons_zero, List.set_cons_succ, List.getElem_toArray, List.getElem_cons_zero, List.getElem_cons_succ]
        refine wpAnyH_ready (rs := [25]) (by kernel_rfl) (by simp) ?_
        refine AllReadyH.cons rfl (fun K hK => ?_) AllReadyH.nil
        go_simp
        go_at_call 13
        have hGd := GSA _ hH
        with_reducible refine hGd.out.mono ?_
        clear hGd
        rintro e wqd ⟨rfl, hbd⟩
        go_wp2_with fail
        refine hK.out _ _ (KS.out _ _ hbd hH) (fun hH2 => ?_)
        clear hK K hH
        have hH := hH2
        clear hH2
        try simp only [Act.put, List.setIfInBounds_toArray, List.set_cons_zero, List.set_cons_succ, List.getElem_toArray, List.getElem_cons_zero, List.getElem_cons_succ]
        refine wpAnyH_take (i := 26) (v := ?v104) rfl (by kernel_rfl) (by kernel_rfl) (by kernel_rfl) (fun _ _ _ h => h) (Or.inl ⟨by rfl, ?hy104⟩) hH ?rest104
        case hy104 => (intro w hSw; (try dsimp only at hSw); go_simp; try with_reducible rfl)
        try simp only [Act.put, List.setIfInBounds_toArray, List.set_cons_zero, List.set_cons_succ, List.getElem_toArray, List.getElem_cons_zero, List.getElem_cons_succ]
        refine wpAnyH_take (i := 27) (v := ?v105) rfl (by kernel_rfl) (by kernel_rfl) (by kernel_rfl) (fun _ _ _ h => h) (Or.inl ⟨by rfl, ?hy105⟩) hH ?rest105
        case hy105 => (intro w hSw; (try dsimp only at hSw); go_simp; try with_reducible rfl)
        try simp only [Act.put, List.setIfInBounds_toArray, List.set_cons_zero, List.set_cons_succ, List.getElem_toArray, List.getElem_cons_zero, List.getElem_cons_succ]
        refine wpAnyH_take (i := 28) (v := ?v106) rfl (by kernel_rfl) (by kernel_rfl) (by kernel_rfl) (fun _ _ _ h => h) (Or.inl ⟨by rfl, ?hy106⟩) hH ?rest106
        case hy106 => (intro w hSw; (try dsimp only at hSw); go_simp; try with_reducible rfl)
        try simp only [Act.put, List.setIfInBounds_toArray, List.set_cons_zero, List.set_cons_succ, List.getElem_toArray, List.getElem_cons_zero, List.getElem_cons_succ]
        refine wpAnyH_done (by kernel_rfl) ?_ _
        (
          have BX := BF.trans (hH.2.2.2.mono (by omega))
          go_wp2
          go_ret
          exact ⟨rfl, BX⟩)
    · obtain rfl : z = true := hz rfl rfl
      cases y
      · go_wp2_with fail
        first
          | (go_region_held3 (fun v => (v.cell? ⟨w.heap.size, 0, none⟩ = some (.int .i64 a0) ∧ v.cell? ⟨w.heap.size, 1, none⟩ = some (.slice A0 x0.length c0)) ∧ (v.cell? ⟨w.heap.size + 1, 0, none⟩ = some (.int .i64 a1) ∧ v.cell? ⟨w.heap.size + 1, 1, none⟩ = some (.slice A1 x1.length c1)) ∧ (v.cell? ⟨w.heap.size + 1 + 1, 0, none⟩ = some (.int .i64 a2) ∧ v.cell? ⟨w.heap.size + 1 + 1, 1, none⟩ = some (.slice A2 x2.length c2)) ∧ Below w6.heap.size w6 v)
              (first | (exact S0) | (exact KD.out _ S0) | (refine KS.out _ _ hbd ?_; first | assumption | exact KD.out _ S0) | (refine KS.out _ _ hbc ?_; first | assumption | exact KD.out _ S0) | (refine KS.out _ _ hbb ?_; first | assumption | exact KD.out _ S0) | (refine KS.out _ _ hba ?_; first | assumption | exact KD.out _ S0) | (refine KD.out _ ?_; assumption))
              (first | (go_at_call 15; (with_reducible refine (GAA _ ?_).out.mono ?_); (focus (first | assumption | exact KD.out _ S0)); rintro e wqa ⟨rfl, hba⟩) | (go_at_call 15; (with_reducible refine (GAC _ ?_).out.mono ?_); (focus (first | assumption | exact KD.out _ S0)); rintro e wqb ⟨rfl, hbb⟩) | (go_at_call 15; (with_reducible refine (GBA _ ?_).out.mono ?_); (focus (first | assumption | exact KD.out _ S0)); rintro e wqc ⟨rfl, hbc⟩) | (go_at_call 13; (with_reducible refine (GSA _ ?_).out.mono ?_); (focus (first | assumption | exact KD.out _ S0)); rintro e wqd ⟨rfl, hbd⟩)))
          | fail
        all_goals (
          rename_i hSx
          have BX := BF.trans (hSx.2.2.2.mono (by omega))
          go_wp2
          go_ret
          exact ⟨rfl, BX⟩)
      · go_wp2_with fail
        first
          | (go_region_held3 (fun v => (v.cell? ⟨w.heap.size, 0, none⟩ = some (.int .i64 a0) ∧ v.cell? ⟨w.heap.size, 1, none⟩ = some (.slice A0 x0.length c0)) ∧ (v.cell? ⟨w.heap.size + 1, 0, none⟩ = some (.int .i64 a1) ∧ v.cell? ⟨w.heap.size + 1, 1, none⟩ = some (.slice A1 x1.length c1)) ∧ (v.cell? ⟨w.heap.size + 1 + 1, 0, none⟩ = some (.int .i64 a2) ∧ v.cell? ⟨w.heap.size + 1 + 1, 1, none⟩ = some (.slice A2 x2.length c2)) ∧ Below w6.heap.size w6 v)
              (first | (exact S0) | (exact KD.out _ S0) | (refine KS.out _ _ hbd ?_; first | assumption | exact KD.out _ S0) | (refine KS.out _ _ hbc ?_; first | assumption | exact KD.out _ S0) | (refine KS.out _ _ hbb ?_; first | assumption | exact KD.out _ S0) | (refine KS.out _ _ hba ?_; first | assumption | exact KD.out _ S0) | (refine KD.out _ ?_; assumption))
              (first | (go_at_call 15; (with_reducible refine (GAA _ ?_).out.mono ?_); (focus (first | assumption | exact KD.out _ S0)); rintro e wqa ⟨rfl, hba⟩) | (go_at_call 15; (with_reducible refine (GAC _ ?_).out.mono ?_); (focus (first | assumption | exact KD.out _ S0)); rintro e wqb ⟨rfl, hbb⟩) | (go_at_call 15; (with_reducible refine (GBA _ ?_).out.mono ?_); (focus (first | assumption | exact KD.out _ S0)); rintro e wqc ⟨rfl, hbc⟩) | (go_at_call 13; (with_reducible refine (GSA _ ?_).out.mono ?_); (focus (first | assumption | exact KD.out _ S0)); rintro e wqd ⟨rfl, hbd⟩)))
          | fail
        all_goals (
          rename_i hSx
          have BX := BF.trans (hSx.2.2.2.mono (by omega))
          go_wp2
          go_ret
          exact ⟨rfl, BX⟩)

theorem walk (a0 : Int) (A0 : Option Addr) (c0 : Nat) (x0 : List Int) (a1 : Int) (A1 : Option Addr) (c1 : Nat) (x1 : List Int) (a2 : Int) (A2 : Option Addr) (c2 : Nat) (x2 : List Int) (w : World) (s0 : Sl w w.heap.size .i64 A0 x0) (s1 : Sl w w.heap.size .i64 A1 x1) (s2 : Sl w w.heap.size .i64 A2 x2) : Calls Try.prog 7 #[.agg #[.int .i64 a0, .slice A0 x0.length c0], .agg #[.int .i64 a1, .slice A1 x1.length c1], .agg #[.int .i64 a2, .slice A2 x2.length c2]] w (UpPost w) := by
  have e : wi a0 x0 a0 x0 = true := wi_iff.2 ⟨Int.le_refl _, fun i => Int.le_refl _⟩
  exact rest (wi a0 x0 a1 x1) (wi a1 x1 a2 x2) (wi a0 x0 a2 x2) (wi a1 x1 a0 x0) a0 A0 c0 x0 a1 A1 c1 x1 a2 A2 c2 x2 w s0 s1 s2 _ _ _
    (fun h1 h2 => wi_iff.2 ⟨Int.le_trans (wi_iff.1 h1).1 (wi_iff.1 h2).1, fun i => Int.le_trans ((wi_iff.1 h1).2 i) ((wi_iff.1 h2).2 i)⟩)
    (fun W => few_any a0 A0 x0.length c0 W) (fun W => few_any a1 A1 x1.length c1 W) (fun W => few_any a2 A2 x2.length c2 W)
    (fun h0 h1 h2 W e1 e2 => by have := within_any a0 a0 A0 A0 c0 c0 x0 x0 W e1 e2 (by have := of_decide_eq_true h0; omega) (by have := of_decide_eq_true h0; omega); rw [e] at this; exact this) (fun h0 h1 h2 W e1 e2 => within_any _ _ _ _ _ _ x0 x1 W e1 e2 (by have := of_decide_eq_true h0; have := of_decide_eq_true h1; have := of_decide_eq_true h2; omega) (by have := of_decide_eq_true h0; have := of_decide_eq_true h1; have := of_decide_eq_true h2; omega)) (fun h0 h1 h2 W e1 e2 => within_any _ _ _ _ _ _ x1 x2 W e1 e2 (by have := of_decide_eq_true h0; have := of_decide_eq_true h1; have := of_decide_eq_true h2; omega) (by have := of_decide_eq_true h0; have := of_decide_eq_true h1; have := of_decide_eq_true h2; omega)) (fun h0 h1 h2 W e1 e2 => within_any _ _ _ _ _ _ x0 x2 W e1 e2 (by have := of_decide_eq_true h0; have := of_decide_eq_true h1; have := of_decide_eq_true h2; omega) (by have := of_decide_eq_true h0; have := of_decide_eq_true h1; have := of_decide_eq_true h2; omega)) (fun h0 h1 h2 W e1 e2 => within_any _ _ _ _ _ _ x1 x0 W e1 e2 (by have := of_decide_eq_true h0; have := of_decide_eq_true h1; have := of_decide_eq_true h2; omega) (by have := of_decide_eq_true h0; have := of_decide_eq_true h1; have := of_decide_eq_true h2; omega))
    (fun h0 h1 h2 W e1 e2 => same_any _ _ _ _ _ _ x0 x1 W e1 e2 (by have := of_decide_eq_true h0; have := of_decide_eq_true h1; have := of_decide_eq_true h2; omega) (by have := of_decide_eq_true h0; have := of_decide_eq_true h1; have := of_decide_eq_true h2; omega))

theorem own : ownKnob Try.prog.godebug = none := by kernel_rfl
theorem laidOut : laidOutB Try.prog = true := by kernel_rfl

set_option maxRecDepth 100000 in
theorem lifted (os : Os) (started : os.Started) (H : Type) (enc : TypeId × Value → H) :
    ReturnsInHanded {} Try.checked os 7 .any (Rows.attrOrderSpec.pre6 enc Try.prog Try.f7 Rows.attrOrderRow.domain false) (Rows.attrOrderSpec.post enc Try.prog Try.f7 false true false false) := by
  refine returnsInHanded_of_change (C := Try.checked) own started (by kernel_rfl) Try.func7
    (ChangeSpec.witness6 (enc := enc) (C := Try.checked) false ⟨#[], #[.agg #[.int .i64 0, .slice none 0 0], .agg #[.int .i64 0, .slice none 0 0], .agg #[.int .i64 0, .slice none 0 0]], []⟩ 8 (by kernel_rfl) (by kernel_rfl) (by kernel_rfl) (by kernel_rfl)) ?_
  intro W base args ds gs before hval0 hW hcnd _
  have hval : ∀ (j : Nat) t v, Try.f7.params[j]? = some t → args[j]? = some v → Value.okWide Try.prog W .any base t v := hval0
  have hW' := hW
  obtain ⟨p, q, hA, hV, rfl, hfz, hnd⟩ := hW
  have hA : DataW.TrodAll enc Try.prog W 0 (fun _ => true) true Try.f7.params.toList args.toList ds p := hA
  rw [Try.params7] at hA hval
  obtain ⟨v0, vs0, d0, ds0, p0, q0, hargs, rfl, rfl, h0, r0⟩ := trodAll_cons hA
  obtain ⟨v1, vs1, d1, ds1, p1, q1, rfl, rfl, rfl, h1, r1⟩ := trodAll_cons r0
  obtain ⟨v2, vs2, d2, ds2, p2, q2, rfl, rfl, rfl, h2, r2⟩ := trodAll_cons r1
  obtain ⟨rfl, rfl, rfl⟩ := trodAll_nil r2
  obtain rfl : args = #[v0, v1, v2] := by cases args; simp_all
  obtain ⟨rfl, rfl⟩ := trodVars_none hV
  have k0 := h0
  have lt0 : ∀ x ∈ p0, x.block < W.heap.size := by obtain ⟨m, hm⟩ := k0; exact DataW.trod_lt m _ _ _ hm
  obtain ⟨a0, A0, c0, x0, rfl, s0⟩ := open_attr (hval 0 24 v0 rfl rfl) h0
  have k1 := h1
  have lt1 : ∀ x ∈ p1, x.block < W.heap.size := by obtain ⟨m, hm⟩ := k1; exact DataW.trod_lt m _ _ _ hm
  obtain ⟨a1, A1, c1, x1, rfl, s1⟩ := open_attr (hval 1 24 v1 rfl rfl) h1
  have k2 := h2
  have lt2 : ∀ x ∈ p2, x.block < W.heap.size := by obtain ⟨m, hm⟩ := k2; exact DataW.trod_lt m _ _ _ hm
  obtain ⟨a2, A2, c2, x2, rfl, s2⟩ := open_attr (hval 2 24 v2 rfl rfl) h2
  clear hval0
  refine (walk a0 A0 c0 x0 a1 A1 c1 x1 a2 A2 c2 x2 W s0 s1 s2).mono fun e W' ⟨he, bel⟩ => ?_
  subst he
  exact ⟨_, rfl, _, _, _, [], _, [], hW', trodAll_mk1 (shut_bool Try.underlying4 _), (trodAll_cons_mk (Below.trod laidOut (by kernel_rfl) (of_decide_eq_true (by kernel_rfl)) k0 bel lt0) (trodAll_cons_mk (Below.trod laidOut (by kernel_rfl) (of_decide_eq_true (by kernel_rfl)) k1 bel lt1) (trodAll_cons_mk (Below.trod laidOut (by kernel_rfl) (of_decide_eq_true (by kernel_rfl)) k2 bel lt2) trodAll_mk0))), rfl, bel.frame _, fun h => by cases h⟩

theorem over : Rows.attrOrderRow.holds Try.pinned (OpenSpec.ofChange Rows.attrOrderSpec) :=
  OpenClaim.holds_of_wide 7 Try.f7 rfl rfl rfl rfl rfl rfl rfl ⟨rfl, rfl, rfl, rfl, rfl⟩ rfl rfl rfl rfl rfl (by kernel_rfl) Try.func7 (by kernel_rfl)
    (of_decide_eq_true (by kernel_rfl)) (by unfold Func.isWrapper; first | (rw [if_pos (by decide +kernel)]; kernel_rfl) | (rw [if_neg (by decide +kernel)]; exact ⟨rfl, rfl⟩))
    (fun os started H enc _ => lifted os started H enc)

theorem proved : Rows.AttrOrderSaid := over
#print axioms proved
end Go.Proofs.Ytiedagbboednkaa.attrOrder
