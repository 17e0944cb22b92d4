/-
  Who waits for nothing is within all that may be; noughts at the end change nothing; nobody waits for a slot below 1: AttrNone answers true whatever the attribute and the instance; they read as they did. Conditions: none.
-/
import Derived.Test.YtiedagbboednkaaApp
import Derived.Deep.RegionLaw
import Derived.Deep.DeepCutAuto
import Derived.Deep.AppendLies
namespace Go.Proofs.Ytiedagbboednkaa.attrNone
open Go.ChangeShapes Go.WideShapes Go.ChangeAt Go.RowKit
set_option linter.unusedVariables false
set_option linter.unusedSimpArgs false

theorem nay (a0 : Int) (A0 : Option Addr) (c0 : Nat) (x0 : List Int) (a1 b1 : Int) (w : World) (s0 : Sl w w.heap.size .i64 A0 x0) (w1 : a1 ≤ 9223372036854775807) (v1 : b1 ≤ 9223372036854775807) (K0 : ∀ W, Sl W W.heap.size .i64 A0 x0 → Hid (Calls Try.prog 11 #[.agg #[.int .i64 a0, .slice A0 x0.length c0], .int .i64 5] W (BoolPost W false))) : Calls Try.prog 8 #[.agg #[.int .i64 a0, .slice A0 x0.length c0], .agg #[.int .i64 a1, .int .i64 b1]] w (UpPost w) := by
  go_enter Try.func8, Try.ntmps8
  go_wp2_with fail
  have BW : Below w.heap.size w ((w.alloc (.cells #[.int .i64 a0, .slice A0 x0.length c0] 24)).alloc (.cells #[.int .i64 a1, .int .i64 b1] 26)) := ((Below.refl _ _).alloc (Nat.le_refl _) _).alloc (by simp) _
  have Z0 : ((w.alloc (.cells #[.int .i64 a0, .slice A0 x0.length c0] 24)).alloc (.cells #[.int .i64 a1, .int .i64 b1] 26)).heap.size = w.heap.size + 1 + 1 := by simp
  have C0 : Rb ((w.alloc (.cells #[.int .i64 a0, .slice A0 x0.length c0] 24)).alloc (.cells #[.int .i64 a1, .int .i64 b1] 26)) (w.heap.size) a0 A0 x0.length c0 := by
    have := ((ax_new w a0 A0 x0.length c0).old (.cells #[.int .i64 a1, .int .i64 b1] 26)).rb
    exact this
  have C1 : Ib ((w.alloc (.cells #[.int .i64 a0, .slice A0 x0.length c0] 24)).alloc (.cells #[.int .i64 a1, .int .i64 b1] 26)) (w.heap.size + 1) a1 b1 := by
    have := (ix_new (w.alloc (.cells #[.int .i64 a0, .slice A0 x0.length c0] 24)) a1 b1).ib
    rw [show (w.alloc (.cells #[.int .i64 a0, .slice A0 x0.length c0] 24)).heap.size = w.heap.size + 1 by simp] at this
    exact this
  have X0 := s0.to BW BW.size
  generalize ((w.alloc (.cells #[.int .i64 a0, .slice A0 x0.length c0] 24)).alloc (.cells #[.int .i64 a1, .int .i64 b1] 26)) = W0 at *
  refine (awake_any W0).mono ?_
  rintro e w1 ⟨rfl, B1⟩
  have q1 := B1.size
  have B01 := B1
  obtain ⟨p0, r0⟩ := C0.on B01 (by omega)
  obtain ⟨p1, r1⟩ := C1.on B01 (by omega)
  go_wp2_with fail
  clear p0 r0 p1 r1
  refine (K0 _ (X0.up B01)).out.mono ?_
  rintro e w2 ⟨rfl, B2⟩
  have q2 := B2.size
  have B02 := B01.trans (B2.mono (by omega))
  go_wp2
  go_ret
  exact ⟨rfl, BW.trans (B02.mono BW.size)⟩

set_option maxHeartbeats 8000000 in
theorem rest (t : Bool) (sm : Int) (xm : List Int) (a0 : Int) (A0 : Option Addr) (c0 : Nat) (x0 : List Int) (a1 b1 : Int) (w : World) (s0 : Sl w w.heap.size .i64 A0 x0) (w1 : a1 ≤ 9223372036854775807) (v1 : b1 ≤ 9223372036854775807) (hl : x0.length ≤ 1000) (ht : ¬ 1 ≤ b1 → t = false) (K0 : ∀ W, Sl W W.heap.size .i64 A0 x0 → Hid (Calls Try.prog 11 #[.agg #[.int .i64 a0, .slice A0 x0.length c0], .int .i64 5] W (BoolPost W true)))
    (G0 : ∀ W, Sl W W.heap.size .i64 A0 x0 → Hid (Calls Try.prog 15 #[.agg #[.int .i64 0, .slice none 0 0], .agg #[.int .i64 a0, .slice A0 x0.length c0]] W (BoolPost W true)))
    (G1 : ∀ W E d, Sl W W.heap.size .i64 A0 x0 → Sl W W.heap.size .i64 E (x0 ++ [0, 0]) → Hid (Calls Try.prog 13 #[.agg #[.int .i64 a0, .slice A0 x0.length c0], .agg #[.int .i64 a0, .slice E (x0.length + 2) d]] W (BoolPost W true)))
    (G2 : ∀ W A c, Rc W W.heap.size A [(a0, x0), (0, [])] → Hid (Calls Try.prog 19 #[.slice A 2 c] W (AtPost W sm xm)))
    (G3 : ∀ W A c, Sl W W.heap.size .i64 A xm → Sl W W.heap.size .i64 A0 x0 → Hid (Calls Try.prog 13 #[.agg #[.int .i64 sm, .slice A xm.length c], .agg #[.int .i64 a0, .slice A0 x0.length c0]] W (BoolPost W true)))
    (G4 : ∀ W, Sl W W.heap.size .i64 A0 x0 → Hid (Calls Try.prog 17 #[.agg #[.int .i64 a0, .slice A0 x0.length c0], .agg #[.int .i64 a1, .int .i64 b1]] W (BoolPost W t)))
    (G5 : ∀ W E d, Sl W W.heap.size .i64 E (x0 ++ [0, 0]) → Hid (Calls Try.prog 17 #[.agg #[.int .i64 a0, .slice E (x0.length + 2) d], .agg #[.int .i64 a1, .int .i64 b1]] W (BoolPost W t))) :
    Calls Try.prog 8 #[.agg #[.int .i64 a0, .slice A0 x0.length c0], .agg #[.int .i64 a1, .int .i64 b1]] w (UpPost w) := by
  go_enter Try.func8, Try.ntmps8
  go_wp2_with fail
  have BW : Below w.heap.size w ((w.alloc (.cells #[.int .i64 a0, .slice A0 x0.length c0] 24)).alloc (.cells #[.int .i64 a1, .int .i64 b1] 26)) := ((Below.refl _ _).alloc (Nat.le_refl _) _).alloc (by simp) _
  have Z0 : ((w.alloc (.cells #[.int .i64 a0, .slice A0 x0.length c0] 24)).alloc (.cells #[.int .i64 a1, .int .i64 b1] 26)).heap.size = w.heap.size + 1 + 1 := by simp
  have C0 : Rb ((w.alloc (.cells #[.int .i64 a0, .slice A0 x0.length c0] 24)).alloc (.cells #[.int .i64 a1, .int .i64 b1] 26)) (w.heap.size) a0 A0 x0.length c0 := by
    have := ((ax_new w a0 A0 x0.length c0).old (.cells #[.int .i64 a1, .int .i64 b1] 26)).rb
    exact this
  have C1 : Ib ((w.alloc (.cells #[.int .i64 a0, .slice A0 x0.length c0] 24)).alloc (.cells #[.int .i64 a1, .int .i64 b1] 26)) (w.heap.size + 1) a1 b1 := by
    have := (ix_new (w.alloc (.cells #[.int .i64 a0, .slice A0 x0.length c0] 24)) a1 b1).ib
    rw [show (w.alloc (.cells #[.int .i64 a0, .slice A0 x0.length c0] 24)).heap.size = w.heap.size + 1 by simp] at this
    exact this
  have X0 := s0.to BW BW.size
  generalize ((w.alloc (.cells #[.int .i64 a0, .slice A0 x0.length c0] 24)).alloc (.cells #[.int .i64 a1, .int .i64 b1] 26)) = W0 at *
  refine (awake_any W0).mono ?_
  rintro e w1 ⟨rfl, B1⟩
  have q1 := B1.size
  have B01 := B1
  obtain ⟨p0, r0⟩ := C0.on B01 (by omega)
  obtain ⟨p1, r1⟩ := C1.on B01 (by omega)
  go_wp2_with fail
  clear p0 r0 p1 r1
  refine (K0 _ (X0.up B01)).out.mono ?_
  rintro e w2 ⟨rfl, B2⟩
  have q2 := B2.size
  have B02 := B01.trans (B2.mono (by omega))
  have Y0 := X0.up B02
  have D0 := C0.on B02 (by omega)
  have D1 := C1.on B02 (by omega)
  have BE := BW.trans (B02.mono BW.size)
  have HT := Lib.hid ht
  clear ht X0 C0 C1 B1 B2 B01 BW K0 s0
  obtain ⟨p0, r0⟩ := id D0
  have BD : Hid (Below w2.heap.size w2 w2.drew) := (Below.refl _ _).drew
  have bL : Hid (Below w2.heap.size w2 (w2.alloc (.cells #[.int .i64 0, .slice none 0 0] 24)).drew) := ((Below.refl _ _).alloc (Nat.le_refl _) _).drew
  have bZ : Hid (Below w2.heap.size w2 (w2.alloc (.cells #[.int .i64 0, .int .i64 0] 3)).drew) := ((Below.refl _ _).alloc (Nat.le_refl _) _).drew
  have bZL : Hid (Below w2.heap.size w2 ((w2.alloc (.cells #[.int .i64 0, .int .i64 0] 3)).alloc (.cells #[.int .i64 0, .slice none 0 0] 24)).drew) := (((Below.refl _ _).alloc (Nat.le_refl _) _).alloc (by simp) _).drew
  have bLZ : Hid (Below w2.heap.size w2 ((w2.alloc (.cells #[.int .i64 0, .slice none 0 0] 24)).alloc (.cells #[.int .i64 0, .int .i64 0] 3)).drew) := (((Below.refl _ _).alloc (Nat.le_refl _) _).alloc (by simp) _).drew
  have hY := Lib.hid Y0
  have HD0 := Lib.hid D0
  have h2 : w.heap.size < w2.heap.size := by omega
  have h21 : w.heap.size < w2.heap.size + 1 := Nat.lt_succ_of_lt h2
  have h22 : w.heap.size < w2.heap.size + 1 + 1 := Nat.lt_succ_of_lt h21
  go_upto_region 4 with fail
  go_cut [6] (fun s6 wc => ∃ L : Nat, s6 = .pointer (some ⟨L, 0, none⟩) ∧ Lg w2 a0 x0 L wc)
  case first =>
    clear G0 G1 G2 G3 G4 G5
    have K0 : Rb w2.drew w.heap.size a0 A0 x0.length c0 := D0
    go_region_held3 (fun v => v.cell? ⟨w.heap.size, 0, none⟩ = some (.int .i64 a0) ∧ v.cell? ⟨w.heap.size, 1, none⟩ = some (.slice A0 x0.length c0))
      (first | exact K0 | exact ⟨p4, r4⟩ | exact ⟨p3, r3⟩ | exact rb_alloc (v := w2) D0 _ | exact rb_alloc (rb_alloc (v := w2) D0 _) _ | exact rb_alloc (v := w3) ⟨p3, r3⟩ _ | exact rb_alloc (rb_alloc (v := w3) ⟨p3, r3⟩ _) _ | exact rb_alloc (v := w4) ⟨p4, r4⟩ _ | exact rb_set (rb_set (v := w4) ⟨p4, r4⟩ (by omega)) (by omega))
      (first
      | ((with_reducible refine at_world (w2.drew) ?_); refine step_appI (w := w2.drew) (by rfl) (.const (.slice none 0 0)) (.tmp 19) (by rfl) (by rfl) A0 c0 x0 (by rfl) w2 BD.out hY.out hl ?_; intro v1 w3 own1 kp1 B3; obtain ⟨p3, r3⟩ := HD0.out.on B3 h2; have h3 : w.heap.size < w3.heap.size := Nat.lt_of_lt_of_le h2 B3.size; have h31 : w.heap.size < w3.heap.size + 1 := Nat.lt_succ_of_lt h3; have h32 : w.heap.size < w3.heap.size + 1 + 1 := Nat.lt_succ_of_lt h31)
      | ((with_reducible refine at_world ((w2.alloc (.cells #[.int .i64 0, .slice none 0 0] 24)).drew) ?_); refine step_appI (w := (w2.alloc (.cells #[.int .i64 0, .slice none 0 0] 24)).drew) (by rfl) (.const (.slice none 0 0)) (.tmp 19) (by rfl) (by rfl) A0 c0 x0 (by rfl) w2 bL.out hY.out hl ?_; intro v1 w3 own1 kp1 B3; obtain ⟨p3, r3⟩ := HD0.out.on B3 h2; have h3 : w.heap.size < w3.heap.size := Nat.lt_of_lt_of_le h2 B3.size; have h31 : w.heap.size < w3.heap.size + 1 := Nat.lt_succ_of_lt h3; have h32 : w.heap.size < w3.heap.size + 1 + 1 := Nat.lt_succ_of_lt h31; have LP := kp1 w2.heap.size Z24 (al_new w2 (.cells #[.int .i64 0, .slice none 0 0] 24)))
      | ((with_reducible refine at_world ((w2.alloc (.cells #[.int .i64 0, .int .i64 0] 3)).drew) ?_); refine step_appI (w := (w2.alloc (.cells #[.int .i64 0, .int .i64 0] 3)).drew) (by rfl) (.const (.slice none 0 0)) (.tmp 19) (by rfl) (by rfl) A0 c0 x0 (by rfl) w2 bZ.out hY.out hl ?_; intro v1 w3 own1 kp1 B3; obtain ⟨p3, r3⟩ := HD0.out.on B3 h2; have h3 : w.heap.size < w3.heap.size := Nat.lt_of_lt_of_le h2 B3.size; have h31 : w.heap.size < w3.heap.size + 1 := Nat.lt_succ_of_lt h3; have h32 : w.heap.size < w3.heap.size + 1 + 1 := Nat.lt_succ_of_lt h31; have ZP := kp1 w2.heap.size Z3 (al_new w2 (.cells #[.int .i64 0, .int .i64 0] 3)))
      | ((with_reducible refine at_world (((w2.alloc (.cells #[.int .i64 0, .int .i64 0] 3)).alloc (.cells #[.int .i64 0, .slice none 0 0] 24)).drew) ?_); refine step_appI (w := ((w2.alloc (.cells #[.int .i64 0, .int .i64 0] 3)).alloc (.cells #[.int .i64 0, .slice none 0 0] 24)).drew) (by rfl) (.const (.slice none 0 0)) (.tmp 19) (by rfl) (by rfl) A0 c0 x0 (by rfl) w2 bZL.out hY.out hl ?_; intro v1 w3 own1 kp1 B3; obtain ⟨p3, r3⟩ := HD0.out.on B3 h2; have h3 : w.heap.size < w3.heap.size := Nat.lt_of_lt_of_le h2 B3.size; have h31 : w.heap.size < w3.heap.size + 1 := Nat.lt_succ_of_lt h3; have h32 : w.heap.size < w3.heap.size + 1 + 1 := Nat.lt_succ_of_lt h31; have ZP := kp1 w2.heap.size Z3 (al2_old w2 (.cells #[.int .i64 0, .int .i64 0] 3) (.cells #[.int .i64 0, .slice none 0 0] 24)); have LP := kp1 (w2.heap.size + 1) Z24 (al2_new w2 (.cells #[.int .i64 0, .int .i64 0] 3) (.cells #[.int .i64 0, .slice none 0 0] 24)))
      | ((with_reducible refine at_world (((w2.alloc (.cells #[.int .i64 0, .slice none 0 0] 24)).alloc (.cells #[.int .i64 0, .int .i64 0] 3)).drew) ?_); refine step_appI (w := ((w2.alloc (.cells #[.int .i64 0, .slice none 0 0] 24)).alloc (.cells #[.int .i64 0, .int .i64 0] 3)).drew) (by rfl) (.const (.slice none 0 0)) (.tmp 19) (by rfl) (by rfl) A0 c0 x0 (by rfl) w2 bLZ.out hY.out hl ?_; intro v1 w3 own1 kp1 B3; obtain ⟨p3, r3⟩ := HD0.out.on B3 h2; have h3 : w.heap.size < w3.heap.size := Nat.lt_of_lt_of_le h2 B3.size; have h31 : w.heap.size < w3.heap.size + 1 := Nat.lt_succ_of_lt h3; have h32 : w.heap.size < w3.heap.size + 1 + 1 := Nat.lt_succ_of_lt h31; have LP := kp1 w2.heap.size Z24 (al2_old w2 (.cells #[.int .i64 0, .slice none 0 0] 24) (.cells #[.int .i64 0, .int .i64 0] 3)); have ZP := kp1 (w2.heap.size + 1) Z3 (al2_new w2 (.cells #[.int .i64 0, .slice none 0 0] 24) (.cells #[.int .i64 0, .int .i64 0] 3)))
      | ((with_reducible refine at_world (w3) ?_); refine step_twoI (w := w3) (by rfl) (.tmp 20) (.tmp 21) (by rfl) v1 (by rfl) x0 w2 own1 _ (by rfl) ZP B3 hl ?_; intro g c4 w4 own4 kl4 B4; obtain ⟨p4, r4⟩ := HD0.out.on B4 h2; first | (have LX := kl4 _ (LP); have f40 := Ax.free LX 0; have f41 := Ax.free LX 1; obtain ⟨q40, q41⟩ := Ax.rb LX) | skip)
      | ((with_reducible refine at_world (w3.alloc (.cells #[.int .i64 0, .int .i64 0] 3)) ?_); refine step_twoI (w := w3.alloc (.cells #[.int .i64 0, .int .i64 0] 3)) (by rfl) (.tmp 20) (.tmp 21) (by rfl) v1 (by rfl) x0 w2 (own1.alloc _) w3.heap.size (by rfl) (al_new w3 (.cells #[.int .i64 0, .int .i64 0] 3)) (B3.alloc B3.size _) hl ?_; intro g c4 w4 own4 kl4 B4; obtain ⟨p4, r4⟩ := HD0.out.on B4 h2; first | (have LX := kl4 _ ((heap_alloc_old w3 (.cells #[.int .i64 0, .int .i64 0] 3) (lt_of_block LP)).trans LP); have f40 := Ax.free LX 0; have f41 := Ax.free LX 1; obtain ⟨q40, q41⟩ := Ax.rb LX) | skip)
      | ((with_reducible refine at_world (w3.alloc (.cells #[.int .i64 0, .slice none 0 0] 24)) ?_); refine step_twoI (w := w3.alloc (.cells #[.int .i64 0, .slice none 0 0] 24)) (by rfl) (.tmp 20) (.tmp 21) (by rfl) v1 (by rfl) x0 w2 (own1.alloc _) _ (by rfl) ((heap_alloc_old w3 (.cells #[.int .i64 0, .slice none 0 0] 24) (lt_of_block ZP)).trans ZP) (B3.alloc B3.size _) hl ?_; intro g c4 w4 own4 kl4 B4; obtain ⟨p4, r4⟩ := HD0.out.on B4 h2; have LX := kl4 _ (al_new w3 (.cells #[.int .i64 0, .slice none 0 0] 24)); have f40 := Ax.free LX 0; have f41 := Ax.free LX 1; obtain ⟨q40, q41⟩ := Ax.rb LX)
      | ((with_reducible refine at_world ((w3.alloc (.cells #[.int .i64 0, .int .i64 0] 3)).alloc (.cells #[.int .i64 0, .slice none 0 0] 24)) ?_); refine step_twoI (w := (w3.alloc (.cells #[.int .i64 0, .int .i64 0] 3)).alloc (.cells #[.int .i64 0, .slice none 0 0] 24)) (by rfl) (.tmp 20) (.tmp 21) (by rfl) v1 (by rfl) x0 w2 ((own1.alloc _).alloc _) w3.heap.size (by rfl) (al2_old w3 (.cells #[.int .i64 0, .int .i64 0] 3) (.cells #[.int .i64 0, .slice none 0 0] 24)) ((B3.alloc B3.size _).alloc (B3.alloc B3.size _).size _) hl ?_; intro g c4 w4 own4 kl4 B4; obtain ⟨p4, r4⟩ := HD0.out.on B4 h2; have LX := kl4 _ (al2_new w3 (.cells #[.int .i64 0, .int .i64 0] 3) (.cells #[.int .i64 0, .slice none 0 0] 24)); have f40 := Ax.free LX 0; have f41 := Ax.free LX 1; obtain ⟨q40, q41⟩ := Ax.rb LX)
      | ((with_reducible refine at_world ((w3.alloc (.cells #[.int .i64 0, .slice none 0 0] 24)).alloc (.cells #[.int .i64 0, .int .i64 0] 3)) ?_); refine step_twoI (w := (w3.alloc (.cells #[.int .i64 0, .slice none 0 0] 24)).alloc (.cells #[.int .i64 0, .int .i64 0] 3)) (by rfl) (.tmp 20) (.tmp 21) (by rfl) v1 (by rfl) x0 w2 ((own1.alloc _).alloc _) (w3.heap.size + 1) (by rfl) (al2_new w3 (.cells #[.int .i64 0, .slice none 0 0] 24) (.cells #[.int .i64 0, .int .i64 0] 3)) ((B3.alloc B3.size _).alloc (B3.alloc B3.size _).size _) hl ?_; intro g c4 w4 own4 kl4 B4; obtain ⟨p4, r4⟩ := HD0.out.on B4 h2; have LX := kl4 _ (al2_old w3 (.cells #[.int .i64 0, .slice none 0 0] 24) (.cells #[.int .i64 0, .int .i64 0] 3)); have f40 := Ax.free LX 0; have f41 := Ax.free LX 1; obtain ⟨q40, q41⟩ := Ax.rb LX))
    all_goals (
      have b3 := B3.size
      go_wp2_with fail
      go_meet
      first | exact ⟨_, rfl, fin_new own4 B4⟩ | exact ⟨_, rfl, fin_set own4 B4 LX (by omega)⟩)
  case rest =>
  obtain ⟨L, rfl, E, d, hR, hE, hbc, hLb, hLl⟩ := hcut
  have q2 : w2.heap.size ≤ wc.heap.size := hbc.size
  have zA : w.heap.size < wc.heap.size := by omega
  have zB : w.heap.size + 1 < wc.heap.size := by omega
  have E0 := D0.on hbc h2
  have E1 := D1.on hbc (by omega)
  have YA := Y0.up hbc
  have BF := BE.trans (hbc.mono BE.size)
  have S0 : Rb wc w.heap.size a0 A0 x0.length c0 ∧ Ib wc (w.heap.size + 1) a1 b1 ∧ Rb wc L a0 E (x0.length + 2) d ∧ Below wc.heap.size wc wc := ⟨E0, E1, hR, Below.refl _ _⟩
  have KB : ∀ v v', Below wc.heap.size v v' → (Rb v w.heap.size a0 A0 x0.length c0 ∧ Ib v (w.heap.size + 1) a1 b1 ∧ Rb v L a0 E (x0.length + 2) d ∧ Below wc.heap.size wc v) → (Rb v' w.heap.size a0 A0 x0.length c0 ∧ Ib v' (w.heap.size + 1) a1 b1 ∧ Rb v' L a0 E (x0.length + 2) d ∧ Below wc.heap.size wc v') := fun v v' hb hS => ⟨hS.1.on hb zA, hS.2.1.on hb zB, hS.2.2.1.on hb hLl, hS.2.2.2.trans hb⟩
  have KD : Hid (∀ v, (Rb v w.heap.size a0 A0 x0.length c0 ∧ Ib v (w.heap.size + 1) a1 b1 ∧ Rb v L a0 E (x0.length + 2) d ∧ Below wc.heap.size wc v) → (Rb v.drew w.heap.size a0 A0 x0.length c0 ∧ Ib v.drew (w.heap.size + 1) a1 b1 ∧ Rb v.drew L a0 E (x0.length + 2) d ∧ Below wc.heap.size wc v.drew)) := fun v hS => KB _ _ (Below.refl _ _).drew hS
  have KA : Hid (∀ v o, (Rb v w.heap.size a0 A0 x0.length c0 ∧ Ib v (w.heap.size + 1) a1 b1 ∧ Rb v L a0 E (x0.length + 2) d ∧ Below wc.heap.size wc v) → (Rb (v.alloc o) w.heap.size a0 A0 x0.length c0 ∧ Ib (v.alloc o) (w.heap.size + 1) a1 b1 ∧ Rb (v.alloc o) L a0 E (x0.length + 2) d ∧ Below wc.heap.size wc (v.alloc o))) := fun v o hS => KB _ _ ((Below.refl _ _).alloc hS.2.2.2.size o) hS
  have KS : Hid (∀ v v', Below v.heap.size v v' → (Rb v w.heap.size a0 A0 x0.length c0 ∧ Ib v (w.heap.size + 1) a1 b1 ∧ Rb v L a0 E (x0.length + 2) d ∧ Below wc.heap.size wc v) → (Rb v' w.heap.size a0 A0 x0.length c0 ∧ Ib v' (w.heap.size + 1) a1 b1 ∧ Rb v' L a0 E (x0.length + 2) d ∧ Below wc.heap.size wc v')) := fun v v' hb hS => KB _ _ (hb.mono hS.2.2.2.size) hS
  have HA := Lib.hid YA
  have HE := Lib.hid hE
  have HBF := Lib.hid BF
  clear KB hR hE E0 E1 YA BF D0 D1 HD0 Y0 hY BD bL bZ bZL bLZ BE p0 r0 B02 hbc h21 h22
  by_cases hs1 : 1 ≤ b1
  · clear HT
    go_wp2_with fail
    refine wp_region_held_drew (S := fun v => (v.cell? ⟨w.heap.size, 0, none⟩ = some (.int .i64 a0) ∧ v.cell? ⟨w.heap.size, 1, none⟩ = some (.slice A0 x0.length c0)) ∧ (v.cell? ⟨w.heap.size + 1, 0, none⟩ = some (.int .i64 a1) ∧ v.cell? ⟨w.heap.size + 1, 1, none⟩ = some (.int .i64 b1)) ∧ (v.cell? ⟨L, 0, none⟩ = some (.int .i64 a0) ∧ v.cell? ⟨L, 1, none⟩ = some (.slice E (x0.length + 2) d)) ∧ Below wc.heap.size wc v) (by kernel_rfl) (KD.out _ S0) (fun hH => ?_)
    refine wpAnyH_take (i := 0) (v := ?v1) rfl (by kernel_rfl) (by kernel_rfl) (by kernel_rfl) (fun _ _ _ h => h) (Or.inl ⟨by rfl, ?hy1⟩) hH ?rest1
    case hy1 => (intro w hSw; (try dsimp only at hSw); go_simp; try with_reducible rfl)
    try simp only [Act.put, List.setIfInBounds_toArray, List.set_cons_zero, List.set_cons_succ, List.getElem_toArray, List.getElem_cons_zero, List.getElem_cons_succ]
    refine wpAnyH_take (i := 1) (v := ?v2) rfl (by kernel_rfl) (by kernel_rfl) (by kernel_rfl) (fun _ _ _ h => h) (Or.inl ⟨by rfl, ?hy2⟩) hH ?rest2
    case hy2 => (intro w hSw; (try dsimp only at hSw); go_simp; try with_reducible rfl)
    try simp only [Act.put, List.setIfInBounds_toArray, List.set_cons_zero, List.set_cons_succ, List.getElem_toArray, List.getElem_cons_zero, List.getElem_cons_succ]
    refine wpAnyH_ready (rs := [2]) (by kernel_rfl) (by simp) ?_
    refine AllReadyH.cons rfl (fun K hK => ?_) AllReadyH.nil
    go_simp
    go_at_call 15
    have hGa := G0 _ (HA.out.up hH.2.2.2)
    with_reducible refine hGa.out.mono ?_
    clear hGa
    rintro e wqa ⟨rfl, hba⟩
    go_wp2_with fail
    refine hK.out _ _ (KS.out _ _ hba hH) (fun hH2 => ?_)
    clear hK K hH
    have hH := hH2
    clear hH2
    try simp only [Act.put, List.setIfInBounds_toArray, List.set_cons_zero, List.set_cons_succ, List.getElem_toArray, List.getElem_cons_zero, List.getElem_cons_succ]
    refine wpAnyH_take (i := 3) (v := ?v3) rfl (by kernel_rfl) (by kernel_rfl) (by kernel_rfl) (fun _ _ _ h => h) (Or.inl ⟨by rfl, ?hy3⟩) hH ?rest3
    case hy3 => (intro w hSw; (try dsimp only at hSw); go_simp; try with_reducible rfl)
    try simp only [Act.put, List.setIfInBounds_toArray, List.set_cons_zero, List.set_cons_succ, List.getElem_toArray, List.getElem_cons_zero, List.getElem_cons_succ]
    refine wpAnyH_take (i := 4) (v := ?v4) rfl (by kernel_rfl) (by kernel_rfl) (by kernel_rfl) (fun _ _ _ h => h) (Or.inl ⟨by rfl, ?hy4⟩) hH ?rest4
    case hy4 => (intro w hSw; (try dsimp only at hSw); go_simp; try with_reducible rfl)
    try simp only [Act.put, List.setIfInBounds_toArray, List.set_cons_zero, List.set_cons_succ, List.getElem_toArray, List.getElem_cons_zero, List.getElem_cons_succ]
    refine wpAnyH_take (i := 5) (v := ?v5) rfl (by kernel_rfl) (by kernel_rfl) (by kernel_rfl) (fun _ _ _ h => h) (Or.inl ⟨by rfl, ?hy5⟩) hH ?rest5
    case hy5 => (intro w hSw; (try dsimp only at hSw); go_simp; try with_reducible rfl)
    try simp only [Act.put, List.setIfInBounds_toArray, List.set_cons_zero, List.set_cons_succ, List.getElem_toArray, List.getElem_cons_zero, List.getElem_cons_succ]
    refine wpAnyH_ready (rs := [6]) (by kernel_rfl) (by simp) ?_
    refine AllReadyH.cons rfl (fun K hK => ?_) AllReadyH.nil
    go_simp
    go_at_call 13
    have hGb := G1 _ E d (HA.out.up hH.2.2.2) (HE.out.up hH.2.2.2)
    with_reducible refine hGb.out.mono ?_
    clear hGb
    rintro e wqb ⟨rfl, hbb⟩
    go_wp2_with fail
    refine hK.out _ _ (KS.out _ _ hbb hH) (fun hH2 => ?_)
    clear hK K hH
    have hH := hH2
    clear hH2
    try simp only [Act.put, List.setIfInBounds_toArray, List.set_cons_zero, List.set_cons_succ, List.getElem_toArray, List.getElem_cons_zero, List.getElem_cons_succ]
    refine wpAnyH_take (i := 7) (v := ?v6) rfl (by kernel_rfl) (by kernel_rfl) (by kernel_rfl) (fun _ _ _ h => h) (Or.inl ⟨by rfl, ?hy6⟩) hH ?rest6
    case hy6 => (intro w hSw; (try dsimp only at hSw); go_simp; try with_reducible rfl)
    try simp only [Act.put, List.setIfInBounds_toArray, List.set_cons_zero, List.set_cons_succ, List.getElem_toArray, List.getElem_cons_zero, List.getElem_cons_succ]
    refine wpAnyH_take (i := 8) (v := ?v7) rfl (by kernel_rfl) (by kernel_rfl) (by kernel_rfl) (fun _ _ _ h => h) (Or.inl ⟨by rfl, ?hy7⟩) hH ?rest7
    case hy7 => (intro w hSw; (try dsimp only at hSw); go_simp; try with_reducible rfl)
    try simp only [Act.put, List.setIfInBounds_toArray, List.set_cons_zero, List.set_cons_succ, List.getElem_toArray, List.getElem_cons_zero, List.getElem_cons_succ]
    refine wpAnyH_take (i := 9) (v := ?v8) rfl (by kernel_rfl) (by kernel_rfl) (by kernel_rfl) (fun _ _ _ h => h) (Or.inl ⟨by rfl, ?hy8⟩) hH ?rest8
    case hy8 => (intro w hSw; (try dsimp only at hSw); go_simp; try with_reducible rfl)
    try simp only [Act.put, List.setIfInBounds_toArray, List.set_cons_zero, List.set_cons_succ, List.getElem_toArray, List.getElem_cons_zero, List.getElem_cons_succ]
    refine wpAnyH_take (i := 10) (v := ?v9) rfl (by kernel_rfl) (by kernel_rfl) (by kernel_rfl) (fun _ _ _ h => h) (Or.inl ⟨by rfl, ?hy9⟩) hH ?rest9
    case hy9 => (intro w hSw; (try dsimp only at hSw); go_simp; try with_reducible rfl)
    try simp only [Act.put, List.setIfInBounds_toArray, List.set_cons_zero, List.set_cons_succ, List.getElem_toArray, List.getElem_cons_zero, List.getElem_cons_succ]
    refine wpAnyH_take (i := 13) (v := ?v10) rfl (by kernel_rfl) (by kernel_rfl) (by kernel_rfl) (fun _ _ _ h => h) (Or.inl ⟨by rfl, ?hy10⟩) hH ?rest10
    case hy10 => (intro w hSw; (try dsimp only at hSw); go_simp; try with_reducible rfl)
    try simp only [Act.put, List.setIfInBounds_toArray, List.set_cons_zero, List.set_cons_succ, List.getElem_toArray, List.getElem_cons_zero, List.getElem_cons_succ]
    refine wpAnyH_ready (rs := [11]) (by kernel_rfl) (by simp) ?_
    refine AllReadyH.cons rfl (fun K hK => ?_) AllReadyH.nil
    go_simp
    refine hK.out _ _ (KA.out _ _ hH) (fun hH2 => ?_)
    clear hK K hH
    have hH := hH2
    clear hH2
    try simp only [Act.put, List.setIfInBounds_toArray, List.set_cons_zero, List.set_cons_succ, List.getElem_toArray, List.getElem_cons_zero, List.getElem_cons_succ]
    refine wpAnyH_ready (rs := [12]) (by kernel_rfl) (by simp) ?_
    refine AllReadyH.cons rfl (fun K hK => ?_) AllReadyH.nil
    go_simp
    go_at_call 19
    have hGc := G2 _ (some ⟨wqb.heap.size, 0, none⟩) 2 (rc_two_at (A' := none) (ys := []) (c := c0) (c' := 0) (by simp) (by simp) (by simp) (by simp) (HA.out.up hH.2.2.2) Sl.nil)
    with_reducible refine hGc.out.mono ?_
    clear hGc
    rintro e wqc ⟨Aq, cq, rfl, hq, hbc⟩
    go_wp2_with fail
    refine hK.out _ _ (KS.out _ _ hbc hH) (fun hH2 => ?_)
    clear hK K hH
    have hH := hH2
    clear hH2
    try simp only [Act.put, List.setIfInBounds_toArray, List.set_cons_zero, List.set_cons_succ, List.getElem_toArray, List.getElem_cons_zero, List.getElem_cons_succ]
    refine wpAnyH_ready (rs := [14]) (by kernel_rfl) (by simp) ?_
    refine AllReadyH.cons rfl (fun K hK => ?_) AllReadyH.nil
    go_simp
    go_at_call 13
    have hGd := G3 _ Aq cq hq (HA.out.up hH.2.2.2)
    with_reducible refine hGd.out.mono ?_
    clear hGd
    rintro e wqd ⟨rfl, hbd⟩
    go_wp2_with fail
    refine hK.out _ _ (KS.out _ _ hbd hH) (fun hH2 => ?_)
    clear hK K hH
    have hH := hH2
    clear hH2
    try simp only [Act.put, List.setIfInBounds_toArray, List.set_cons_zero, List.set_cons_succ, List.getElem_toArray, List.getElem_cons_zero, List.getElem_cons_succ]
    refine wpAnyH_take (i := 15) (v := ?v12) rfl (by kernel_rfl) (by kernel_rfl) (by kernel_rfl) (fun _ _ _ h => h) (Or.inl ⟨by rfl, ?hy12⟩) hH ?rest12
    case hy12 => (intro w hSw; (try dsimp only at hSw); go_simp; try with_reducible rfl)
    try simp only [Act.put, List.setIfInBounds_toArray, List.set_cons_zero, List.set_cons_succ, List.getElem_toArray, List.getElem_cons_zero, List.getElem_cons_succ]
    refine wpAnyH_take (i := 16) (v := ?v13) rfl (by kernel_rfl) (by kernel_rfl) (by kernel_rfl) (fun _ _ _ h => h) (Or.inl ⟨by rfl, ?hy13⟩) hH ?rest13
    case hy13 => (intro w hSw; (try dsimp only at hSw); go_simp; try with_reducible rfl)
    try simp only [Act.put, List.setIfInBounds_toArray, List.set_cons_zero, List.set_cons_succ, List.getElem_toArray, List.getElem_cons_zero, List.getElem_cons_succ]
    refine wpAnyH_take (i := 17) (v := ?v14) rfl (by kernel_rfl) (by kernel_rfl) (by kernel_rfl) (fun _ _ _ h => h) (Or.inl ⟨by rfl, ?hy14⟩) hH ?rest14
    case hy14 => (intro w hSw; (try dsimp only at hSw); go_simp; try with_reducible rfl)
    try simp only [Act.put, List.setIfInBounds_toArray, List.set_cons_zero, List.set_cons_succ, List.getElem_toArray, List.getElem_cons_zero, List.getElem_cons_succ]
    refine wpAnyH_take (i := 18) (v := ?v15) rfl (by kernel_rfl) (by kernel_rfl) (by kernel_rfl) (fun _ _ _ h => h) (Or.inl ⟨by rfl, ?hy15⟩) hH ?rest15
    case hy15 => (intro w hSw; (try dsimp only at hSw); go_simp; try with_reducible rfl)
    try simp only [Act.put, List.setIfInBounds_toArray, List.set_cons_zero, List.set_cons_succ, List.getElem_toArray, List.getElem_cons_zero, List.getElem_cons_succ]
    refine wpAnyH_take (i := 19) (v := ?v16) rfl (by kernel_rfl) (by kernel_rfl) (by kernel_rfl) (fun _ _ _ h => h) (Or.inl ⟨by rfl, ?hy16⟩) hH ?rest16
    case hy16 => (intro w hSw; (try dsimp only at hSw); go_simp; try with_reducible rfl)
    try simp only [Act.put, List.setIfInBounds_toArray, List.set_cons_zero, List.set_cons_succ, List.getElem_toArray, List.getElem_cons_zero, List.getElem_cons_succ]
    refine wpAnyH_take (i := 20) (v := ?v17) rfl (by kernel_rfl) (by kernel_rfl) (by kernel_rfl) (fun _ _ _ h => h) (Or.inl ⟨by rfl, ?hy17⟩) hH ?rest17
    case hy17 => (intro w hSw; (try dsimp only at hSw); go_simp; try with_reducible rfl)
    try simp only [Act.put, List.setIfInBounds_toArray, List.set_cons_zero, List.set_cons_succ, List.getElem_toArray, List.getElem_cons_zero, List.getElem_cons_succ]
    refine wpAnyH_take (i := 21) (v := undef) rfl (by kernel_rfl) (by kernel_rfl) (by kernel_rfl) (fun _ _ _ h => h) (Or.inr ⟨by rfl, rfl⟩) hH ?_
    try simp only [Act.put, List.setIfInBounds_toArray, List.set_cons_zero, List.set_cons_succ, List.getElem_toArray, List.getElem_cons_zero, List.getElem_cons_succ]
    refine wpAnyH_take (i := 22) (v := undef) rfl (by kernel_rfl) (by kernel_rfl) (by kernel_rfl) (fun _ _ _ h => h) (Or.inr ⟨by rfl, rfl⟩) hH ?_
    try simp only [Act.put, List.setIfInBounds_toArray, List.set_cons_zero, List.set_cons_succ, List.getElem_toArray, List.getElem_cons_zero, List.getElem_cons_succ]
    refine wpAnyH_take (i := 23) (v := undef) rfl (by kernel_rfl) (by kernel_rfl) (by kernel_rfl) (fun _ _ _ h => h) (Or.inr ⟨by rfl, rfl⟩) hH ?_
    try simp only [Act.put, List.setIfInBounds_toArray, List.set_cons_zero, List.set_cons_succ, List.getElem_toArray, List.getElem_cons_zero, List.getElem_cons_succ]
    refine wpAnyH_take (i := 24) (v := undef) rfl (by kernel_rfl) (by kernel_rfl) (by kernel_rfl) (fun _ _ _ h => h) (Or.inr ⟨by rfl, rfl⟩) hH ?_
    try simp only [Act.put, List.setIfInBounds_toArray, List.set_cons_zero, List.set_cons_succ, List.getElem_toArray, List.getElem_cons_zero, List.getElem_cons_succ]
    refine wpAnyH_take (i := 25) (v := ?v22) rfl (by kernel_rfl) (by kernel_rfl) (by kernel_rfl) (fun _ _ _ h => h) (Or.inl ⟨by rfl, ?hy22⟩) hH ?rest22
    case hy22 => (intro w hSw; (try dsimp only at hSw); go_simp; try with_reducible rfl)
    try simp only [Act.put, List.setIfInBounds_toArray, List.set_cons_zero, List.set_cons_succ, List.getElem_toArray, List.getElem_cons_zero, List.getElem_cons_succ]
    refine wpAnyH_take (i := 26) (v := ?v23) rfl (by kernel_rfl) (by kernel_rfl) (by kernel_rfl) (fun _ _ _ h => h) (Or.inl ⟨by rfl, ?hy23⟩) hH ?rest23
    case hy23 => (intro w hSw; (try dsimp only at hSw); go_simp; try with_reducible rfl)
    try simp only [Act.put, List.setIfInBounds_toArray, List.set_cons_zero, List.set_cons_succ, List.getElem_toArray, List.getElem_cons_zero, List.getElem_cons_succ]
    refine wpAnyH_take (i := 27) (v := ?v24) rfl (by kernel_rfl) (by kernel_rfl) (by kernel_rfl) (fun _ _ _ h => h) (Or.inl ⟨by rfl, ?hy24⟩) hH ?rest24
    case hy24 => (intro w hSw; (try dsimp only at hSw); go_simp; try with_reducible rfl)
    try simp only [Act.put, List.setIfInBounds_toArray, List.set_cons_zero, List.set_cons_succ, List.getElem_toArray, List.getElem_cons_zero, List.getElem_cons_succ]
    refine wpAnyH_take (i := 28) (v := ?v25) rfl (by kernel_rfl) (by kernel_rfl) (by kernel_rfl) (fun _ _ _ h => h) (Or.inl ⟨by rfl, ?hy25⟩) hH ?rest25
    case hy25 => (intro w hSw; (try dsimp only at hSw); go_simp; try with_reducible rfl)
    try simp only [Act.put, List.setIfInBounds_toArray, List.set_cons_zero, List.set_cons_succ, List.getElem_toArray, List.getElem_cons_zero, List.getElem_cons_succ]
    refine wpAnyH_take (i := 29) (v := ?v26) rfl (by kernel_rfl) (by kernel_rfl) (by kernel_rfl) (fun _ _ _ h => h) (Or.inl ⟨by rfl, ?hy26⟩) hH ?rest26
    case hy26 => (intro w hSw; (try dsimp only at hSw); go_simp; try with_reducible rfl)
    try simp only [Act.put, List.setIfInBounds_toArray, List.set_cons_zero, List.set_cons_succ, List.getElem_toArray, List.getElem_cons_zero, List.getElem_cons_succ]
    refine wpAnyH_take (i := 31) (v := ?v27) rfl (by kernel_rfl) (by kernel_rfl) (by kernel_rfl) (fun _ _ _ h => h) (Or.inl ⟨by rfl, ?hy27⟩) hH ?rest27
    case hy27 => (intro w hSw; (try dsimp only at hSw); go_simp; try with_reducible rfl)
    try simp only [Act.put, List.setIfInBounds_toArray, List.set_cons_zero, List.set_cons_succ, List.getElem_toArray, List.getElem_cons_zero, List.getElem_cons_succ]
    refine wpAnyH_take (i := 32) (v := ?v28) rfl (by kernel_rfl) (by kernel_rfl) (by kernel_rfl) (fun _ _ _ h => h) (Or.inl ⟨by rfl, ?hy28⟩) hH ?rest28
    case hy28 => (intro w hSw; (try dsimp only at hSw); go_simp; try with_reducible rfl)
    try simp only [Act.put, List.setIfInBounds_toArray, List.set_cons_zero, List.set_cons_succ, List.getElem_toArray, List.getElem_cons_zero, List.getElem_cons_succ]
    refine wpAnyH_ready (rs := [30]) (by kernel_rfl) (by simp) ?_
    refine AllReadyH.cons rfl (fun K hK => ?_) AllReadyH.nil
    go_simp
    go_at_call 17
    have hGf := G4 _ (HA.out.up hH.2.2.2)
    with_reducible refine hGf.out.mono ?_
    clear hGf
    rintro e wqf ⟨rfl, hbf⟩
    go_wp2_with fail
    refine hK.out _ _ (KS.out _ _ hbf hH) (fun hH2 => ?_)
    clear hK K hH
    have hH := hH2
    clear hH2
    try simp only [Act.put, List.setIfInBounds_toArray, List.set_cons_zero, List.set_cons_succ, List.getElem_toArray, List.getElem_cons_zero, List.getElem_cons_succ]
    refine wpAnyH_ready (rs := [33]) (by kernel_rfl) (by simp) ?_
    refine AllReadyH.cons rfl (fun K hK => ?_) AllReadyH.nil
    go_simp
    go_at_call 17
    have hGg := G5 _ E d (HE.out.up hH.2.2.2)
    with_reducible refine hGg.out.mono ?_
    clear hGg
    rintro e wqg ⟨rfl, hbg⟩
    go_wp2_with fail
    refine hK.out _ _ (KS.out _ _ hbg hH) (fun hH2 => ?_)
    clear hK K hH
    have hH := hH2
    clear hH2
    try simp only [Act.put, List.setIfInBounds_toArray, List.set_cons_zero, List.set_cons_succ, List.getElem_toArray, List.getElem_cons_zero, List.getElem_cons_succ]
    refine wpAnyH_take (i := 34) (v := ?v29) rfl (by kernel_rfl) (by kernel_rfl) (by kernel_rfl) (fun _ _ _ h => h) (Or.inl ⟨by rfl, ?hy29⟩) hH ?rest29
    case hy29 => (intro w hSw; (try dsimp only at hSw); go_simp; try with_reducible rfl)
    try simp only [Act.put, List.setIfInBounds_toArray, List.set_cons_zero, List.set_cons_succ, List.getElem_toArray, List.getElem_cons_zero, List.getElem_cons_succ]
    refine wpAnyH_take (i := 35) (v := ?v30) rfl (by kernel_rfl) (by kernel_rfl) (by kernel_rfl) (fun _ _ _ h => h) (Or.inl ⟨by rfl, ?hy30⟩) hH ?rest30
    case hy30 => (intro w hSw; (try dsimp only at hSw); go_simp; try with_reducible rfl)
    try simp only [Act.put, List.setIfInBounds_toArray, List.set_cons_zero, List.set_cons_succ, List.getElem_toArray, List.getElem_cons_zero, List.getElem_cons_succ]
    refine wpAnyH_take (i := 36) (v := ?v31) rfl (by kernel_rfl) (by kernel_rfl) (by kernel_rfl) (fun _ _ _ h => h) (Or.inl ⟨by rfl, ?hy31⟩) hH ?rest31
    case hy31 => (intro w hSw; (try dsimp only at hSw); go_simp; try with_reducible rfl)
    try simp only [Act.put, List.setIfInBounds_toArray, List.set_cons_zero, List.set_cons_succ, List.getElem_toArray, List.getElem_cons_zero, List.getElem_cons_succ]
    refine wpAnyH_done (by kernel_rfl) ?_ _
    have BX := HBF.out.trans (hH.2.2.2.mono HBF.out.size)
    go_wp2
    go_ret
    exact ⟨rfl, BX⟩
  · have hd : decide ((1 : Int) ≤ b1) = false := decide_eq_false hs1
    obtain rfl : t = false := HT.out (by omega)
    clear HT hs1
    go_wp2_with fail
    refine wp_region_held_drew (S := fun v => (v.cell? ⟨w.heap.size, 0, none⟩ = some (.int .i64 a0) ∧ v.cell? ⟨w.heap.size, 1, none⟩ = some (.slice A0 x0.length c0)) ∧ (v.cell? ⟨w.heap.size + 1, 0, none⟩ = some (.int .i64 a1) ∧ v.cell? ⟨w.heap.size + 1, 1, none⟩ = some (.int .i64 b1)) ∧ (v.cell? ⟨L, 0, none⟩ = some (.int .i64 a0) ∧ v.cell? ⟨L, 1, none⟩ = some (.slice E (x0.length + 2) d)) ∧ Below wc.heap.size wc v) (by kernel_rfl) (KD.out _ S0) (fun hH => ?_)
    refine wpAnyH_take (i := 0) (v := ?v32) rfl (by kernel_rfl) (by kernel_rfl) (by kernel_rfl) (fun _ _ _ h => h) (Or.inl ⟨by rfl, ?hy32⟩) hH ?rest32
    case hy32 => (intro w hSw; (try dsimp only at hSw); go_simp; try with_reducible rfl)
    try simp only [Act.put, List.setIfInBounds_toArray, List.set_cons_zero, List.set_cons_succ, List.getElem_toArray, List.getElem_cons_zero, List.getElem_cons_succ]
    refine wpAnyH_take (i := 1) (v := ?v33) rfl (by kernel_rfl) (by kernel_rfl) (by kernel_rfl) (fun _ _ _ h => h) (Or.inl ⟨by rfl, ?hy33⟩) hH ?rest33
    case hy33 => (intro w hSw; (try dsimp only at hSw); go_simp; try with_reducible rfl)
    try simp only [Act.put, List.setIfInBounds_toArray, List.set_cons_zero, List.set_cons_succ, List.getElem_toArray, List.getElem_cons_zero, List.getElem_cons_succ]
    refine wpAnyH_ready (rs := [2]) (by kernel_rfl) (by simp) ?_
    refine AllReadyH.cons rfl (fun K hK => ?_) AllReadyH.nil
    go_simp
    go_at_call 15
    have hGa := G0 _ (HA.out.up hH.2.2.2)
    with_reducible refine hGa.out.mono ?_
    clear hGa
    rintro e wqa ⟨rfl, hba⟩
    go_wp2_with fail
    refine hK.out _ _ (KS.out _ _ hba hH) (fun hH2 => ?_)
    clear hK K hH
    have hH := hH2
    clear hH2
    try simp only [Act.put, List.setIfInBounds_toArray, List.set_cons_zero, List.set_cons_succ, List.getElem_toArray, List.getElem_cons_zero, List.getElem_cons_succ]
    refine wpAnyH_take (i := 3) (v := ?v34) rfl (by kernel_rfl) (by kernel_rfl) (by kernel_rfl) (fun _ _ _ h => h) (Or.inl ⟨by rfl, ?hy34⟩) hH ?rest34
    case hy34 => (intro w hSw; (try dsimp only at hSw); go_simp; try with_reducible rfl)
    try simp only [Act.put, List.setIfInBounds_toArray, List.set_cons_zero, List.set_cons_succ, List.getElem_toArray, List.getElem_cons_zero, List.getElem_cons_succ]
    refine wpAnyH_take (i := 4) (v := ?v35) rfl (by kernel_rfl) (by kernel_rfl) (by kernel_rfl) (fun _ _ _ h => h) (Or.inl ⟨by rfl, ?hy35⟩) hH ?rest35
    case hy35 => (intro w hSw; (try dsimp only at hSw); go_simp; try with_reducible rfl)
    try simp only [Act.put, List.setIfInBounds_toArray, List.set_cons_zero, List.set_cons_succ, List.getElem_toArray, List.getElem_cons_zero, List.getElem_cons_succ]
    refine wpAnyH_take (i := 5) (v := ?v36) rfl (by kernel_rfl) (by kernel_rfl) (by kernel_rfl) (fun _ _ _ h => h) (Or.inl ⟨by rfl, ?hy36⟩) hH ?rest36
    case hy36 => (intro w hSw; (try dsimp only at hSw); go_simp; try with_reducible rfl)
    try simp only [Act.put, List.setIfInBounds_toArray, List.set_cons_zero, List.set_cons_succ, List.getElem_toArray, List.getElem_cons_zero, List.getElem_cons_succ]
    refine wpAnyH_ready (rs := [6]) (by kernel_rfl) (by simp) ?_
    refine AllReadyH.cons rfl (fun K hK => ?_) AllReadyH.nil
    go_simp
    go_at_call 13
    have hGb := G1 _ E d (HA.out.up hH.2.2.2) (HE.out.up hH.2.2.2)
    with_reducible refine hGb.out.mono ?_
    clear hGb
    rintro e wqb ⟨rfl, hbb⟩
    go_wp2_with fail
    refine hK.out _ _ (KS.out _ _ hbb hH) (fun hH2 => ?_)
    clear hK K hH
    have hH := hH2
    clear hH2
    try simp only [Act.put, List.setIfInBounds_toArray, List.set_cons_zero, List.set_cons_succ, List.getElem_toArray, List.getElem_cons_zero, List.getElem_cons_succ]
    refine wpAnyH_take (i := 7) (v := ?v37) rfl (by kernel_rfl) (by kernel_rfl) (by kernel_rfl) (fun _ _ _ h => h) (Or.inl ⟨by rfl, ?hy37⟩) hH ?rest37
    case hy37 => (intro w hSw; (try dsimp only at hSw); go_simp; try with_reducible rfl)
    try simp only [Act.put, List.setIfInBounds_toArray, List.set_cons_zero, List.set_cons_succ, List.getElem_toArray, List.getElem_cons_zero, List.getElem_cons_succ]
    refine wpAnyH_take (i := 8) (v := ?v38) rfl (by kernel_rfl) (by kernel_rfl) (by kernel_rfl) (fun _ _ _ h => h) (Or.inl ⟨by rfl, ?hy38⟩) hH ?rest38
    case hy38 => (intro w hSw; (try dsimp only at hSw); go_simp; try with_reducible rfl)
    try simp only [Act.put, List.setIfInBounds_toArray, List.set_cons_zero, List.set_cons_succ, List.getElem_toArray, List.getElem_cons_zero, List.getElem_cons_succ]
    refine wpAnyH_take (i := 9) (v := ?v39) rfl (by kernel_rfl) (by kernel_rfl) (by kernel_rfl) (fun _ _ _ h => h) (Or.inl ⟨by rfl, ?hy39⟩) hH ?rest39
    case hy39 => (intro w hSw; (try dsimp only at hSw); go_simp; try with_reducible rfl)
    try simp only [Act.put, List.setIfInBounds_toArray, List.set_cons_zero, List.set_cons_succ, List.getElem_toArray, List.getElem_cons_zero, List.getElem_cons_succ]
    refine wpAnyH_take (i := 10) (v := ?v40) rfl (by kernel_rfl) (by kernel_rfl) (by kernel_rfl) (fun _ _ _ h => h) (Or.inl ⟨by rfl, ?hy40⟩) hH ?rest40
    case hy40 => (intro w hSw; (try dsimp only at hSw); go_simp; try with_reducible rfl)
    try simp only [Act.put, List.setIfInBounds_toArray, List.set_cons_zero, List.set_cons_succ, List.getElem_toArray, List.getElem_cons_zero, List.getElem_cons_succ]
    refine wpAnyH_take (i := 13) (v := ?v41) rfl (by kernel_rfl) (by kernel_rfl) (by kernel_rfl) (fun _ _ _ h => h) (Or.inl ⟨by rfl, ?hy41⟩) hH ?rest41
    case hy41 => (intro w hSw; (try dsimp only at hSw); go_simp; try with_reducible rfl)
    try simp only [Act.put, List.setIfInBounds_toArray, List.set_cons_zero, List.set_cons_succ, List.getElem_toArray, List.getElem_cons_zero, List.getElem_cons_succ]
    refine wpAnyH_ready (rs := [11]) (by kernel_rfl) (by simp) ?_
    refine AllReadyH.cons rfl (fun K hK => ?_) AllReadyH.nil
    go_simp
    refine hK.out _ _ (KA.out _ _ hH) (fun hH2 => ?_)
    clear hK K hH
    have hH := hH2
    clear hH2
    try simp only [Act.put, List.setIfInBounds_toArray, List.set_cons_zero, List.set_cons_succ, List.getElem_toArray, List.getElem_cons_zero, List.getElem_cons_succ]
    refine wpAnyH_ready (rs := [12]) (by kernel_rfl) (by simp) ?_
    refine AllReadyH.cons rfl (fun K hK => ?_) AllReadyH.nil
    go_simp
    go_at_call 19
    have hGc := G2 _ (some ⟨wqb.heap.size, 0, none⟩) 2 (rc_two_at (A' := none) (ys := []) (c := c0) (c' := 0) (by simp) (by simp) (by simp) (by simp) (HA.out.up hH.2.2.2) Sl.nil)
    with_reducible refine hGc.out.mono ?_
    clear hGc
    rintro e wqc ⟨Aq, cq, rfl, hq, hbc⟩
    go_wp2_with fail
    refine hK.out _ _ (KS.out _ _ hbc hH) (fun hH2 => ?_)
    clear hK K hH
    have hH := hH2
    clear hH2
    try simp only [Act.put, List.setIfInBounds_toArray, List.set_cons_zero, List.set_cons_succ, List.getElem_toArray, List.getElem_cons_zero, List.getElem_cons_succ]
    refine wpAnyH_ready (rs := [14]) (by kernel_rfl) (by simp) ?_
    refine AllReadyH.cons rfl (fun K hK => ?_) AllReadyH.nil
    go_simp
    go_at_call 13
    have hGd := G3 _ Aq cq hq (HA.out.up hH.2.2.2)
    with_reducible refine hGd.out.mono ?_
    clear hGd
    rintro e wqd ⟨rfl, hbd⟩
    go_wp2_with fail
    refine hK.out _ _ (KS.out _ _ hbd hH) (fun hH2 => ?_)
    clear hK K hH
    have hH := hH2
    clear hH2
    try simp only [Act.put, List.setIfInBounds_toArray, List.set_cons_zero, List.set_cons_succ, List.getElem_toArray, List.getElem_cons_zero, List.getElem_cons_succ]
    refine wpAnyH_take (i := 15) (v := ?v43) rfl (by kernel_rfl) (by kernel_rfl) (by kernel_rfl) (fun _ _ _ h => h) (Or.inl ⟨by rfl, ?hy43⟩) hH ?rest43
    case hy43 => (intro w hSw; (try dsimp only at hSw); go_simp; try with_reducible rfl)
    try simp only [Act.put, List.setIfInBounds_toArray, List.set_cons_zero, List.set_cons_succ, List.getElem_toArray, List.getElem_cons_zero, List.getElem_cons_succ]
    refine wpAnyH_take (i := 16) (v := ?v44) rfl (by kernel_rfl) (by kernel_rfl) (by kernel_rfl) (fun _ _ _ h => h) (Or.inl ⟨by rfl, ?hy44⟩) hH ?rest44
    case hy44 => (intro w hSw; (try dsimp only at hSw); go_simp; try with_reducible rfl)
    try simp only [Act.put, List.setIfInBounds_toArray, List.set_cons_zero, List.set_cons_succ, List.getElem_toArray, List.getElem_cons_zero, List.getElem_cons_succ]
    refine wpAnyH_take (i := 17) (v := ?v45) rfl (by kernel_rfl) (by kernel_rfl) (by kernel_rfl) (fun _ _ _ h => h) (Or.inl ⟨by rfl, ?hy45⟩) hH ?rest45
    case hy45 => (intro w hSw; (try dsimp only at hSw); go_simp; try with_reducible rfl)
    try simp only [Act.put, List.setIfInBounds_toArray, List.set_cons_zero, List.set_cons_succ, List.getElem_toArray, List.getElem_cons_zero, List.getElem_cons_succ]
    refine wpAnyH_take (i := 18) (v := ?v46) rfl (by kernel_rfl) (by kernel_rfl) (by kernel_rfl) (fun _ _ _ h => h) (Or.inl ⟨by rfl, ?hy46⟩) hH ?rest46
    case hy46 => (intro w hSw; (try dsimp only at hSw); go_simp; try with_reducible rfl)
    try simp only [Act.put, List.setIfInBounds_toArray, List.set_cons_zero, List.set_cons_succ, List.getElem_toArray, List.getElem_cons_zero, List.getElem_cons_succ]
    refine wpAnyH_take (i := 19) (v := ?v47) rfl (by kernel_rfl) (by kernel_rfl) (by kernel_rfl) (fun _ _ _ h => h) (Or.inl ⟨by rfl, ?hy47⟩) hH ?rest47
    case hy47 => (intro w hSw; (try dsimp only at hSw); go_simp; try with_reducible rfl)
    try simp only [Act.put, List.setIfInBounds_toArray, List.set_cons_zero, List.set_cons_succ, List.getElem_toArray, List.getElem_cons_zero, List.getElem_cons_succ]
    refine wpAnyH_take (i := 20) (v := ?v48) rfl (by kernel_rfl) (by kernel_rfl) (by kernel_rfl) (fun _ _ _ h => h) (Or.inl ⟨by rfl, ?hy48⟩) hH ?rest48
    case hy48 => (intro w hSw; (try dsimp only at hSw); go_simp; try with_reducible rfl)
    try simp only [Act.put, List.setIfInBounds_toArray, List.set_cons_zero, List.set_cons_succ, List.getElem_toArray, List.getElem_cons_zero, List.getElem_cons_succ]
    refine wpAnyH_take (i := 21) (v := ?v49) rfl (by kernel_rfl) (by kernel_rfl) (by kernel_rfl) (fun _ _ _ h => h) (Or.inl ⟨by rfl, ?hy49⟩) hH ?rest49
    case hy49 => (intro w hSw; (try dsimp only at hSw); go_simp; try with_reducible rfl)
    try simp only [Act.put, List.setIfInBounds_toArray, List.set_cons_zero, List.set_cons_succ, List.getElem_toArray, List.getElem_cons_zero, List.getElem_cons_succ]
    refine wpAnyH_take (i := 22) (v := ?v50) rfl (by kernel_rfl) (by kernel_rfl) (by kernel_rfl) (fun _ _ _ h => h) (Or.inl ⟨by rfl, ?hy50⟩) hH ?rest50
    case hy50 => (intro w hSw; (try dsimp only at hSw); go_simp; try with_reducible rfl)
    try simp only [Act.put, List.setIfInBounds_toArray, List.set_cons_zero, List.set_cons_succ, List.getElem_toArray, List.getElem_cons_zero, List.getElem_cons_succ]
    refine wpAnyH_ready (rs := [23]) (by kernel_rfl) (by simp) ?_
    refine AllReadyH.cons rfl (fun K hK => ?_) AllReadyH.nil
    go_simp
    go_at_call 17
    have hGe := G4 _ (HA.out.up hH.2.2.2)
    with_reducible refine hGe.out.mono ?_
    clear hGe
    rintro e wqe ⟨rfl, hbe⟩
    go_wp2_with fail
    refine hK.out _ _ (KS.out _ _ hbe hH) (fun hH2 => ?_)
    clear hK K hH
    have hH := hH2
    clear hH2
    try simp only [Act.put, List.setIfInBounds_toArray, List.set_cons_zero, List.set_cons_succ, List.getElem_toArray, List.getElem_cons_zero, List.getElem_cons_succ]
    refine wpAnyH_take (i := 24) (v := ?v51) rfl (by kernel_rfl) (by kernel_rfl) (by kernel_rfl) (fun _ _ _ h => h) (Or.inl ⟨by rfl, ?hy51⟩) hH ?rest51
    case hy51 => (intro w hSw; (try dsimp only at hSw); go_simp; try with_reducible rfl)
    try simp only [Act.put, List.setIfInBounds_toArray, List.set_cons_zero, List.set_cons_succ, List.getElem_toArray, List.getElem_cons_zero, List.getElem_cons_succ]
    refine wpAnyH_take (i := 25) (v := ?v52) rfl (by kernel_rfl) (by kernel_rfl) (by kernel_rfl) (fun _ _ _ h => h) (Or.inl ⟨by rfl, ?hy52⟩) hH ?rest52
    case hy52 => (intro w hSw; (try dsimp only at hSw); go_simp; try with_reducible rfl)
    try simp only [Act.put, List.setIfInBounds_toArray, List.set_cons_zero, List.set_cons_succ, List.getElem_toArray, List.getElem_cons_zero, List.getElem_cons_succ]
    refine wpAnyH_take (i := 26) (v := ?v53) rfl (by kernel_rfl) (by kernel_rfl) (by kernel_rfl) (fun _ _ _ h => h) (Or.inl ⟨by rfl, ?hy53⟩) hH ?rest53
    case hy53 => (intro w hSw; (try dsimp only at hSw); go_simp; try with_reducible rfl)
    try simp only [Act.put, List.setIfInBounds_toArray, List.set_cons_zero, List.set_cons_succ, List.getElem_toArray, List.getElem_cons_zero, List.getElem_cons_succ]
    refine wpAnyH_take (i := 27) (v := ?v54) rfl (by kernel_rfl) (by kernel_rfl) (by kernel_rfl) (fun _ _ _ h => h) (Or.inl ⟨by rfl, ?hy54⟩) hH ?rest54
    case hy54 => (intro w hSw; (try dsimp only at hSw); go_simp; try with_reducible rfl)
    try simp only [Act.put, List.setIfInBounds_toArray, List.set_cons_zero, List.set_cons_succ, List.getElem_toArray, List.getElem_cons_zero, List.getElem_cons_succ]
    refine wpAnyH_take (i := 28) (v := ?v55) rfl (by kernel_rfl) (by kernel_rfl) (by kernel_rfl) (fun _ _ _ h => h) (Or.inl ⟨by rfl, ?hy55⟩) hH ?rest55
    case hy55 => (intro w hSw; (try dsimp only at hSw); go_simp; try with_reducible rfl)
    try simp only [Act.put, List.setIfInBounds_toArray, List.set_cons_zero, List.set_cons_succ, List.getElem_toArray, List.getElem_cons_zero, List.getElem_cons_succ]
    refine wpAnyH_take (i := 29) (v := ?v56) rfl (by kernel_rfl) (by kernel_rfl) (by kernel_rfl) (fun _ _ _ h => h) (Or.inl ⟨by rfl, ?hy56⟩) hH ?rest56
    case hy56 => (intro w hSw; (try dsimp only at hSw); go_simp; try with_reducible rfl)
    try simp only [Act.put, List.setIfInBounds_toArray, List.set_cons_zero, List.set_cons_succ, List.getElem_toArray, List.getElem_cons_zero, List.getElem_cons_succ]
    refine wpAnyH_take (i := 31) (v := ?v57) rfl (by kernel_rfl) (by kernel_rfl) (by kernel_rfl) (fun _ _ _ h => h) (Or.inl ⟨by rfl, ?hy57⟩) hH ?rest57
    case hy57 => (intro w hSw; (try dsimp only at hSw); go_simp; try with_reducible rfl)
    try simp only [Act.put, List.setIfInBounds_toArray, List.set_cons_zero, List.set_cons_succ, List.getElem_toArray, List.getElem_cons_zero, List.getElem_cons_succ]
    refine wpAnyH_take (i := 32) (v := ?v58) rfl (by kernel_rfl) (by kernel_rfl) (by kernel_rfl) (fun _ _ _ h => h) (Or.inl ⟨by rfl, ?hy58⟩) hH ?rest58
    case hy58 => (intro w hSw; (try dsimp only at hSw); go_simp; try with_reducible rfl)
    try simp only [Act.put, List.setIfInBounds_toArray, List.set_cons_zero, List.set_cons_succ, List.getElem_toArray, List.getElem_cons_zero, List.getElem_cons_succ]
    refine wpAnyH_ready (rs := [30]) (by kernel_rfl) (by simp) ?_
    refine AllReadyH.cons rfl (fun K hK => ?_) AllReadyH.nil
    go_simp
    go_at_call 17
    have hGf := G4 _ (HA.out.up hH.2.2.2)
    with_reducible refine hGf.out.mono ?_
    clear hGf
    rintro e wqf ⟨rfl, hbf⟩
    go_wp2_with fail
    refine hK.out _ _ (KS.out _ _ hbf hH) (fun hH2 => ?_)
    clear hK K hH
    have hH := hH2
    clear hH2
    try simp only [Act.put, List.setIfInBounds_toArray, List.set_cons_zero, List.set_cons_succ, List.getElem_toArray, List.getElem_cons_zero, List.getElem_cons_succ]
    refine wpAnyH_ready (rs := [33]) (by kernel_rfl) (by simp) ?_
    refine AllReadyH.cons rfl (fun K hK => ?_) AllReadyH.nil
    go_simp
    go_at_call 17
    have hGg := G5 _ E d (HE.out.up hH.2.2.2)
    with_reducible refine hGg.out.mono ?_
    clear hGg
    rintro e wqg ⟨rfl, hbg⟩
    go_wp2_with fail
    refine hK.out _ _ (KS.out _ _ hbg hH) (fun hH2 => ?_)
    clear hK K hH
    have hH := hH2
    clear hH2
    try simp only [Act.put, List.setIfInBounds_toArray, List.set_cons_zero, List.set_cons_succ, List.getElem_toArray, List.getElem_cons_zero, List.getElem_cons_succ]
    refine wpAnyH_take (i := 34) (v := ?v59) rfl (by kernel_rfl) (by kernel_rfl) (by kernel_rfl) (fun _ _ _ h => h) (Or.inl ⟨by rfl, ?hy59⟩) hH ?rest59
    case hy59 => (intro w hSw; (try dsimp only at hSw); go_simp; try with_reducible rfl)
    try simp only [Act.put, List.setIfInBounds_toArray, List.set_cons_zero, List.set_cons_succ, List.getElem_toArray, List.getElem_cons_zero, List.getElem_cons_succ]
    refine wpAnyH_take (i := 35) (v := ?v60) rfl (by kernel_rfl) (by kernel_rfl) (by kernel_rfl) (fun _ _ _ h => h) (Or.inl ⟨by rfl, ?hy60⟩) hH ?rest60
    case hy60 => (intro w hSw; (try dsimp only at hSw); go_simp; try with_reducible rfl)
    try simp only [Act.put, List.setIfInBounds_toArray, List.set_cons_zero, List.set_cons_succ, List.getElem_toArray, List.getElem_cons_zero, List.getElem_cons_succ]
    refine wpAnyH_take (i := 36) (v := ?v61) rfl (by kernel_rfl) (by kernel_rfl) (by kernel_rfl) (fun _ _ _ h => h) (Or.inl ⟨by rfl, ?hy61⟩) hH ?rest61
    case hy61 => (intro w hSw; (try dsimp only at hSw); go_simp; try with_reducible rfl)
    try simp only [Act.put, List.setIfInBounds_toArray, List.set_cons_zero, List.set_cons_succ, List.getElem_toArray, List.getElem_cons_zero, List.getElem_cons_succ]
    refine wpAnyH_done (by kernel_rfl) ?_ _
    have BX := HBF.out.trans (hH.2.2.2.mono HBF.out.size)
    go_wp2
    go_ret
    exact ⟨rfl, BX⟩

theorem getD_pad (xs : List Int) (i : Nat) : (xs ++ [0, 0]).getD i 0 = xs.getD i 0 := by
  by_cases h : i < xs.length
  · simp only [List.getD]; rw [List.getElem?_append_left h]
  · rw [getD_out (xs := xs) (by omega)]
    simp only [List.getD]
    rw [List.getElem?_append_right (by omega)]
    rcases h2 : i - xs.length with _ | _ | n
    · rfl
    · rfl
    · rfl
theorem dp_pad (xs : List Int) (k : Int) : dp (xs ++ [0, 0]) k = dp xs k := by
  by_cases hk : 1 ≤ k
  · rw [dp_in hk, dp_in hk, getD_pad]
  · rw [dp_out (.inl (by omega)), dp_out (.inl (by omega))]
theorem wt_pad (xs : List Int) (k y : Int) : wt (xs ++ [0, 0]) k y = wt xs k y := by unfold wt; rw [dp_pad]
theorem sa_pad (a : Int) (xs : List Int) : sa a xs a (xs ++ [0, 0]) = true := sa_iff.2 ⟨rfl, fun i => (getD_pad xs i).symm⟩
theorem wi_none {a : Int} {xs : List Int} {n : Int} (h : my a xs n = true) : wi 0 [] a xs = true := wi_iff.2 ⟨(my_iff.1 h).2.2.2.2.1, fun i => by have := (my_at h i).1; simpa using this⟩
theorem sa_none {a : Int} {xs : List Int} {n : Int} (h : my a xs n = true) : sa (sq [(a, xs), (0, [])]) (mg [(a, xs), (0, [])]) a xs = true := by
  have h0 := (my_iff.1 h).2.2.2.2.1
  refine sa_iff.2 ⟨by rw [sq2]; simp only; omega, fun i => ?_⟩
  rw [mg_at, dm2]
  have := (my_at h i).1
  simp only [List.getD_nil]
  omega

theorem walk (a0 : Int) (A0 : Option Addr) (c0 : Nat) (x0 : List Int) (a1 b1 : Int) (w : World) (s0 : Sl w w.heap.size .i64 A0 x0) (w1 : a1 ≤ 9223372036854775807) (v1 : b1 ≤ 9223372036854775807) : Calls Try.prog 8 #[.agg #[.int .i64 a0, .slice A0 x0.length c0], .agg #[.int .i64 a1, .int .i64 b1]] w (UpPost w) := by
  have M0 : ∀ W, Sl W W.heap.size .i64 A0 x0 → Hid (Calls Try.prog 11 #[.agg #[.int .i64 a0, .slice A0 x0.length c0], .int .i64 5] W (BoolPost W (my a0 x0 5))) := fun W h => may_any a0 A0 c0 x0 5 W h
  rcases h0 : my a0 x0 5 with _ | _
  · rw [h0] at M0
    exact nay a0 A0 c0 x0 a1 b1 w s0 w1 v1 M0
  rw [h0] at M0
  have l0 := (my_iff.1 h0).2.2.1
  have e2 : (x0 ++ [0, 0]).length = x0.length + 2 := by simp
  have lm : (mg [(a0, x0), (0, [])]).length ≤ 1000 := by rw [mg_len, lg2]; simp only [List.length_nil]; omega
  refine rest (wt x0 a1 b1) (sq [(a0, x0), (0, [])]) (mg [(a0, x0), (0, [])]) a0 A0 c0 x0 a1 b1 w s0 w1 v1 (by omega) (fun h => wt_lo h) M0 ?_ ?_ (fun W A c h => merge_any A c [(a0, x0), (0, [])] W (by simp) (by rw [lg2]; simp only [List.length_nil]; omega) h) ?_ (fun W h => waits_any a0 a1 b1 A0 c0 x0 W h w1) ?_
  · intro W h
    have := within_any 0 a0 none A0 0 c0 [] x0 W Sl.nil h (by simp) (by omega)
    rw [wi_none h0] at this
    exact this
  · intro W E d h h'
    have := same_any a0 a0 A0 E c0 d x0 (x0 ++ [0, 0]) W h h' (by omega) (by omega)
    rw [sa_pad, e2] at this
    exact this
  · intro W A c h h'
    have := same_any (sq [(a0, x0), (0, [])]) a0 A A0 c c0 (mg [(a0, x0), (0, [])]) x0 W h h' lm (by omega)
    rw [sa_none h0] at this
    exact this
  · intro W E d h
    have := waits_any a0 a1 b1 E d (x0 ++ [0, 0]) W h w1
    rw [wt_pad, e2] at this
    exact this

theorem own : ownKnob Try.prog.godebug = none := by kernel_rfl
theorem laidOut : laidOutB Try.prog = true := by kernel_rfl

set_option maxRecDepth 100000 in
theorem lifted (os : Os) (started : os.Started) (H : Type) (enc : TypeId × Value → H) :
    ReturnsInHanded {} Try.checked os 8 .any (Rows.attrNoneSpec.pre6 enc Try.prog Try.f8 Rows.attrNoneRow.domain false) (Rows.attrNoneSpec.post enc Try.prog Try.f8 false true false false) := by
  refine returnsInHanded_of_change (C := Try.checked) own started (by kernel_rfl) Try.func8
    (ChangeSpec.witness6 (enc := enc) (C := Try.checked) false ⟨#[], #[.agg #[.int .i64 0, .slice none 0 0], .agg #[.int .i64 0, .int .i64 0]], []⟩ 8 (by kernel_rfl) (by kernel_rfl) (by kernel_rfl) (by kernel_rfl)) ?_
  intro W base args ds gs before hval0 hW hcnd _
  have hval : ∀ (j : Nat) t v, Try.f8.params[j]? = some t → args[j]? = some v → Value.okWide Try.prog W .any base t v := hval0
  have hW' := hW
  obtain ⟨p, q, hA, hV, rfl, hfz, hnd⟩ := hW
  have hA : DataW.TrodAll enc Try.prog W 0 (fun _ => true) true Try.f8.params.toList args.toList ds p := hA
  rw [Try.params8] at hA hval
  obtain ⟨v0, vs0, d0, ds0, p0, q0, hargs, rfl, rfl, h0, r0⟩ := trodAll_cons hA
  obtain ⟨v1, vs1, d1, ds1, p1, q1, rfl, rfl, rfl, h1, r1⟩ := trodAll_cons r0
  obtain ⟨rfl, rfl, rfl⟩ := trodAll_nil r1
  obtain rfl : args = #[v0, v1] := by cases args; simp_all
  obtain ⟨rfl, rfl⟩ := trodVars_none hV
  have k0 := h0
  have lt0 : ∀ x ∈ p0, x.block < W.heap.size := by obtain ⟨m, hm⟩ := k0; exact DataW.trod_lt m _ _ _ hm
  obtain ⟨a0, A0, c0, x0, rfl, s0⟩ := open_attr (hval 0 24 v0 rfl rfl) h0
  have k1 := h1
  have lt1 : ∀ x ∈ p1, x.block < W.heap.size := by obtain ⟨m, hm⟩ := k1; exact DataW.trod_lt m _ _ _ hm
  obtain ⟨a1, b1, rfl, w1, v1⟩ := open_inst (hval 1 26 v1 rfl rfl) h1
  clear hval0
  refine (walk a0 A0 c0 x0 a1 b1 W s0 w1 v1).mono fun e W' ⟨he, bel⟩ => ?_
  subst he
  exact ⟨_, rfl, _, _, _, [], _, [], hW', trodAll_mk1 (shut_bool Try.underlying4 _), (trodAll_cons_mk (Below.trod laidOut (by kernel_rfl) (of_decide_eq_true (by kernel_rfl)) k0 bel lt0) (trodAll_cons_mk (Below.trod laidOut (by kernel_rfl) (of_decide_eq_true (by kernel_rfl)) k1 bel lt1) trodAll_mk0)), rfl, bel.frame _, fun h => by cases h⟩

theorem over : Rows.attrNoneRow.holds Try.pinned (OpenSpec.ofChange Rows.attrNoneSpec) :=
  OpenClaim.holds_of_wide 8 Try.f8 rfl rfl rfl rfl rfl rfl rfl ⟨rfl, rfl, rfl, rfl, rfl⟩ rfl rfl rfl rfl rfl (by kernel_rfl) Try.func8 (by kernel_rfl)
    (of_decide_eq_true (by kernel_rfl)) (by unfold Func.isWrapper; first | (rw [if_pos (by decide +kernel)]; kernel_rfl) | (rw [if_neg (by decide +kernel)]; exact ⟨rfl, rfl⟩))
    (fun os started H enc _ => lifted os started H enc)

theorem proved : Rows.AttrNoneSaid := over
#print axioms proved
end Go.Proofs.Ytiedagbboednkaa.attrNone
