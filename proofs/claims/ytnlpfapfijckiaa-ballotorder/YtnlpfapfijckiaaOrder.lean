/-
  The order is total: of two one is less, or they are the same; it holds of three: BallotOrder answers true whatever the three ballots; they read as they did. Conditions: none.
-/
import Derived.Test.YtnlpfapfijckiaaOpen
import Derived.Deep.RegionLaw
import Derived.Deep.AppendLies
namespace Go.Proofs.Ytnlpfapfijckiaa.ballotOrder
open Go.ChangeShapes Go.WideShapes Go.ChangeAt Go.RowKit
set_option linter.unusedVariables false
set_option linter.unusedSimpArgs false
attribute [local go_sem ↓ high] eq23 guard23 neq23 guard23n

set_option maxHeartbeats 2000000 in
theorem rest (x y z u : Int) (q : Bool) (a0 b0 : Int) (a1 b1 : Int) (a2 b2 : Int) (w : World) (hq : ((a0 == a1) && (b0 == b1)) = q) (hx : (x = 0 ∧ z = 0 ∧ q = true) ∨ (x = 1 ∧ z = -1 ∧ q = false) ∨ (x = -1 ∧ z = 1 ∧ q = false)) (hu : x ≤ 0 → y ≤ 0 → u ≤ 0)
    (HX : ∀ W, Hid (Calls Try.prog 13 #[.agg #[.int .i64 a0, .int .i64 b0], .agg #[.int .i64 a1, .int .i64 b1]] W (IntPost W x))) (HY : ∀ W, Hid (Calls Try.prog 13 #[.agg #[.int .i64 a1, .int .i64 b1], .agg #[.int .i64 a2, .int .i64 b2]] W (IntPost W y))) (HZ : ∀ W, Hid (Calls Try.prog 13 #[.agg #[.int .i64 a1, .int .i64 b1], .agg #[.int .i64 a0, .int .i64 b0]] W (IntPost W z))) (HU : ∀ W, Hid (Calls Try.prog 13 #[.agg #[.int .i64 a0, .int .i64 b0], .agg #[.int .i64 a2, .int .i64 b2]] W (IntPost W u))) :
    Calls Try.prog 4 #[.agg #[.int .i64 a0, .int .i64 b0], .agg #[.int .i64 a1, .int .i64 b1], .agg #[.int .i64 a2, .int .i64 b2]] w (UpPost w) := by
  go_enter Try.func4, Try.ntmps4
  go_wp2_with fail
  have BW : Below w.heap.size w (((w.alloc (.cells #[.int .i64 a0, .int .i64 b0] 23)).alloc (.cells #[.int .i64 a1, .int .i64 b1] 23)).alloc (.cells #[.int .i64 a2, .int .i64 b2] 23)) := (((Below.refl _ _).alloc (Nat.le_refl _) _).alloc (by simp) _).alloc (by simp; omega) _
  have Z0 : (((w.alloc (.cells #[.int .i64 a0, .int .i64 b0] 23)).alloc (.cells #[.int .i64 a1, .int .i64 b1] 23)).alloc (.cells #[.int .i64 a2, .int .i64 b2] 23)).heap.size = w.heap.size + 1 + 1 + 1 := by simp
  have C0 : Bb (((w.alloc (.cells #[.int .i64 a0, .int .i64 b0] 23)).alloc (.cells #[.int .i64 a1, .int .i64 b1] 23)).alloc (.cells #[.int .i64 a2, .int .i64 b2] 23)) (w.heap.size) a0 b0 := by
    have := (((bx_new w a0 b0).old (.cells #[.int .i64 a1, .int .i64 b1] 23)).old (.cells #[.int .i64 a2, .int .i64 b2] 23)).bb
    exact this
  have C1 : Bb (((w.alloc (.cells #[.int .i64 a0, .int .i64 b0] 23)).alloc (.cells #[.int .i64 a1, .int .i64 b1] 23)).alloc (.cells #[.int .i64 a2, .int .i64 b2] 23)) (w.heap.size + 1) a1 b1 := by
    have := ((bx_new (w.alloc (.cells #[.int .i64 a0, .int .i64 b0] 23)) a1 b1).old (.cells #[.int .i64 a2, .int .i64 b2] 23)).bb
    rw [show (w.alloc (.cells #[.int .i64 a0, .int .i64 b0] 23)).heap.size = w.heap.size + 1 by simp] at this
    exact this
  have C2 : Bb (((w.alloc (.cells #[.int .i64 a0, .int .i64 b0] 23)).alloc (.cells #[.int .i64 a1, .int .i64 b1] 23)).alloc (.cells #[.int .i64 a2, .int .i64 b2] 23)) (w.heap.size + 1 + 1) a2 b2 := by
    have := (bx_new ((w.alloc (.cells #[.int .i64 a0, .int .i64 b0] 23)).alloc (.cells #[.int .i64 a1, .int .i64 b1] 23)) a2 b2).bb
    rw [show ((w.alloc (.cells #[.int .i64 a0, .int .i64 b0] 23)).alloc (.cells #[.int .i64 a1, .int .i64 b1] 23)).heap.size = w.heap.size + 1 + 1 by simp] at this
    exact this
  generalize (((w.alloc (.cells #[.int .i64 a0, .int .i64 b0] 23)).alloc (.cells #[.int .i64 a1, .int .i64 b1] 23)).alloc (.cells #[.int .i64 a2, .int .i64 b2] 23)) = W0 at *
  refine (awake_any W0).mono ?_
  rintro e w1 ⟨rfl, B1⟩
  have q1 := B1.size
  have B01 := B1
  obtain ⟨pC0, rC0⟩ := C0.on B01 (by omega)
  obtain ⟨pC1, rC1⟩ := C1.on B01 (by omega)
  obtain ⟨pC2, rC2⟩ := C2.on B01 (by omega)
  go_wp2_with fail
  clear pC0 rC0 pC1 rC1 pC2 rC2
  refine (HX _).out.mono ?_
  rintro e w2 ⟨rfl, B2⟩
  have q2 := B2.size
  have B02 := B01.trans (B2.mono (by omega))
  obtain ⟨pC0, rC0⟩ := C0.on B02 (by omega)
  obtain ⟨pC1, rC1⟩ := C1.on B02 (by omega)
  obtain ⟨pC2, rC2⟩ := C2.on B02 (by omega)
  go_wp2_with fail
  clear pC0 rC0 pC1 rC1 pC2 rC2
  refine (HY _).out.mono ?_
  rintro e w3 ⟨rfl, B3⟩
  have q3 := B3.size
  have B03 := B02.trans (B3.mono (by omega))
  obtain ⟨pC0, rC0⟩ := C0.on B03 (by omega)
  obtain ⟨pC1, rC1⟩ := C1.on B03 (by omega)
  obtain ⟨pC2, rC2⟩ := C2.on B03 (by omega)
  go_wp2_with fail
  clear pC0 rC0 pC1 rC1 pC2 rC2
  refine (HZ _).out.mono ?_
  rintro e w4 ⟨rfl, B4⟩
  have q4 := B4.size
  have B04 := B03.trans (B4.mono (by omega))
  have BE := BW.trans (B04.mono BW.size)
  clear HX HY HZ
  rcases hx with ⟨rfl, rfl, rfl⟩ | ⟨rfl, rfl, rfl⟩ | ⟨rfl, rfl, rfl⟩
  · have hu' := hu (by omega)
    clear hu
    by_cases hy : 0 < y
    · obtain ⟨pC0, rC0⟩ := C0.on B04 (by omega)
      obtain ⟨pC1, rC1⟩ := C1.on B04 (by omega)
      obtain ⟨pC2, rC2⟩ := C2.on B04 (by omega)
      go_wp2
      go_ret
      exact ⟨rfl, BE⟩
    · have hu2 := hu' (by omega)
      clear hu'
      obtain ⟨pC0, rC0⟩ := C0.on B04 (by omega)
      obtain ⟨pC1, rC1⟩ := C1.on B04 (by omega)
      obtain ⟨pC2, rC2⟩ := C2.on B04 (by omega)
      go_wp2_with fail
      clear pC0 rC0 pC1 rC1 pC2 rC2
      refine (HU _).out.mono ?_
      rintro e w5 ⟨rfl, B5⟩
      have q5 := B5.size
      have B05 := B04.trans (B5.mono (by omega))
      have BF := BW.trans (B05.mono BW.size)
      go_wp2
      go_ret
      exact ⟨rfl, BF⟩
  · obtain ⟨pC0, rC0⟩ := C0.on B04 (by omega)
    obtain ⟨pC1, rC1⟩ := C1.on B04 (by omega)
    obtain ⟨pC2, rC2⟩ := C2.on B04 (by omega)
    clear hu
    go_wp2
    go_ret
    exact ⟨rfl, BE⟩
  · have hu' := hu (by omega)
    clear hu
    by_cases hy : 0 < y
    · obtain ⟨pC0, rC0⟩ := C0.on B04 (by omega)
      obtain ⟨pC1, rC1⟩ := C1.on B04 (by omega)
      obtain ⟨pC2, rC2⟩ := C2.on B04 (by omega)
      go_wp2
      go_ret
      exact ⟨rfl, BE⟩
    · have hu2 := hu' (by omega)
      clear hu'
      obtain ⟨pC0, rC0⟩ := C0.on B04 (by omega)
      obtain ⟨pC1, rC1⟩ := C1.on B04 (by omega)
      obtain ⟨pC2, rC2⟩ := C2.on B04 (by omega)
      go_wp2_with fail
      clear pC0 rC0 pC1 rC1 pC2 rC2
      refine (HU _).out.mono ?_
      rintro e w5 ⟨rfl, B5⟩
      have q5 := B5.size
      have B05 := B04.trans (B5.mono (by omega))
      have BF := BW.trans (B05.mono BW.size)
      go_wp2
      go_ret
      exact ⟨rfl, BF⟩

theorem walk (a0 b0 : Int) (a1 b1 : Int) (a2 b2 : Int) (w : World) : Calls Try.prog 4 #[.agg #[.int .i64 a0, .int .i64 b0], .agg #[.int .i64 a1, .int .i64 b1], .agg #[.int .i64 a2, .int .i64 b2]] w (UpPost w) := by
  refine rest (cm a0 b0 a1 b1) (cm a1 b1 a2 b2) (cm a1 b1 a0 b0) (cm a0 b0 a2 b2) _ a0 b0 a1 b1 a2 b2 w rfl ?_ ?_ (fun W => cmp_any _ _ _ _ W) (fun W => cmp_any _ _ _ _ W) (fun W => cmp_any _ _ _ _ W) (fun W => cmp_any _ _ _ _ W)
  · rcases cm_cases a0 b0 a1 b1 with ⟨e, h1, h2⟩ | ⟨e, h⟩ | ⟨e, h⟩
    · subst h1 h2; exact .inl ⟨e, cm_eq _ _, by simp⟩
    · exact .inr (.inl ⟨e, cm_less.2 (by omega), not_same (by omega)⟩)
    · exact .inr (.inr ⟨e, cm_one.2 (by omega), not_same (by omega)⟩)
  · intro h1 h2
    rcases cm_cases a0 b0 a1 b1 with ⟨e, h⟩ | ⟨e, h⟩ | ⟨e, h⟩
    all_goals rcases cm_cases a1 b1 a2 b2 with ⟨e', h'⟩ | ⟨e', h'⟩ | ⟨e', h'⟩
    all_goals rcases cm_cases a0 b0 a2 b2 with ⟨e2, h3⟩ | ⟨e2, h3⟩ | ⟨e2, h3⟩
    all_goals omega

theorem own : ownKnob Try.prog.godebug = none := by kernel_rfl
theorem laidOut : laidOutB Try.prog = true := by kernel_rfl

set_option maxRecDepth 100000 in
theorem lifted (os : Os) (started : os.Started) (H : Type) (enc : TypeId × Value → H) :
    ReturnsInHanded {} Try.checked os 4 .any (Rows.ballotOrderSpec.pre6 enc Try.prog Try.f4 Rows.ballotOrderRow.domain false) (Rows.ballotOrderSpec.post enc Try.prog Try.f4 false true false false) := by
  refine returnsInHanded_of_change (C := Try.checked) own started (by kernel_rfl) Try.func4
    (ChangeSpec.witness6 (enc := enc) (C := Try.checked) false ⟨#[], #[.agg #[.int .i64 0, .int .i64 0], .agg #[.int .i64 0, .int .i64 0], .agg #[.int .i64 0, .int .i64 0]], []⟩ 8 (by kernel_rfl) (by kernel_rfl) (by kernel_rfl) (by kernel_rfl)) ?_
  intro W base args ds gs before hval0 hW hcnd _
  have hval : ∀ (j : Nat) t v, Try.f4.params[j]? = some t → args[j]? = some v → Value.okWide Try.prog W .any base t v := hval0
  have hW' := hW
  obtain ⟨p, q, hA, hV, rfl, hfz, hnd⟩ := hW
  have hA : DataW.TrodAll enc Try.prog W 0 (fun _ => true) true Try.f4.params.toList args.toList ds p := hA
  rw [Try.params4] at hA hval
  obtain ⟨v0, vs0, d0, ds0, p0, q0, hargs, rfl, rfl, h0, r0⟩ := trodAll_cons hA
  obtain ⟨v1, vs1, d1, ds1, p1, q1, rfl, rfl, rfl, h1, r1⟩ := trodAll_cons r0
  obtain ⟨v2, vs2, d2, ds2, p2, q2, rfl, rfl, rfl, h2, r2⟩ := trodAll_cons r1
  obtain ⟨rfl, rfl, rfl⟩ := trodAll_nil r2
  obtain rfl : args = #[v0, v1, v2] := by cases args; simp_all
  obtain ⟨rfl, rfl⟩ := trodVars_none hV
  have k0 := h0
  have lt0 : ∀ x ∈ p0, x.block < W.heap.size := by obtain ⟨m, hm⟩ := k0; exact DataW.trod_lt m _ _ _ hm
  obtain ⟨a0, b0, rfl⟩ := open_bal (hval 0 23 v0 rfl rfl) h0
  have k1 := h1
  have lt1 : ∀ x ∈ p1, x.block < W.heap.size := by obtain ⟨m, hm⟩ := k1; exact DataW.trod_lt m _ _ _ hm
  obtain ⟨a1, b1, rfl⟩ := open_bal (hval 1 23 v1 rfl rfl) h1
  have k2 := h2
  have lt2 : ∀ x ∈ p2, x.block < W.heap.size := by obtain ⟨m, hm⟩ := k2; exact DataW.trod_lt m _ _ _ hm
  obtain ⟨a2, b2, rfl⟩ := open_bal (hval 2 23 v2 rfl rfl) h2
  clear hval0
  refine (walk a0 b0 a1 b1 a2 b2 W).mono fun e W' ⟨he, bel⟩ => ?_
  subst he
  exact ⟨_, rfl, _, _, _, [], _, [], hW', trodAll_mk1 (shut_bool Try.underlying4 _), (trodAll_cons_mk (Below.trod laidOut (by kernel_rfl) (of_decide_eq_true (by kernel_rfl)) k0 bel lt0) (trodAll_cons_mk (Below.trod laidOut (by kernel_rfl) (of_decide_eq_true (by kernel_rfl)) k1 bel lt1) (trodAll_cons_mk (Below.trod laidOut (by kernel_rfl) (of_decide_eq_true (by kernel_rfl)) k2 bel lt2) trodAll_mk0))), rfl, bel.frame _, fun h => by cases h⟩

theorem over : Rows.ballotOrderRow.holds Try.pinned (OpenSpec.ofChange Rows.ballotOrderSpec) :=
  OpenClaim.holds_of_wide 4 Try.f4 rfl rfl rfl rfl rfl rfl rfl ⟨rfl, rfl, rfl, rfl, rfl⟩ rfl rfl rfl rfl rfl (by kernel_rfl) Try.func4 (by kernel_rfl)
    (of_decide_eq_true (by kernel_rfl)) (by unfold Func.isWrapper; first | (rw [if_pos (by decide +kernel)]; kernel_rfl) | (rw [if_neg (by decide +kernel)]; exact ⟨rfl, rfl⟩))
    (fun os started H enc _ => lifted os started H enc)

theorem proved : Rows.BallotOrderSaid := over
#print axioms proved
end Go.Proofs.Ytnlpfapfijckiaa.ballotOrder
