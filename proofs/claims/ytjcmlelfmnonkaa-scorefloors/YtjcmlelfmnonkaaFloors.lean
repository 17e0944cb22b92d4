/-
  ScoreFloors, for every input: the floor of a quotient of two whole numbers is the greatest whole number that, times the divisor, is not above what is divided: the law answers true, and its arguments read as they did. No conditions.
-/
import Derived.Test.YtjcmlelfmnonkaaVl
import Derived.Test.YtjcmlelfmnonkaaAwk
import Derived.ProofKit
import Derived.ShutString
import Derived.ChangeOld
namespace Go.Proofs.Ytjcmlelfmnonkaa.scoreFloors
open Go.ChangeShapes Go.WideShapes Go.ChangeAt Go.RowKit Go.Proofs.Ytjcmlelfmnonkaa.Fl
set_option linter.unusedVariables false
set_option maxRecDepth 100000

theorem walk (a0 a1 : Int) (w : World) (w0 : (Lit.int .i64 a0).wf = true) (w1 : (Lit.int .i64 a1).wf = true) :
    Calls Try.prog 10 #[.int .i64 a0, .int .i64 a1] w (UpPost w) := by
  have HA := awake_any w
  obtain ⟨b0, c0⟩ := int_of w0
  obtain ⟨b1, c1⟩ := int_of w1
  clear w0 w1
  have H1 : ∀ W, Hid _ := fun W => quoti_any a0 a1 W
  by_cases hin : -67108864 ≤ a0 ∧ a0 ≤ 67108864 ∧ 1 ≤ a1 ∧ a1 ≤ 67108864
  · obtain ⟨i1, i2, i3, i4⟩ := hin
    obtain ⟨f1, f2, f3⟩ := floors (a := a0) (b := a1) (by omega) (by omega) i3 (by omega)
    have H2 : ∀ W, Hid _ := fun W => floor_any (qv a0 a1) (qv_lt a0 a1) W
    have e1 : fi (qv a0 a1) = true := decide_eq_true f1
    have e2 : fv (qv a0 a1) = flr (qv a0 a1) := by unfold fv; rw [e1, if_pos rfl]
    rw [e1, e2] at H2
    generalize ((qv a0 a1 : Nat) : Int) = r at *
    generalize flr (qv a0 a1) = n at *
    have n1 : -67108864 ≤ n := by
      rcases Int.lt_or_le n (-67108864) with k | k
      · have := Int.mul_le_mul_of_nonneg_right (show n + 1 ≤ -67108864 by omega) (show 0 ≤ a1 by omega)
        omega
      · exact k
    have n2 : n ≤ 67108864 := by
      rcases Int.lt_or_le 67108864 n with k | k
      · have := Int.mul_le_mul_of_nonneg_right (show 67108865 ≤ n by omega) (show 0 ≤ a1 by omega)
        omega
      · exact k
    have p1 : -4503599627370496 ≤ n * a1 := by
      have := Int.mul_le_mul_of_nonneg_right n1 (show 0 ≤ a1 by omega)
      omega
    have p2 : n * a1 ≤ 4503599627370496 := by
      have := Int.mul_le_mul_of_nonneg_right n2 (show 0 ≤ a1 by omega)
      omega
    have ep : (n + 1) * a1 = n * a1 + a1 := by rw [Int.add_mul, Int.one_mul]
    rw [ep] at f3
    have ep' := Lib.hid ep
    clear ep e1 e2 f1
    have w1 : wrap64 (n * a1) = n * a1 := by unfold wrap64; omega
    have w2 : wrap64 ((n + 1) * a1) = (n + 1) * a1 := by rw [ep'.out]; unfold wrap64; omega
    have f4 : decide (n * a1 ≤ a0) = true := decide_eq_true f2
    have f5 : decide (a0 < (n + 1) * a1) = true := by rw [ep'.out]; exact decide_eq_true f3
    go_enter Try.func10, Try.ntmps10
    go_wp2_with (first | (go_at_call 12; ((with_reducible refine HA.out.mono ?_); rintro e wa ⟨rfl, qa, rfl⟩)) | (go_at_call 13; ((with_reducible refine (H1 _).out.mono ?_); rintro e wq ⟨rfl, qq, rfl⟩)) | (go_at_call 17; ((with_reducible refine (H2 _).out.mono ?_); rintro e wr ⟨rfl, rfl⟩)))
    all_goals first | (exfalso; omega) | (go_ret; exact ⟨rfl, below_drewN w _⟩)
  · clear H1
    go_enter Try.func10, Try.ntmps10
    go_wp2_with (first | (go_at_call 12; ((with_reducible refine HA.out.mono ?_); rintro e wa ⟨rfl, qa, rfl⟩)))
    all_goals first | (exfalso; omega) | (go_ret; exact ⟨rfl, below_drewN w _⟩)

theorem own : ownKnob Try.prog.godebug = none := by kernel_rfl
theorem laidOut : laidOutB Try.prog = true := by kernel_rfl

set_option maxRecDepth 100000 in
theorem lifted (os : Os) (started : os.Started) (H : Type) (enc : TypeId × Value → H) :
    ReturnsInHanded {} Try.checked os 10 .any (Rows.scoreFloorsSpec.pre6 enc Try.prog Try.f10 Rows.scoreFloorsRow.domain false) (Rows.scoreFloorsSpec.post enc Try.prog Try.f10 false true false false) := by
  refine returnsInHanded_of_change (C := Try.checked) own started (by kernel_rfl) Try.func10
    (ChangeSpec.witness6 (enc := enc) (C := Try.checked) false ⟨#[], #[.int .i64 0, .int .i64 0], []⟩ 8 (by kernel_rfl) (by kernel_rfl) (by kernel_rfl) (by kernel_rfl)) ?_
  intro W base args ds gs before hval0 hW hcnd _
  have hval : ∀ (j : Nat) t v, Try.f10.params[j]? = some t → args[j]? = some v → Value.okWide Try.prog W .any base t v := hval0
  have hW' := hW
  obtain ⟨p, q, hA0, hV, rfl, hfz, hnd⟩ := hW
  have hA : DataW.TrodAll enc Try.prog W 0 (fun _ => true) true Try.f10.params.toList args.toList ds p := hA0
  rw [Try.params10] at hA hval
  obtain ⟨v0, vs0, d0, ds0, p0, q0, hargs, rfl, rfl, h0, r0⟩ := trodAll_cons hA
  obtain ⟨v1, vs1, d1, ds1, p1, q1, rfl, rfl, rfl, h1, r1⟩ := trodAll_cons r0
  obtain ⟨rfl, rfl, rfl⟩ := trodAll_nil r1
  obtain rfl : args = #[v0, v1] := by cases args; simp_all
  obtain ⟨rfl, rfl⟩ := trodVars_none hV
  obtain ⟨a0, rfl, rfl, rfl, w0⟩ := open_int Try.underlying3 (hval 0 3 v0 rfl rfl) h0
  obtain ⟨a1, rfl, rfl, rfl, w1⟩ := open_int Try.underlying3 (hval 1 3 v1 rfl rfl) h1
  clear hA0 hval0
  refine (walk a0 a1 W w0 w1).mono fun e W' ⟨he, bel⟩ => ?_
  subst he
  exact ⟨_, rfl, _, _, _, [], _, [], hW', trodAll_mk1 (shut_bool Try.underlying4 _), (trodAll_cons_mk (shut_int Try.underlying3 w0) (trodAll_cons_mk (shut_int Try.underlying3 w1) trodAll_mk0)), rfl, bel.frame _, fun h => by cases h⟩

theorem over : Rows.scoreFloorsRow.holds Try.pinned (OpenSpec.ofChange Rows.scoreFloorsSpec) :=
  OpenClaim.holds_of_wide 10 Try.f10 rfl rfl rfl rfl rfl rfl rfl ⟨rfl, rfl, rfl, rfl, rfl⟩ rfl rfl rfl rfl rfl (by kernel_rfl) Try.func10 (by kernel_rfl)
    (of_decide_eq_true (by kernel_rfl)) (by unfold Func.isWrapper; first | (rw [if_pos (by decide +kernel)]; kernel_rfl) | (rw [if_neg (by decide +kernel)]; exact ⟨rfl, rfl⟩))
    (fun os started H enc _ => lifted os started H enc)

theorem proved : Rows.ScoreFloorsSaid := over
#print axioms proved
end Go.Proofs.Ytjcmlelfmnonkaa.scoreFloors
