/-
  ScoreWhole, for every input: a whole number is its own floor; what is divided by a number and is a multiple of it is whole again; numbers keep their order: the law answers true, and its arguments read as they did. No conditions.
-/
import Derived.Test.YtjcmlelfmnonkaaVl
import Derived.Test.YtjcmlelfmnonkaaAwk
import Derived.ProofKit
import Derived.ShutString
import Derived.ChangeOld
namespace Go.Proofs.Ytjcmlelfmnonkaa.scoreWhole
open Go.ChangeShapes Go.WideShapes Go.ChangeAt Go.RowKit Go.Proofs.Ytjcmlelfmnonkaa.Fl
set_option linter.unusedVariables false
set_option maxRecDepth 100000

set_option maxHeartbeats 1600000 in
theorem walk (a0 a1 : Int) (w : World) (w0 : (Lit.int .i64 a0).wf = true) (w1 : (Lit.int .i64 a1).wf = true) :
    Calls Try.prog 7 #[.int .i64 a0, .int .i64 a1] w (UpPost w) := by
  have HA := awake_any w
  obtain ⟨b0, c0⟩ := int_of w0
  obtain ⟨b1, c1⟩ := int_of w1
  clear w0 w1
  by_cases hin : -67108864 ≤ a0 ∧ a0 ≤ 67108864 ∧ -67108864 ≤ a1 ∧ a1 ≤ 67108864 ∧ a1 ≠ 0
  · obtain ⟨i1, i2, i3, i4, i5⟩ := hin
    obtain ⟨p1, p2, p3, p4, p5⟩ := wholes i1 i2 i3 i4 i5
    have H1 : ∀ W, Hid _ := fun W => of_any a0 W
    have H2 : ∀ W, Hid _ := fun W => of_any a1 W
    have H3 : ∀ W, Hid _ := fun W => quoti_any (a0 * a1) a1 W
    have H4 : ∀ W, Hid _ := fun W => floor_any (qv a0 1) (qv_lt _ _) W
    have H5 : ∀ W, Hid _ := fun W => floor_any (qv (a0 * a1) a1) (qv_lt _ _) W
    have H6 : ∀ W, Hid _ := fun W => cmp_any (qv a0 1) (qv a1 1) (qv_lt _ _) (qv_lt _ _) W
    have e1 : fi (qv a0 1) = true := decide_eq_true p1
    have e2 : fv (qv a0 1) = a0 := by unfold fv; rw [e1, if_pos rfl, p2]
    have e3 : fi (qv (a0 * a1) a1) = true := decide_eq_true p3
    have e4 : fv (qv (a0 * a1) a1) = a0 := by unfold fv; rw [e3, if_pos rfl, p4]
    rw [e1, e2] at H4
    rw [e3, e4] at H5
    clear e1 e2 e3 e4 p1 p2 p3 p4
    generalize cmp (qv a0 1) (qv a1 1) = c at *
    generalize ((qv a0 1 : Nat) : Int) = r at *
    generalize ((qv a1 1 : Nat) : Int) = s at *
    generalize ((qv (a0 * a1) a1 : Nat) : Int) = t at *
    have m1 := mul_bd i1 i2 i3 i4
    have w1 : wrap64 (a0 * a1) = a0 * a1 := by unfold wrap64; omega
    clear m1
    by_cases h1 : a0 < a1
    · rw [if_pos h1] at p5
      subst p5
      go_enter Try.func7, Try.ntmps7
      go_wp2_with (first | (go_at_call 12; ((with_reducible refine HA.out.mono ?_); rintro e wa ⟨rfl, qa, rfl⟩)) | (go_at_call 15; ((with_reducible refine (H1 _).out.mono ?_); rintro e wr ⟨rfl, rfl⟩)) | (go_at_call 15; ((with_reducible refine (H2 _).out.mono ?_); rintro e wr ⟨rfl, rfl⟩)) | (go_at_call 13; ((with_reducible refine (H3 _).out.mono ?_); rintro e wq ⟨rfl, qq, rfl⟩)) | (go_at_call 17; ((with_reducible refine (H4 _).out.mono ?_); rintro e wr ⟨rfl, rfl⟩)) | (go_at_call 17; ((with_reducible refine (H5 _).out.mono ?_); rintro e wr ⟨rfl, rfl⟩)) | (go_at_call 22; ((with_reducible refine (H6 _).out.mono ?_); rintro e wr ⟨rfl, rfl⟩)))
      all_goals first | (exfalso; omega) | (go_ret; exact ⟨rfl, below_drewN w _⟩)
    · rw [if_neg h1] at p5
      by_cases h2 : a1 < a0
      · rw [if_pos h2] at p5
        subst p5
        go_enter Try.func7, Try.ntmps7
        go_wp2_with (first | (go_at_call 12; ((with_reducible refine HA.out.mono ?_); rintro e wa ⟨rfl, qa, rfl⟩)) | (go_at_call 15; ((with_reducible refine (H1 _).out.mono ?_); rintro e wr ⟨rfl, rfl⟩)) | (go_at_call 15; ((with_reducible refine (H2 _).out.mono ?_); rintro e wr ⟨rfl, rfl⟩)) | (go_at_call 13; ((with_reducible refine (H3 _).out.mono ?_); rintro e wq ⟨rfl, qq, rfl⟩)) | (go_at_call 17; ((with_reducible refine (H4 _).out.mono ?_); rintro e wr ⟨rfl, rfl⟩)) | (go_at_call 17; ((with_reducible refine (H5 _).out.mono ?_); rintro e wr ⟨rfl, rfl⟩)) | (go_at_call 22; ((with_reducible refine (H6 _).out.mono ?_); rintro e wr ⟨rfl, rfl⟩)))
        all_goals first | (exfalso; omega) | (go_ret; exact ⟨rfl, below_drewN w _⟩)
      · rw [if_neg h2] at p5
        subst p5
        go_enter Try.func7, Try.ntmps7
        go_wp2_with (first | (go_at_call 12; ((with_reducible refine HA.out.mono ?_); rintro e wa ⟨rfl, qa, rfl⟩)) | (go_at_call 15; ((with_reducible refine (H1 _).out.mono ?_); rintro e wr ⟨rfl, rfl⟩)) | (go_at_call 15; ((with_reducible refine (H2 _).out.mono ?_); rintro e wr ⟨rfl, rfl⟩)) | (go_at_call 13; ((with_reducible refine (H3 _).out.mono ?_); rintro e wq ⟨rfl, qq, rfl⟩)) | (go_at_call 17; ((with_reducible refine (H4 _).out.mono ?_); rintro e wr ⟨rfl, rfl⟩)) | (go_at_call 17; ((with_reducible refine (H5 _).out.mono ?_); rintro e wr ⟨rfl, rfl⟩)) | (go_at_call 22; ((with_reducible refine (H6 _).out.mono ?_); rintro e wr ⟨rfl, rfl⟩)))
        all_goals first | (exfalso; omega) | (go_ret; exact ⟨rfl, below_drewN w _⟩)
  · by_cases hz : a1 = 0
    · subst hz
      clear hin
      go_enter Try.func7, Try.ntmps7
      go_wp2_with (first | (go_at_call 12; ((with_reducible refine HA.out.mono ?_); rintro e wa ⟨rfl, qa, rfl⟩)))
      all_goals first | (exfalso; omega) | (go_ret; exact ⟨rfl, below_drewN w _⟩)
    · have hin' : ¬ (-67108864 ≤ a0 ∧ a0 ≤ 67108864 ∧ -67108864 ≤ a1 ∧ a1 ≤ 67108864) := fun h => hin ⟨h.1, h.2.1, h.2.2.1, h.2.2.2, hz⟩
      clear hin
      go_enter Try.func7, Try.ntmps7
      go_wp2_with (first | (go_at_call 12; ((with_reducible refine HA.out.mono ?_); rintro e wa ⟨rfl, qa, rfl⟩)))
      all_goals first | (exfalso; omega) | (go_ret; exact ⟨rfl, below_drewN w _⟩)

theorem own : ownKnob Try.prog.godebug = none := by kernel_rfl
theorem laidOut : laidOutB Try.prog = true := by kernel_rfl

set_option maxRecDepth 100000 in
theorem lifted (os : Os) (started : os.Started) (H : Type) (enc : TypeId × Value → H) :
    ReturnsInHanded {} Try.checked os 7 .any (Rows.scoreWholeSpec.pre6 enc Try.prog Try.f7 Rows.scoreWholeRow.domain false) (Rows.scoreWholeSpec.post enc Try.prog Try.f7 false true false false) := by
  refine returnsInHanded_of_change (C := Try.checked) own started (by kernel_rfl) Try.func7
    (ChangeSpec.witness6 (enc := enc) (C := Try.checked) false ⟨#[], #[.int .i64 0, .int .i64 0], []⟩ 8 (by kernel_rfl) (by kernel_rfl) (by kernel_rfl) (by kernel_rfl)) ?_
  intro W base args ds gs before hval0 hW hcnd _
  have hval : ∀ (j : Nat) t v, Try.f7.params[j]? = some t → args[j]? = some v → Value.okWide Try.prog W .any base t v := hval0
  have hW' := hW
  obtain ⟨p, q, hA0, hV, rfl, hfz, hnd⟩ := hW
  have hA : DataW.TrodAll enc Try.prog W 0 (fun _ => true) true Try.f7.params.toList args.toList ds p := hA0
  rw [Try.params7] at hA hval
  obtain ⟨v0, vs0, d0, ds0, p0, q0, hargs, rfl, rfl, h0, r0⟩ := trodAll_cons hA
  obtain ⟨v1, vs1, d1, ds1, p1, q1, rfl, rfl, rfl, h1, r1⟩ := trodAll_cons r0
  obtain ⟨rfl, rfl, rfl⟩ := trodAll_nil r1
  obtain rfl : args = #[v0, v1] := by cases args; simp_all
  obtain ⟨rfl, rfl⟩ := trodVars_none hV
  obtain ⟨a0, rfl, rfl, rfl, w0⟩ := open_int Try.underlying3 (hval 0 3 v0 rfl rfl) h0
  obtain ⟨a1, rfl, rfl, rfl, w1⟩ := open_int Try.underlying3 (hval 1 3 v1 rfl rfl) h1
  clear hA0 hval0
  refine (walk a0 a1 W w0 w1).mono fun e W' ⟨he, bel⟩ => ?_
  subst he
  exact ⟨_, rfl, _, _, _, [], _, [], hW', trodAll_mk1 (shut_bool Try.underlying4 _), (trodAll_cons_mk (shut_int Try.underlying3 w0) (trodAll_cons_mk (shut_int Try.underlying3 w1) trodAll_mk0)), rfl, bel.frame _, fun h => by cases h⟩

theorem over : Rows.scoreWholeRow.holds Try.pinned (OpenSpec.ofChange Rows.scoreWholeSpec) :=
  OpenClaim.holds_of_wide 7 Try.f7 rfl rfl rfl rfl rfl rfl rfl ⟨rfl, rfl, rfl, rfl, rfl⟩ rfl rfl rfl rfl rfl (by kernel_rfl) Try.func7 (by kernel_rfl)
    (of_decide_eq_true (by kernel_rfl)) (by unfold Func.isWrapper; first | (rw [if_pos (by decide +kernel)]; kernel_rfl) | (rw [if_neg (by decide +kernel)]; exact ⟨rfl, rfl⟩))
    (fun os started H enc _ => lifted os started H enc)

theorem proved : Rows.ScoreWholeSaid := over
#print axioms proved
end Go.Proofs.Ytjcmlelfmnonkaa.scoreWhole
