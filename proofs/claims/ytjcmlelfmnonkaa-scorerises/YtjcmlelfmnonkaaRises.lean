/-
  ScoreRises, for every input: quotients by one number above 0 rise with what is divided; those of one number above 0 fall as what divides it rises; with both opposite a quotient is the same: the law answers true, and its arguments read as they did. No conditions.
-/
import Derived.Test.YtjcmlelfmnonkaaVl
import Derived.Test.YtjcmlelfmnonkaaAwk
import Derived.ProofKit
import Derived.ShutString
import Derived.ChangeOld
namespace Go.Proofs.Ytjcmlelfmnonkaa.scoreRises
open Go.ChangeShapes Go.WideShapes Go.ChangeAt Go.RowKit Go.Proofs.Ytjcmlelfmnonkaa.Fl
set_option linter.unusedVariables false
set_option maxRecDepth 100000

set_option maxHeartbeats 1600000 in
theorem walk (a0 a1 a2 a3 : Int) (w : World) (w0 : (Lit.int .i64 a0).wf = true) (w1 : (Lit.int .i64 a1).wf = true) (w2 : (Lit.int .i64 a2).wf = true) (w3 : (Lit.int .i64 a3).wf = true) :
    Calls Try.prog 6 #[.int .i64 a0, .int .i64 a1, .int .i64 a2, .int .i64 a3] w (UpPost w) := by
  have HA := awake_any w
  obtain ⟨b0, c0⟩ := int_of w0
  obtain ⟨b1, c1⟩ := int_of w1
  obtain ⟨b2, c2⟩ := int_of w2
  obtain ⟨b3, c3⟩ := int_of w3
  clear w0 w1 w2 w3
  by_cases hin : a0 ≤ a1 ∧ a2 ≤ a3 ∧ 1 ≤ a2 ∧ a3 ≤ 9007199254740992 ∧ -9007199254740992 ≤ a0 ∧ a1 ≤ 9007199254740992
  · obtain ⟨i1, i2, i3, i4, i5, i6⟩ := hin
    have R1 := cmp_le (rise_one i5 i1 i6 i3 (by omega : a2 ≤ 9007199254740992))
    have R2 : 1 ≤ a0 → cmp (qv a0 a3) (qv a0 a2) ≤ 0 := fun h => cmp_le (rise_two h (by omega) i3 i2 i4)
    have R3 : a0 ≠ 0 → qv (-a0) (-a2) = qv a0 a2 := fun h => both_opp h (by omega) i5 (by omega) (by omega) (by omega)
    have H1 : ∀ W, Hid _ := fun W => quoti_any a0 a2 W
    have H2 : ∀ W, Hid _ := fun W => quoti_any a1 a2 W
    have H3 : ∀ W, Hid _ := fun W => quoti_any a0 a3 W
    have H4 : ∀ W, Hid _ := fun W => quoti_any (-a0) (-a2) W
    have H5 : ∀ W, Hid _ := fun W => cmp_any (qv a0 a2) (qv a1 a2) (qv_lt _ _) (qv_lt _ _) W
    have H6 : ∀ W, Hid _ := fun W => cmp_any (qv a0 a3) (qv a0 a2) (qv_lt _ _) (qv_lt _ _) W
    generalize cmp (qv a0 a2) (qv a1 a2) = c at *
    generalize cmp (qv a0 a3) (qv a0 a2) = d at *
    by_cases h0 : a0 = 0
    · clear R2 R3 H4 H6 H3
      generalize ((qv a0 a2 : Nat) : Int) = r at *
      generalize ((qv a1 a2 : Nat) : Int) = s at *
      subst h0
      go_enter Try.func6, Try.ntmps6
      go_wp2_with (first | (go_at_call 12; ((with_reducible refine HA.out.mono ?_); rintro e wa ⟨rfl, qa, rfl⟩)) | (go_at_call 13; ((with_reducible refine (H1 _).out.mono ?_); rintro e wq ⟨rfl, qq, rfl⟩)) | (go_at_call 13; ((with_reducible refine (H2 _).out.mono ?_); rintro e wq ⟨rfl, qq, rfl⟩)) | (go_at_call 22; ((with_reducible refine (H5 _).out.mono ?_); rintro e wr ⟨rfl, rfl⟩)))
      all_goals first | (exfalso; omega) | (go_ret; exact ⟨rfl, below_drewN w _⟩)
    · rw [R3 h0] at H4
      clear R3
      by_cases h1 : 1 ≤ a0
      · have R4 := R2 h1
        clear R2
        generalize ((qv a0 a2 : Nat) : Int) = r at *
        generalize ((qv a1 a2 : Nat) : Int) = s at *
        generalize ((qv a0 a3 : Nat) : Int) = t at *
        go_enter Try.func6, Try.ntmps6
        go_wp2_with (first | (go_at_call 12; ((with_reducible refine HA.out.mono ?_); rintro e wa ⟨rfl, qa, rfl⟩)) | (go_at_call 13; ((with_reducible refine (H1 _).out.mono ?_); rintro e wq ⟨rfl, qq, rfl⟩)) | (go_at_call 13; ((with_reducible refine (H2 _).out.mono ?_); rintro e wq ⟨rfl, qq, rfl⟩)) | (go_at_call 13; ((with_reducible refine (H3 _).out.mono ?_); rintro e wq ⟨rfl, qq, rfl⟩)) | (go_at_call 13; ((with_reducible refine (H4 _).out.mono ?_); rintro e wq ⟨rfl, qq, rfl⟩)) | (go_at_call 22; ((with_reducible refine (H5 _).out.mono ?_); rintro e wr ⟨rfl, rfl⟩)) | (go_at_call 22; ((with_reducible refine (H6 _).out.mono ?_); rintro e wr ⟨rfl, rfl⟩)))
        all_goals first | (exfalso; omega) | (go_ret; exact ⟨rfl, below_drewN w _⟩)
      · clear R2 H3 H6
        generalize ((qv a0 a2 : Nat) : Int) = r at *
        generalize ((qv a1 a2 : Nat) : Int) = s at *
        go_enter Try.func6, Try.ntmps6
        go_wp2_with (first | (go_at_call 12; ((with_reducible refine HA.out.mono ?_); rintro e wa ⟨rfl, qa, rfl⟩)) | (go_at_call 13; ((with_reducible refine (H1 _).out.mono ?_); rintro e wq ⟨rfl, qq, rfl⟩)) | (go_at_call 13; ((with_reducible refine (H2 _).out.mono ?_); rintro e wq ⟨rfl, qq, rfl⟩)) | (go_at_call 13; ((with_reducible refine (H4 _).out.mono ?_); rintro e wq ⟨rfl, qq, rfl⟩)) | (go_at_call 22; ((with_reducible refine (H5 _).out.mono ?_); rintro e wr ⟨rfl, rfl⟩)))
        all_goals first | (exfalso; omega) | (go_ret; exact ⟨rfl, below_drewN w _⟩)
  · go_enter Try.func6, Try.ntmps6
    go_wp2_with (first | (go_at_call 12; ((with_reducible refine HA.out.mono ?_); rintro e wa ⟨rfl, qa, rfl⟩)))
    all_goals first | (exfalso; omega) | (go_ret; exact ⟨rfl, below_drewN w _⟩)

theorem own : ownKnob Try.prog.godebug = none := by kernel_rfl
theorem laidOut : laidOutB Try.prog = true := by kernel_rfl

set_option maxRecDepth 100000 in
theorem lifted (os : Os) (started : os.Started) (H : Type) (enc : TypeId × Value → H) :
    ReturnsInHanded {} Try.checked os 6 .any (Rows.scoreRisesSpec.pre6 enc Try.prog Try.f6 Rows.scoreRisesRow.domain false) (Rows.scoreRisesSpec.post enc Try.prog Try.f6 false true false false) := by
  refine returnsInHanded_of_change (C := Try.checked) own started (by kernel_rfl) Try.func6
    (ChangeSpec.witness6 (enc := enc) (C := Try.checked) false ⟨#[], #[.int .i64 0, .int .i64 0, .int .i64 0, .int .i64 0], []⟩ 8 (by kernel_rfl) (by kernel_rfl) (by kernel_rfl) (by kernel_rfl)) ?_
  intro W base args ds gs before hval0 hW hcnd _
  have hval : ∀ (j : Nat) t v, Try.f6.params[j]? = some t → args[j]? = some v → Value.okWide Try.prog W .any base t v := hval0
  have hW' := hW
  obtain ⟨p, q, hA0, hV, rfl, hfz, hnd⟩ := hW
  have hA : DataW.TrodAll enc Try.prog W 0 (fun _ => true) true Try.f6.params.toList args.toList ds p := hA0
  rw [Try.params6] at hA hval
  obtain ⟨v0, vs0, d0, ds0, p0, q0, hargs, rfl, rfl, h0, r0⟩ := trodAll_cons hA
  obtain ⟨v1, vs1, d1, ds1, p1, q1, rfl, rfl, rfl, h1, r1⟩ := trodAll_cons r0
  obtain ⟨v2, vs2, d2, ds2, p2, q2, rfl, rfl, rfl, h2, r2⟩ := trodAll_cons r1
  obtain ⟨v3, vs3, d3, ds3, p3, q3, rfl, rfl, rfl, h3, r3⟩ := trodAll_cons r2
  obtain ⟨rfl, rfl, rfl⟩ := trodAll_nil r3
  obtain rfl : args = #[v0, v1, v2, v3] := by cases args; simp_all
  obtain ⟨rfl, rfl⟩ := trodVars_none hV
  obtain ⟨a0, rfl, rfl, rfl, w0⟩ := open_int Try.underlying3 (hval 0 3 v0 rfl rfl) h0
  obtain ⟨a1, rfl, rfl, rfl, w1⟩ := open_int Try.underlying3 (hval 1 3 v1 rfl rfl) h1
  obtain ⟨a2, rfl, rfl, rfl, w2⟩ := open_int Try.underlying3 (hval 2 3 v2 rfl rfl) h2
  obtain ⟨a3, rfl, rfl, rfl, w3⟩ := open_int Try.underlying3 (hval 3 3 v3 rfl rfl) h3
  clear hA0 hval0
  refine (walk a0 a1 a2 a3 W w0 w1 w2 w3).mono fun e W' ⟨he, bel⟩ => ?_
  subst he
  exact ⟨_, rfl, _, _, _, [], _, [], hW', trodAll_mk1 (shut_bool Try.underlying4 _), (trodAll_cons_mk (shut_int Try.underlying3 w0) (trodAll_cons_mk (shut_int Try.underlying3 w1) (trodAll_cons_mk (shut_int Try.underlying3 w2) (trodAll_cons_mk (shut_int Try.underlying3 w3) trodAll_mk0)))), rfl, bel.frame _, fun h => by cases h⟩

theorem over : Rows.scoreRisesRow.holds Try.pinned (OpenSpec.ofChange Rows.scoreRisesSpec) :=
  OpenClaim.holds_of_wide 6 Try.f6 rfl rfl rfl rfl rfl rfl rfl ⟨rfl, rfl, rfl, rfl, rfl⟩ rfl rfl rfl rfl rfl (by kernel_rfl) Try.func6 (by kernel_rfl)
    (of_decide_eq_true (by kernel_rfl)) (by unfold Func.isWrapper; first | (rw [if_pos (by decide +kernel)]; kernel_rfl) | (rw [if_neg (by decide +kernel)]; exact ⟨rfl, rfl⟩))
    (fun os started H enc _ => lifted os started H enc)

theorem proved : Rows.ScoreRisesSaid := over
#print axioms proved
end Go.Proofs.Ytjcmlelfmnonkaa.scoreRises
