/-
  ScoreEdges, for every input: what is divided by nought is infinite, or not a number, and above, or below, all others; such have no floor: the law answers true, and its arguments read as they did. No conditions.
-/
import Derived.Test.YtjcmlelfmnonkaaVl
import Derived.Test.YtjcmlelfmnonkaaAwk
import Derived.ProofKit
import Derived.ShutString
import Derived.ChangeOld
namespace Go.Proofs.Ytjcmlelfmnonkaa.scoreEdges
open Go.ChangeShapes Go.WideShapes Go.ChangeAt Go.RowKit Go.Proofs.Ytjcmlelfmnonkaa.Fl
set_option linter.unusedVariables false
set_option maxRecDepth 100000

theorem walk (a0 a1 a2 : Int) (w : World) (w0 : (Lit.int .i64 a0).wf = true) (w1 : (Lit.int .i64 a1).wf = true) (w2 : (Lit.int .i64 a2).wf = true) :
    Calls Try.prog 8 #[.int .i64 a0, .int .i64 a1, .int .i64 a2] w (UpPost w) := by
  have HA := awake_any w
  obtain ⟨b0, c0⟩ := int_of w0
  obtain ⟨b1, c1⟩ := int_of w1
  obtain ⟨b2, c2⟩ := int_of w2
  clear w0 w1 w2
  have H1 : ∀ W, Hid _ := fun W => quoti_any a0 0 W
  have H2 : ∀ W, Hid _ := fun W => quoti_any a1 a2 W
  have H3 : ∀ W, Hid _ := fun W => floor_any (qv a0 0) (qv_lt _ _) W
  have H4 : ∀ W, Hid _ := fun W => cmp_any (qv a0 0) (qv a1 a2) (qv_lt _ _) (qv_lt _ _) W
  obtain ⟨p1, p2, p3, p4⟩ := edges a0 a1 a2
  have e1 : fi (qv a0 0) = false := decide_eq_false p1
  have e2 : fv (qv a0 0) = 0 := by unfold fv; rw [e1]; rfl
  rw [e1, e2] at H3
  clear e1 e2 p1
  by_cases h0 : a0 = 0
  · obtain ⟨q1, q2⟩ := p2 h0
    rw [q1] at H1 H3 H4 q2
    clear q1 p2 p3 p4
    generalize cmp 9221120237041090560 (qv a1 a2) = c at *
    generalize ((qv a1 a2 : Nat) : Int) = s at *
    subst h0
    have q3 : ((9221120237041090560 : Nat) : Int) = 9221120237041090560 := rfl
    rw [q3] at H1 H3 H4
    clear q3
    go_enter Try.func8, Try.ntmps8
    go_wp2_with (first | (go_at_call 12; ((with_reducible refine HA.out.mono ?_); rintro e wa ⟨rfl, qa, rfl⟩)) | (go_at_call 13; ((with_reducible refine (H1 _).out.mono ?_); rintro e wq ⟨rfl, qq, rfl⟩)) | (go_at_call 13; ((with_reducible refine (H2 _).out.mono ?_); rintro e wq ⟨rfl, qq, rfl⟩)) | (go_at_call 17; ((with_reducible refine (H3 _).out.mono ?_); rintro e wr ⟨rfl, rfl⟩)) | (go_at_call 22; ((with_reducible refine (H4 _).out.mono ?_); rintro e wr ⟨rfl, rfl⟩)))
    all_goals first | (exfalso; omega) | (go_ret; exact ⟨rfl, below_drewN w _⟩)
  · clear p2
    generalize ((qv a0 0 : Nat) : Int) = r at *
    generalize ((qv a1 a2 : Nat) : Int) = s at *
    by_cases h2 : a2 = 0
    · clear p3 p4 H4
      subst h2
      go_enter Try.func8, Try.ntmps8
      go_wp2_with (first | (go_at_call 12; ((with_reducible refine HA.out.mono ?_); rintro e wa ⟨rfl, qa, rfl⟩)) | (go_at_call 13; ((with_reducible refine (H1 _).out.mono ?_); rintro e wq ⟨rfl, qq, rfl⟩)) | (go_at_call 13; ((with_reducible refine (H2 _).out.mono ?_); rintro e wq ⟨rfl, qq, rfl⟩)) | (go_at_call 17; ((with_reducible refine (H3 _).out.mono ?_); rintro e wr ⟨rfl, rfl⟩)))
      all_goals first | (exfalso; omega) | (go_ret; exact ⟨rfl, below_drewN w _⟩)
    · by_cases h1 : 0 < a0
      · rw [p3 h1 h2] at H4
        clear p3 p4
        go_enter Try.func8, Try.ntmps8
        go_wp2_with (first | (go_at_call 12; ((with_reducible refine HA.out.mono ?_); rintro e wa ⟨rfl, qa, rfl⟩)) | (go_at_call 13; ((with_reducible refine (H1 _).out.mono ?_); rintro e wq ⟨rfl, qq, rfl⟩)) | (go_at_call 13; ((with_reducible refine (H2 _).out.mono ?_); rintro e wq ⟨rfl, qq, rfl⟩)) | (go_at_call 17; ((with_reducible refine (H3 _).out.mono ?_); rintro e wr ⟨rfl, rfl⟩)) | (go_at_call 22; ((with_reducible refine (H4 _).out.mono ?_); rintro e wr ⟨rfl, rfl⟩)))
        all_goals first | (exfalso; omega) | (go_ret; exact ⟨rfl, below_drewN w _⟩)
      · rw [p4 (by omega) h2] at H4
        clear p3 p4
        go_enter Try.func8, Try.ntmps8
        go_wp2_with (first | (go_at_call 12; ((with_reducible refine HA.out.mono ?_); rintro e wa ⟨rfl, qa, rfl⟩)) | (go_at_call 13; ((with_reducible refine (H1 _).out.mono ?_); rintro e wq ⟨rfl, qq, rfl⟩)) | (go_at_call 13; ((with_reducible refine (H2 _).out.mono ?_); rintro e wq ⟨rfl, qq, rfl⟩)) | (go_at_call 17; ((with_reducible refine (H3 _).out.mono ?_); rintro e wr ⟨rfl, rfl⟩)) | (go_at_call 22; ((with_reducible refine (H4 _).out.mono ?_); rintro e wr ⟨rfl, rfl⟩)))
        all_goals first | (exfalso; omega) | (go_ret; exact ⟨rfl, below_drewN w _⟩)

theorem own : ownKnob Try.prog.godebug = none := by kernel_rfl
theorem laidOut : laidOutB Try.prog = true := by kernel_rfl

set_option maxRecDepth 100000 in
theorem lifted (os : Os) (started : os.Started) (H : Type) (enc : TypeId × Value → H) :
    ReturnsInHanded {} Try.checked os 8 .any (Rows.scoreEdgesSpec.pre6 enc Try.prog Try.f8 Rows.scoreEdgesRow.domain false) (Rows.scoreEdgesSpec.post enc Try.prog Try.f8 false true false false) := by
  refine returnsInHanded_of_change (C := Try.checked) own started (by kernel_rfl) Try.func8
    (ChangeSpec.witness6 (enc := enc) (C := Try.checked) false ⟨#[], #[.int .i64 0, .int .i64 0, .int .i64 0], []⟩ 8 (by kernel_rfl) (by kernel_rfl) (by kernel_rfl) (by kernel_rfl)) ?_
  intro W base args ds gs before hval0 hW hcnd _
  have hval : ∀ (j : Nat) t v, Try.f8.params[j]? = some t → args[j]? = some v → Value.okWide Try.prog W .any base t v := hval0
  have hW' := hW
  obtain ⟨p, q, hA0, hV, rfl, hfz, hnd⟩ := hW
  have hA : DataW.TrodAll enc Try.prog W 0 (fun _ => true) true Try.f8.params.toList args.toList ds p := hA0
  rw [Try.params8] at hA hval
  obtain ⟨v0, vs0, d0, ds0, p0, q0, hargs, rfl, rfl, h0, r0⟩ := trodAll_cons hA
  obtain ⟨v1, vs1, d1, ds1, p1, q1, rfl, rfl, rfl, h1, r1⟩ := trodAll_cons r0
  obtain ⟨v2, vs2, d2, ds2, p2, q2, rfl, rfl, rfl, h2, r2⟩ := trodAll_cons r1
  obtain ⟨rfl, rfl, rfl⟩ := trodAll_nil r2
  obtain rfl : args = #[v0, v1, v2] := by cases args; simp_all
  obtain ⟨rfl, rfl⟩ := trodVars_none hV
  obtain ⟨a0, rfl, rfl, rfl, w0⟩ := open_int Try.underlying3 (hval 0 3 v0 rfl rfl) h0
  obtain ⟨a1, rfl, rfl, rfl, w1⟩ := open_int Try.underlying3 (hval 1 3 v1 rfl rfl) h1
  obtain ⟨a2, rfl, rfl, rfl, w2⟩ := open_int Try.underlying3 (hval 2 3 v2 rfl rfl) h2
  clear hA0 hval0
  refine (walk a0 a1 a2 W w0 w1 w2).mono fun e W' ⟨he, bel⟩ => ?_
  subst he
  exact ⟨_, rfl, _, _, _, [], _, [], hW', trodAll_mk1 (shut_bool Try.underlying4 _), (trodAll_cons_mk (shut_int Try.underlying3 w0) (trodAll_cons_mk (shut_int Try.underlying3 w1) (trodAll_cons_mk (shut_int Try.underlying3 w2) trodAll_mk0))), rfl, bel.frame _, fun h => by cases h⟩

theorem over : Rows.scoreEdgesRow.holds Try.pinned (OpenSpec.ofChange Rows.scoreEdgesSpec) :=
  OpenClaim.holds_of_wide 8 Try.f8 rfl rfl rfl rfl rfl rfl rfl ⟨rfl, rfl, rfl, rfl, rfl⟩ rfl rfl rfl rfl rfl (by kernel_rfl) Try.func8 (by kernel_rfl)
    (of_decide_eq_true (by kernel_rfl)) (by unfold Func.isWrapper; first | (rw [if_pos (by decide +kernel)]; kernel_rfl) | (rw [if_neg (by decide +kernel)]; exact ⟨rfl, rfl⟩))
    (fun os started H enc _ => lifted os started H enc)

theorem proved : Rows.ScoreEdgesSaid := over
#print axioms proved
end Go.Proofs.Ytjcmlelfmnonkaa.scoreEdges
