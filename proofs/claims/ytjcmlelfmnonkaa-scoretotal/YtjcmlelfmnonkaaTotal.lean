/-
  ScoreTotal, for every input: the order is total: of two one is less, or they are just as great; it holds of three: the law answers true, and its arguments read as they did. No conditions.
-/
import Derived.Test.YtjcmlelfmnonkaaVl
import Derived.Test.YtjcmlelfmnonkaaAwk
import Derived.ProofKit
import Derived.ShutString
import Derived.ChangeOld
namespace Go.Proofs.Ytjcmlelfmnonkaa.scoreTotal
open Go.ChangeShapes Go.WideShapes Go.ChangeAt Go.RowKit Go.Proofs.Ytjcmlelfmnonkaa.Fl
set_option linter.unusedVariables false
set_option maxRecDepth 100000

theorem walk (a0 a1 a2 : Int) (w : World) (w0 : (Lit.int .u64 a0).wf = true) (w1 : (Lit.int .u64 a1).wf = true) (w2 : (Lit.int .u64 a2).wf = true) :
    Calls Try.prog 5 #[.int .u64 a0, .int .u64 a1, .int .u64 a2] w (UpPost w) := by
  have HA := awake_any w
  obtain ⟨x, rfl, hx⟩ := word_of w0
  obtain ⟨y, rfl, hy⟩ := word_of w1
  obtain ⟨z, rfl, hz⟩ := word_of w2
  clear w0 w1 w2
  have H1 : ∀ W, Hid _ := fun W => cmp_any x y hx hy W
  have H2 : ∀ W, Hid _ := fun W => cmp_any y z hy hz W
  have H3 : ∀ W, Hid _ := fun W => cmp_any y x hy hx W
  have H4 : ∀ W, Hid _ := fun W => cmp_any x x hx hx W
  have H5 : ∀ W, Hid _ := fun W => cmp_any x z hx hz W
  have c1 := cmp_anti x y
  have c2 := cmp_bd x y
  have c3 : cmp x y ≤ 0 → cmp y z ≤ 0 → cmp x z ≤ 0 := cmp_trans
  rw [c1] at H3
  rw [cmp_self] at H4
  obtain ⟨c4, c5⟩ := c2
  have c6 : ¬ 0 < cmp x y → ¬ 0 < cmp y z → cmp x z ≤ 0 := fun h1 h2 => c3 (by omega) (by omega)
  clear c1 c3
  generalize cmp x y = a at *
  generalize cmp y z = b at *
  generalize cmp x z = c at *
  by_cases h1 : 0 < a
  · clear c6
    go_enter Try.func5, Try.ntmps5
    go_wp2_with (first | (go_at_call 12; ((with_reducible refine HA.out.mono ?_); rintro e wa ⟨rfl, qa, rfl⟩)) | (go_at_call 22; ((with_reducible refine (H1 _).out.mono ?_); rintro e wr ⟨rfl, rfl⟩)) | (go_at_call 22; ((with_reducible refine (H2 _).out.mono ?_); rintro e wr ⟨rfl, rfl⟩)) | (go_at_call 22; ((with_reducible refine (H3 _).out.mono ?_); rintro e wr ⟨rfl, rfl⟩)) | (go_at_call 22; ((with_reducible refine (H4 _).out.mono ?_); rintro e wr ⟨rfl, rfl⟩)) | (go_at_call 22; ((with_reducible refine (H5 _).out.mono ?_); rintro e wr ⟨rfl, rfl⟩)))
    all_goals first | (exfalso; omega) | (go_ret; exact ⟨rfl, below_drewN w _⟩)
  · by_cases h2 : 0 < b
    · clear c6
      go_enter Try.func5, Try.ntmps5
      go_wp2_with (first | (go_at_call 12; ((with_reducible refine HA.out.mono ?_); rintro e wa ⟨rfl, qa, rfl⟩)) | (go_at_call 22; ((with_reducible refine (H1 _).out.mono ?_); rintro e wr ⟨rfl, rfl⟩)) | (go_at_call 22; ((with_reducible refine (H2 _).out.mono ?_); rintro e wr ⟨rfl, rfl⟩)) | (go_at_call 22; ((with_reducible refine (H3 _).out.mono ?_); rintro e wr ⟨rfl, rfl⟩)) | (go_at_call 22; ((with_reducible refine (H4 _).out.mono ?_); rintro e wr ⟨rfl, rfl⟩)) | (go_at_call 22; ((with_reducible refine (H5 _).out.mono ?_); rintro e wr ⟨rfl, rfl⟩)))
      all_goals first | (exfalso; omega) | (go_ret; exact ⟨rfl, below_drewN w _⟩)
    · have c7 := c6 h1 h2
      clear c6
      go_enter Try.func5, Try.ntmps5
      go_wp2_with (first | (go_at_call 12; ((with_reducible refine HA.out.mono ?_); rintro e wa ⟨rfl, qa, rfl⟩)) | (go_at_call 22; ((with_reducible refine (H1 _).out.mono ?_); rintro e wr ⟨rfl, rfl⟩)) | (go_at_call 22; ((with_reducible refine (H2 _).out.mono ?_); rintro e wr ⟨rfl, rfl⟩)) | (go_at_call 22; ((with_reducible refine (H3 _).out.mono ?_); rintro e wr ⟨rfl, rfl⟩)) | (go_at_call 22; ((with_reducible refine (H4 _).out.mono ?_); rintro e wr ⟨rfl, rfl⟩)) | (go_at_call 22; ((with_reducible refine (H5 _).out.mono ?_); rintro e wr ⟨rfl, rfl⟩)))
      all_goals first | (exfalso; omega) | (go_ret; exact ⟨rfl, below_drewN w _⟩)

theorem own : ownKnob Try.prog.godebug = none := by kernel_rfl
theorem laidOut : laidOutB Try.prog = true := by kernel_rfl

set_option maxRecDepth 100000 in
theorem lifted (os : Os) (started : os.Started) (H : Type) (enc : TypeId × Value → H) :
    ReturnsInHanded {} Try.checked os 5 .any (Rows.scoreTotalSpec.pre6 enc Try.prog Try.f5 Rows.scoreTotalRow.domain false) (Rows.scoreTotalSpec.post enc Try.prog Try.f5 false true false false) := by
  refine returnsInHanded_of_change (C := Try.checked) own started (by kernel_rfl) Try.func5
    (ChangeSpec.witness6 (enc := enc) (C := Try.checked) false ⟨#[], #[.int .u64 0, .int .u64 0, .int .u64 0], []⟩ 8 (by kernel_rfl) (by kernel_rfl) (by kernel_rfl) (by kernel_rfl)) ?_
  intro W base args ds gs before hval0 hW hcnd _
  have hval : ∀ (j : Nat) t v, Try.f5.params[j]? = some t → args[j]? = some v → Value.okWide Try.prog W .any base t v := hval0
  have hW' := hW
  obtain ⟨p, q, hA0, hV, rfl, hfz, hnd⟩ := hW
  have hA : DataW.TrodAll enc Try.prog W 0 (fun _ => true) true Try.f5.params.toList args.toList ds p := hA0
  rw [Try.params5] at hA hval
  obtain ⟨v0, vs0, d0, ds0, p0, q0, hargs, rfl, rfl, h0, r0⟩ := trodAll_cons hA
  obtain ⟨v1, vs1, d1, ds1, p1, q1, rfl, rfl, rfl, h1, r1⟩ := trodAll_cons r0
  obtain ⟨v2, vs2, d2, ds2, p2, q2, rfl, rfl, rfl, h2, r2⟩ := trodAll_cons r1
  obtain ⟨rfl, rfl, rfl⟩ := trodAll_nil r2
  obtain rfl : args = #[v0, v1, v2] := by cases args; simp_all
  obtain ⟨rfl, rfl⟩ := trodVars_none hV
  obtain ⟨a0, rfl, rfl, rfl, w0⟩ := open_int Try.underlying23 (hval 0 23 v0 rfl rfl) h0
  obtain ⟨a1, rfl, rfl, rfl, w1⟩ := open_int Try.underlying23 (hval 1 23 v1 rfl rfl) h1
  obtain ⟨a2, rfl, rfl, rfl, w2⟩ := open_int Try.underlying23 (hval 2 23 v2 rfl rfl) h2
  clear hA0 hval0
  refine (walk a0 a1 a2 W w0 w1 w2).mono fun e W' ⟨he, bel⟩ => ?_
  subst he
  exact ⟨_, rfl, _, _, _, [], _, [], hW', trodAll_mk1 (shut_bool Try.underlying4 _), (trodAll_cons_mk (shut_int Try.underlying23 w0) (trodAll_cons_mk (shut_int Try.underlying23 w1) (trodAll_cons_mk (shut_int Try.underlying23 w2) trodAll_mk0))), rfl, bel.frame _, fun h => by cases h⟩

theorem over : Rows.scoreTotalRow.holds Try.pinned (OpenSpec.ofChange Rows.scoreTotalSpec) :=
  OpenClaim.holds_of_wide 5 Try.f5 rfl rfl rfl rfl rfl rfl rfl ⟨rfl, rfl, rfl, rfl, rfl⟩ rfl rfl rfl rfl rfl (by kernel_rfl) Try.func5 (by kernel_rfl)
    (of_decide_eq_true (by kernel_rfl)) (by unfold Func.isWrapper; first | (rw [if_pos (by decide +kernel)]; kernel_rfl) | (rw [if_neg (by decide +kernel)]; exact ⟨rfl, rfl⟩))
    (fun os started H enc _ => lifted os started H enc)

theorem proved : Rows.ScoreTotalSaid := over
#print axioms proved
end Go.Proofs.Ytjcmlelfmnonkaa.scoreTotal
