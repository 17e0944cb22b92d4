/-
  ScoreDivides, for every input: any number divided by any other one, and any number as bits, is what the document says: the law answers true, and its arguments read as they did. No conditions.
-/
import Derived.Test.YtjcmlelfmnonkaaVl
import Derived.Test.YtjcmlelfmnonkaaAwk
import Derived.ProofKit
import Derived.ShutString
import Derived.ChangeOld
namespace Go.Proofs.Ytjcmlelfmnonkaa.scoreDivides
open Go.ChangeShapes Go.WideShapes Go.ChangeAt Go.RowKit Go.Proofs.Ytjcmlelfmnonkaa.Fl
set_option linter.unusedVariables false
set_option maxRecDepth 100000

theorem walk (a0 a1 : Int) (w : World) (w0 : (Lit.int .i64 a0).wf = true) (w1 : (Lit.int .i64 a1).wf = true) :
    Calls Try.prog 3 #[.int .i64 a0, .int .i64 a1] w (UpPost w) := by
  have HA := awake_any w
  obtain ⟨b0, c0⟩ := int_of w0
  obtain ⟨b1, c1⟩ := int_of w1
  clear w0 w1
  have H1 : ∀ W, Hid _ := fun W => quoti_any a0 a1 W
  have H2 : ∀ W, Hid _ := fun W => rquot_any a0 a1 W
  have H3 : ∀ W, Hid _ := fun W => of_any a0 W
  have H4 : ∀ W, Hid _ := fun W => rof_any a0 W
  generalize ((qv a0 a1 : Nat) : Int) = r at *
  generalize ((qv a0 1 : Nat) : Int) = s at *
  go_enter Try.func3, Try.ntmps3
  go_wp2_with (first | (go_at_call 12; ((with_reducible refine HA.out.mono ?_); rintro e wa ⟨rfl, qa, rfl⟩)) | (go_at_call 13; ((with_reducible refine (H1 _).out.mono ?_); rintro e wq ⟨rfl, qq, rfl⟩)) | (go_at_call 14; ((with_reducible refine (H2 _).out.mono ?_); rintro e wr ⟨rfl, rfl⟩)) | (go_at_call 15; ((with_reducible refine (H3 _).out.mono ?_); rintro e wr ⟨rfl, rfl⟩)) | (go_at_call 16; ((with_reducible refine (H4 _).out.mono ?_); rintro e wr ⟨rfl, rfl⟩)))
  go_ret
  exact ⟨rfl, below_drewN w _⟩

theorem own : ownKnob Try.prog.godebug = none := by kernel_rfl
theorem laidOut : laidOutB Try.prog = true := by kernel_rfl

set_option maxRecDepth 100000 in
theorem lifted (os : Os) (started : os.Started) (H : Type) (enc : TypeId × Value → H) :
    ReturnsInHanded {} Try.checked os 3 .any (Rows.scoreDividesSpec.pre6 enc Try.prog Try.f3 Rows.scoreDividesRow.domain false) (Rows.scoreDividesSpec.post enc Try.prog Try.f3 false true false false) := by
  refine returnsInHanded_of_change (C := Try.checked) own started (by kernel_rfl) Try.func3
    (ChangeSpec.witness6 (enc := enc) (C := Try.checked) false ⟨#[], #[.int .i64 0, .int .i64 0], []⟩ 8 (by kernel_rfl) (by kernel_rfl) (by kernel_rfl) (by kernel_rfl)) ?_
  intro W base args ds gs before hval0 hW hcnd _
  have hval : ∀ (j : Nat) t v, Try.f3.params[j]? = some t → args[j]? = some v → Value.okWide Try.prog W .any base t v := hval0
  have hW' := hW
  obtain ⟨p, q, hA0, hV, rfl, hfz, hnd⟩ := hW
  have hA : DataW.TrodAll enc Try.prog W 0 (fun _ => true) true Try.f3.params.toList args.toList ds p := hA0
  rw [Try.params3] at hA hval
  obtain ⟨v0, vs0, d0, ds0, p0, q0, hargs, rfl, rfl, h0, r0⟩ := trodAll_cons hA
  obtain ⟨v1, vs1, d1, ds1, p1, q1, rfl, rfl, rfl, h1, r1⟩ := trodAll_cons r0
  obtain ⟨rfl, rfl, rfl⟩ := trodAll_nil r1
  obtain rfl : args = #[v0, v1] := by cases args; simp_all
  obtain ⟨rfl, rfl⟩ := trodVars_none hV
  obtain ⟨a0, rfl, rfl, rfl, w0⟩ := open_int Try.underlying3 (hval 0 3 v0 rfl rfl) h0
  obtain ⟨a1, rfl, rfl, rfl, w1⟩ := open_int Try.underlying3 (hval 1 3 v1 rfl rfl) h1
  clear hA0 hval0
  refine (walk a0 a1 W w0 w1).mono fun e W' ⟨he, bel⟩ => ?_
  subst he
  exact ⟨_, rfl, _, _, _, [], _, [], hW', trodAll_mk1 (shut_bool Try.underlying4 _), (trodAll_cons_mk (shut_int Try.underlying3 w0) (trodAll_cons_mk (shut_int Try.underlying3 w1) trodAll_mk0)), rfl, bel.frame _, fun h => by cases h⟩

theorem over : Rows.scoreDividesRow.holds Try.pinned (OpenSpec.ofChange Rows.scoreDividesSpec) :=
  OpenClaim.holds_of_wide 3 Try.f3 rfl rfl rfl rfl rfl rfl rfl ⟨rfl, rfl, rfl, rfl, rfl⟩ rfl rfl rfl rfl rfl (by kernel_rfl) Try.func3 (by kernel_rfl)
    (of_decide_eq_true (by kernel_rfl)) (by unfold Func.isWrapper; first | (rw [if_pos (by decide +kernel)]; kernel_rfl) | (rw [if_neg (by decide +kernel)]; exact ⟨rfl, rfl⟩))
    (fun os started H enc _ => lifted os started H enc)

theorem proved : Rows.ScoreDividesSaid := over
#print axioms proved
end Go.Proofs.Ytjcmlelfmnonkaa.scoreDivides
