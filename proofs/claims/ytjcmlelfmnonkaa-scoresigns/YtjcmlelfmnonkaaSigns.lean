/-
  ScoreSigns, for every input: a quotient's sign is that of both its numbers: with one of them opposite it has the other sign, and the same else: the law answers true, and its arguments read as they did. No conditions.
-/
import Derived.Test.YtjcmlelfmnonkaaVl
import Derived.Test.YtjcmlelfmnonkaaAwk
import Derived.ProofKit
import Derived.ShutString
import Derived.ChangeOld
namespace Go.Proofs.Ytjcmlelfmnonkaa.scoreSigns
open Go.ChangeShapes Go.WideShapes Go.ChangeAt Go.RowKit Go.Proofs.Ytjcmlelfmnonkaa.Fl
set_option linter.unusedVariables false
set_option maxRecDepth 100000

set_option maxHeartbeats 1600000 in
theorem walk (a0 a1 : Int) (w : World) (w0 : (Lit.int .i64 a0).wf = true) (w1 : (Lit.int .i64 a1).wf = true) :
    Calls Try.prog 11 #[.int .i64 a0, .int .i64 a1] w (UpPost w) := by
  have HA := awake_any w
  obtain ⟨b0, c0⟩ := int_of w0
  obtain ⟨b1, c1⟩ := int_of w1
  clear w0 w1
  by_cases hin : a0 ≠ 0 ∧ a1 ≠ 0 ∧ -9007199254740992 ≤ a0 ∧ a0 ≤ 9007199254740992 ∧ -9007199254740992 ≤ a1 ∧ a1 ≤ 9007199254740992
  · obtain ⟨i1, i2, i3, i4, i5, i6⟩ := hin
    obtain ⟨P, s, hP, e1, e2, e3, e4⟩ := signs i1 i2 i3 i4 i5 i6
    have H1 : ∀ W, Hid _ := fun W => quoti_any a0 a1 W
    have H2 : ∀ W, Hid _ := fun W => quoti_any (-a0) a1 W
    have H3 : ∀ W, Hid _ := fun W => quoti_any a0 (-a1) W
    have hb := bits_flip (qv_lt (-a0) a1)
    rw [e2] at H2 hb
    rw [e3] at H3
    rw [e1] at H1
    rw [sg_bt hP] at hb
    obtain ⟨r, hr⟩ : ∃ r : Int, r = ((bt s + P : Nat) : Int) := ⟨_, rfl⟩
    obtain ⟨t, ht⟩ : ∃ t : Int, t = ((bt (!s) + P : Nat) : Int) := ⟨_, rfl⟩
    rw [← ht] at H2 H3 hb
    rw [← hr] at H1
    have hb' : bits .xor .u64 t 9223372036854775808 = r := by
      rw [hb, hr]
      cases s
      · rw [show (!false) = true from rfl, if_pos rfl, bt_t, bt_f]; omega
      · rw [show (!true) = false from rfl, if_neg (by simp), bt_t, bt_f]; omega
    have hg : decide (9223372036854775808 ≤ r) = s := by
      rw [hr]
      cases s
      · rw [bt_f, decide_eq_false_iff_not]; omega
      · rw [bt_t, decide_eq_true_eq]; omega
    have HS : Hid ((decide (a0 < 0) != decide (a1 < 0)) = s) := Lib.hid e4.symm
    clear e1 e2 e3 e4 hb hr ht hP
    go_enter Try.func11, Try.ntmps11
    go_wp2_with (first | (go_at_call 12; ((with_reducible refine HA.out.mono ?_); rintro e wa ⟨rfl, qa, rfl⟩)) | (go_at_call 13; ((with_reducible refine (H1 _).out.mono ?_); rintro e wq ⟨rfl, qq, rfl⟩)) | (go_at_call 13; ((with_reducible refine (H2 _).out.mono ?_); rintro e wq ⟨rfl, qq, rfl⟩)) | (go_at_call 13; ((with_reducible refine (H3 _).out.mono ?_); rintro e wq ⟨rfl, qq, rfl⟩)))
    all_goals first | (exfalso; omega) | (go_ret; exact ⟨ret_bool (by have hz := HS.out; revert hz; cases decide (a0 < 0) <;> cases decide (a1 < 0) <;> cases s <;> decide), below_drewN w _⟩)
  · go_enter Try.func11, Try.ntmps11
    go_wp2_with (first | (go_at_call 12; ((with_reducible refine HA.out.mono ?_); rintro e wa ⟨rfl, qa, rfl⟩)))
    all_goals first | (exfalso; omega) | (go_ret; exact ⟨rfl, below_drewN w _⟩)

theorem own : ownKnob Try.prog.godebug = none := by kernel_rfl
theorem laidOut : laidOutB Try.prog = true := by kernel_rfl

set_option maxRecDepth 100000 in
theorem lifted (os : Os) (started : os.Started) (H : Type) (enc : TypeId × Value → H) :
    ReturnsInHanded {} Try.checked os 11 .any (Rows.scoreSignsSpec.pre6 enc Try.prog Try.f11 Rows.scoreSignsRow.domain false) (Rows.scoreSignsSpec.post enc Try.prog Try.f11 false true false false) := by
  refine returnsInHanded_of_change (C := Try.checked) own started (by kernel_rfl) Try.func11
    (ChangeSpec.witness6 (enc := enc) (C := Try.checked) false ⟨#[], #[.int .i64 0, .int .i64 0], []⟩ 8 (by kernel_rfl) (by kernel_rfl) (by kernel_rfl) (by kernel_rfl)) ?_
  intro W base args ds gs before hval0 hW hcnd _
  have hval : ∀ (j : Nat) t v, Try.f11.params[j]? = some t → args[j]? = some v → Value.okWide Try.prog W .any base t v := hval0
  have hW' := hW
  obtain ⟨p, q, hA0, hV, rfl, hfz, hnd⟩ := hW
  have hA : DataW.TrodAll enc Try.prog W 0 (fun _ => true) true Try.f11.params.toList args.toList ds p := hA0
  rw [Try.params11] at hA hval
  obtain ⟨v0, vs0, d0, ds0, p0, q0, hargs, rfl, rfl, h0, r0⟩ := trodAll_cons hA
  obtain ⟨v1, vs1, d1, ds1, p1, q1, rfl, rfl, rfl, h1, r1⟩ := trodAll_cons r0
  obtain ⟨rfl, rfl, rfl⟩ := trodAll_nil r1
  obtain rfl : args = #[v0, v1] := by cases args; simp_all
  obtain ⟨rfl, rfl⟩ := trodVars_none hV
  obtain ⟨a0, rfl, rfl, rfl, w0⟩ := open_int Try.underlying3 (hval 0 3 v0 rfl rfl) h0
  obtain ⟨a1, rfl, rfl, rfl, w1⟩ := open_int Try.underlying3 (hval 1 3 v1 rfl rfl) h1
  clear hA0 hval0
  refine (walk a0 a1 W w0 w1).mono fun e W' ⟨he, bel⟩ => ?_
  subst he
  exact ⟨_, rfl, _, _, _, [], _, [], hW', trodAll_mk1 (shut_bool Try.underlying4 _), (trodAll_cons_mk (shut_int Try.underlying3 w0) (trodAll_cons_mk (shut_int Try.underlying3 w1) trodAll_mk0)), rfl, bel.frame _, fun h => by cases h⟩

theorem over : Rows.scoreSignsRow.holds Try.pinned (OpenSpec.ofChange Rows.scoreSignsSpec) :=
  OpenClaim.holds_of_wide 11 Try.f11 rfl rfl rfl rfl rfl rfl rfl ⟨rfl, rfl, rfl, rfl, rfl⟩ rfl rfl rfl rfl rfl (by kernel_rfl) Try.func11 (by kernel_rfl)
    (of_decide_eq_true (by kernel_rfl)) (by unfold Func.isWrapper; first | (rw [if_pos (by decide +kernel)]; kernel_rfl) | (rw [if_neg (by decide +kernel)]; exact ⟨rfl, rfl⟩))
    (fun os started H enc _ => lifted os started H enc)

theorem proved : Rows.ScoreSignsSaid := over
#print axioms proved
end Go.Proofs.Ytjcmlelfmnonkaa.scoreSigns
