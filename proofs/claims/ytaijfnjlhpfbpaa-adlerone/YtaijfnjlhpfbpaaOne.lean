/-
  The statement AdlerOne is proved: nothing joined to anything, on either side, changes nothing. For every uint32 and every int; no condition.
-/
import Derived.Test.YtaijfnjlhpfbpaaBounds
import Derived.OpenShut
import Derived.ShutString
import Derived.ChangeOld
namespace Go.Proofs.Ytaijfnjlhpfbpaa.adlerOne
open Go.ChangeShapes Go.WideShapes Go.ChangeAt Go.RowKit
set_option linter.unusedVariables false

theorem walk (a0 a1 : Int) (w : World) (w0 : (Lit.int .u32 a0).wf = true) (w1 : (Lit.int .i64 a1).wf = true) : Calls Try.prog 9 #[.int .u32 a0, .int .i64 a1] w (UpPost w) := by
  have HA := Lib.hid (awake_any w)
  obtain ⟨p0, p1⟩ := word_of w0
  obtain ⟨q0, q1⟩ := int_of w1
  by_cases hm : may a0 = true
  · have HM : ∀ W, Hid (Calls Try.prog 13 #[.int .u32 a0] W fun e w' => e = .returned (.bool true) ∧ Below W.heap.size W w') := fun W => (may_any a0 W p0 p1).mono fun e w' ⟨he, hb⟩ => ⟨by rw [he, hm], hb⟩
    have H1 : ∀ W, Hid (Calls Try.prog 15 #[.int .u32 a0, .int .u32 1, .int .i64 0] W (U32Post W a0)) := fun W => (join_any a0 1 0 W p0 p1 (by decide) (by decide) (by decide) (by decide)).mono fun e w' ⟨he, hb⟩ => ⟨by rw [he, jn_none a0 hm p0], hb⟩
    have H2 : ∀ W, Hid (Calls Try.prog 15 #[.int .u32 1, .int .u32 a0, .int .i64 a1] W (U32Post W a0)) := fun W => (join_any 1 a0 a1 W (by decide) (by decide) p0 p1 q0 q1).mono fun e w' ⟨he, hb⟩ => ⟨by rw [he, jn_one a0 a1 hm p0], hb⟩
    clear hm
    by_cases h0 : a1 < 0
    · go_enter Try.func9, Try.ntmps9
      go_wp2_with (first | (go_at_call 10; refine HA.out.mono ?_; rintro e wa ⟨rfl, hba⟩) | (go_at_call 13; ((with_reducible refine (HM _).out.mono ?_); rintro e wb ⟨rfl, hbb⟩)))
      go_ret
      exact ⟨rfl, hba.trans (hbb.mono hba.size)⟩
    · by_cases h1 : 1073741824 < a1
      · have hd : decide (a1 < 0) = false := by simpa using h0
        go_enter Try.func9, Try.ntmps9
        go_wp2_with (first | (go_at_call 10; refine HA.out.mono ?_; rintro e wa ⟨rfl, hba⟩) | (go_at_call 13; ((with_reducible refine (HM _).out.mono ?_); rintro e wb ⟨rfl, hbb⟩)))
        go_ret
        exact ⟨rfl, hba.trans (hbb.mono hba.size)⟩
      · have hd : decide (a1 < 0) = false := by simpa using h0
        have hd1 : decide (1073741824 < a1) = false := by simpa using h1
        go_enter Try.func9, Try.ntmps9
        go_wp2_with (first | (go_at_call 10; refine HA.out.mono ?_; rintro e wa ⟨rfl, hba⟩) | (go_at_call 13; ((with_reducible refine (HM _).out.mono ?_); rintro e wb ⟨rfl, hbb⟩; have hb2 := hba.trans (hbb.mono hba.size))) | (go_at_call 15; ((with_reducible refine (H1 _).out.mono ?_); rintro e wc ⟨rfl, hbc⟩; have hb3 := hb2.trans (hbc.mono hb2.size))) | (go_at_call 15; ((with_reducible refine (H2 _).out.mono ?_); rintro e wd ⟨rfl, hbd⟩; have hb4 := hb3.trans (hbd.mono hb3.size))))
        go_ret
        exact ⟨rfl, hb4⟩
  · have hm' : may a0 = false := by simpa using hm
    have HM : ∀ W, Hid (Calls Try.prog 13 #[.int .u32 a0] W fun e w' => e = .returned (.bool false) ∧ Below W.heap.size W w') := fun W => (may_any a0 W p0 p1).mono fun e w' ⟨he, hb⟩ => ⟨by rw [he, hm'], hb⟩
    clear hm hm'
    go_enter Try.func9, Try.ntmps9
    go_wp2_with (first | (go_at_call 10; refine HA.out.mono ?_; rintro e wa ⟨rfl, hba⟩) | (go_at_call 13; ((with_reducible refine (HM _).out.mono ?_); rintro e wb ⟨rfl, hbb⟩)))
    go_ret
    exact ⟨rfl, hba.trans (hbb.mono hba.size)⟩

theorem own : ownKnob Try.prog.godebug = none := by kernel_rfl
theorem laidOut : laidOutB Try.prog = true := by kernel_rfl

set_option maxRecDepth 100000 in
theorem lifted (os : Os) (started : os.Started) (H : Type) (enc : TypeId × Value → H) :
    ReturnsInHanded {} Try.checked os 9 .any (Rows.adlerOneSpec.pre6 enc Try.prog Try.f9 Rows.adlerOneRow.domain false) (Rows.adlerOneSpec.post enc Try.prog Try.f9 false true false false) := by
  refine returnsInHanded_of_change (C := Try.checked) own started (by kernel_rfl) Try.func9
    (ChangeSpec.witness6 (enc := enc) (C := Try.checked) false ⟨#[], #[.int .u32 0, .int .i64 0], []⟩ 8 (by kernel_rfl) (by kernel_rfl) (by kernel_rfl) (by kernel_rfl)) ?_
  intro W base args ds gs before hval0 hW hcnd _
  have hval : ∀ (j : Nat) t v, Try.f9.params[j]? = some t → args[j]? = some v → Value.okWide Try.prog W .any base t v := hval0
  have hW' := hW
  obtain ⟨p, q, hA0, hV, rfl, hfz, hnd⟩ := hW
  have hA : DataW.TrodAll enc Try.prog W 0 (fun _ => true) true Try.f9.params.toList args.toList ds p := hA0
  rw [Try.params9] at hA hval
  obtain ⟨v0, vs0, d0, ds0, p0, q0, hargs, rfl, rfl, h0, r0⟩ := trodAll_cons hA
  obtain ⟨v1, vs1, d1, ds1, p1, q1, rfl, rfl, rfl, h1, r1⟩ := trodAll_cons r0
  obtain ⟨rfl, rfl, rfl⟩ := trodAll_nil r1
  obtain rfl : args = #[v0, v1] := by cases args; simp_all
  obtain ⟨rfl, rfl⟩ := trodVars_none hV
  obtain ⟨a0, rfl, rfl, rfl, w0⟩ := open_int Try.underlying23 (hval 0 23 v0 rfl rfl) h0
  obtain ⟨a1, rfl, rfl, rfl, w1⟩ := open_int Try.underlying3 (hval 1 3 v1 rfl rfl) h1
  clear hA0 hval0
  refine (walk a0 a1 W w0 w1).mono fun e W' ⟨he, bel⟩ => ?_
  subst he
  exact ⟨_, rfl, _, _, _, [], _, [], hW', trodAll_mk1 (shut_bool Try.underlying4 _), (trodAll_cons_mk (shut_int Try.underlying23 w0) (trodAll_cons_mk (shut_int Try.underlying3 w1) trodAll_mk0)), rfl, bel.frame _, fun h => by cases h⟩

theorem over : Rows.adlerOneRow.holds Try.pinned (OpenSpec.ofChange Rows.adlerOneSpec) :=
  OpenClaim.holds_of_wide 9 Try.f9 rfl rfl rfl rfl rfl rfl rfl ⟨rfl, rfl, rfl, rfl, rfl⟩ rfl rfl rfl rfl rfl (by kernel_rfl) Try.func9 (by kernel_rfl)
    (of_decide_eq_true (by kernel_rfl)) (by unfold Func.isWrapper; first | (rw [if_pos (by decide +kernel)]; kernel_rfl) | (rw [if_neg (by decide +kernel)]; exact ⟨rfl, rfl⟩))
    (fun os started H enc _ => lifted os started H enc)

theorem proved : Rows.AdlerOneSaid := over
#print axioms proved
end Go.Proofs.Ytaijfnjlhpfbpaa.adlerOne
