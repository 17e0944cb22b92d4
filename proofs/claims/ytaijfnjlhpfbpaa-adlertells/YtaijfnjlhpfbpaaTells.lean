/-
  The statement AdlerTells is proved: what any two sums are together, and any sum without a byte, is what the document says. For every two uint32, every int and every byte; no condition.
-/
import Derived.Test.YtaijfnjlhpfbpaaBounds
import Derived.OpenShut
import Derived.ShutString
import Derived.ChangeOld
namespace Go.Proofs.Ytaijfnjlhpfbpaa.adlerTells
open Go.ChangeShapes Go.WideShapes Go.ChangeAt Go.RowKit
set_option linter.unusedVariables false

theorem walk (a0 a1 a2 a3 : Int) (w : World) (w0 : (Lit.int .u32 a0).wf = true) (w1 : (Lit.int .u32 a1).wf = true) (w2 : (Lit.int .i64 a2).wf = true) (w3 : (Lit.int .u8 a3).wf = true) :
    Calls Try.prog 4 #[.int .u32 a0, .int .u32 a1, .int .i64 a2, .int .u8 a3] w (UpPost w) := by
  have HA := Lib.hid (awake_any w)
  obtain ⟨p0, p1⟩ := word_of w0
  obtain ⟨q0, q1⟩ := word_of w1
  obtain ⟨r0, r1⟩ := int_of w2
  obtain ⟨s0, s1⟩ := byte_of w3
  have H1 : ∀ W, Hid (Calls Try.prog 15 #[.int .u32 a0, .int .u32 a1, .int .i64 a2] W (U32Post W (jn a0 a1 a2))) := fun W => join_any _ _ _ W p0 p1 q0 q1 r0 r1
  have H2 : ∀ W, Hid (Calls Try.prog 16 #[.int .u32 a0, .int .u32 a1, .int .i64 a2] W (IntPost W .u32 (jn a0 a1 a2))) := fun W => rjoin_any _ _ _ W p0 p1 q0 q1 r0 r1
  have H3 : ∀ W, Hid (Calls Try.prog 17 #[.int .u32 a0, .int .u8 a3, .int .i64 a2] W (U32Post W (dr a0 a3 a2))) := fun W => drop_any _ _ _ W p0 p1 s0 s1 r0 r1
  have H4 : ∀ W, Hid (Calls Try.prog 18 #[.int .u32 a0, .int .u8 a3, .int .i64 a2] W (IntPost W .u32 (dr a0 a3 a2))) := fun W => rdrop_any _ _ _ W p0 p1 s0 s1 r0 r1
  generalize jn a0 a1 a2 = j at *
  generalize dr a0 a3 a2 = d at *
  go_enter Try.func4, Try.ntmps4
  go_wp2_with (first | (go_at_call 10; refine HA.out.mono ?_; rintro e wa ⟨rfl, hba⟩) | (go_at_call 15; ((with_reducible refine (H1 _).out.mono ?_); rintro e wb ⟨rfl, hbb⟩; have hb2 := hba.trans (hbb.mono hba.size))) | (go_at_call 16; ((with_reducible refine (H2 _).out.mono ?_); rintro e wc ⟨rfl, rfl⟩)) | (go_at_call 17; ((with_reducible refine (H3 _).out.mono ?_); rintro e wd ⟨rfl, hbd⟩; have hb3 := hb2.trans (hbd.mono hb2.size))) | (go_at_call 18; ((with_reducible refine (H4 _).out.mono ?_); rintro e we ⟨rfl, rfl⟩)))
  go_ret
  exact ⟨rfl, hb3⟩

theorem own : ownKnob Try.prog.godebug = none := by kernel_rfl
theorem laidOut : laidOutB Try.prog = true := by kernel_rfl

set_option maxRecDepth 100000 in
theorem lifted (os : Os) (started : os.Started) (H : Type) (enc : TypeId × Value → H) :
    ReturnsInHanded {} Try.checked os 4 .any (Rows.adlerTellsSpec.pre6 enc Try.prog Try.f4 Rows.adlerTellsRow.domain false) (Rows.adlerTellsSpec.post enc Try.prog Try.f4 false true false false) := by
  refine returnsInHanded_of_change (C := Try.checked) own started (by kernel_rfl) Try.func4
    (ChangeSpec.witness6 (enc := enc) (C := Try.checked) false ⟨#[], #[.int .u32 0, .int .u32 0, .int .i64 0, .int .u8 0], []⟩ 8 (by kernel_rfl) (by kernel_rfl) (by kernel_rfl) (by kernel_rfl)) ?_
  intro W base args ds gs before hval0 hW hcnd _
  have hval : ∀ (j : Nat) t v, Try.f4.params[j]? = some t → args[j]? = some v → Value.okWide Try.prog W .any base t v := hval0
  have hW' := hW
  obtain ⟨p, q, hA0, hV, rfl, hfz, hnd⟩ := hW
  have hA : DataW.TrodAll enc Try.prog W 0 (fun _ => true) true Try.f4.params.toList args.toList ds p := hA0
  rw [Try.params4] at hA hval
  obtain ⟨v0, vs0, d0, ds0, p0, q0, hargs, rfl, rfl, h0, r0⟩ := trodAll_cons hA
  obtain ⟨v1, vs1, d1, ds1, p1, q1, rfl, rfl, rfl, h1, r1⟩ := trodAll_cons r0
  obtain ⟨v2, vs2, d2, ds2, p2, q2, rfl, rfl, rfl, h2, r2⟩ := trodAll_cons r1
  obtain ⟨v3, vs3, d3, ds3, p3, q3, rfl, rfl, rfl, h3, r3⟩ := trodAll_cons r2
  obtain ⟨rfl, rfl, rfl⟩ := trodAll_nil r3
  obtain rfl : args = #[v0, v1, v2, v3] := by cases args; simp_all
  obtain ⟨rfl, rfl⟩ := trodVars_none hV
  obtain ⟨a0, rfl, rfl, rfl, w0⟩ := open_int Try.underlying23 (hval 0 23 v0 rfl rfl) h0
  obtain ⟨a1, rfl, rfl, rfl, w1⟩ := open_int Try.underlying23 (hval 1 23 v1 rfl rfl) h1
  obtain ⟨a2, rfl, rfl, rfl, w2⟩ := open_int Try.underlying3 (hval 2 3 v2 rfl rfl) h2
  obtain ⟨a3, rfl, rfl, rfl, w3⟩ := open_int Try.underlying5 (hval 3 5 v3 rfl rfl) h3
  clear hA0 hval0
  refine (walk a0 a1 a2 a3 W w0 w1 w2 w3).mono fun e W' ⟨he, bel⟩ => ?_
  subst he
  exact ⟨_, rfl, _, _, _, [], _, [], hW', trodAll_mk1 (shut_bool Try.underlying4 _), (trodAll_cons_mk (shut_int Try.underlying23 w0) (trodAll_cons_mk (shut_int Try.underlying23 w1) (trodAll_cons_mk (shut_int Try.underlying3 w2) (trodAll_cons_mk (shut_int Try.underlying5 w3) trodAll_mk0)))), rfl, bel.frame _, fun h => by cases h⟩

theorem over : Rows.adlerTellsRow.holds Try.pinned (OpenSpec.ofChange Rows.adlerTellsSpec) :=
  OpenClaim.holds_of_wide 4 Try.f4 rfl rfl rfl rfl rfl rfl rfl ⟨rfl, rfl, rfl, rfl, rfl⟩ rfl rfl rfl rfl rfl (by kernel_rfl) Try.func4 (by kernel_rfl)
    (of_decide_eq_true (by kernel_rfl)) (by unfold Func.isWrapper; first | (rw [if_pos (by decide +kernel)]; kernel_rfl) | (rw [if_neg (by decide +kernel)]; exact ⟨rfl, rfl⟩))
    (fun os started H enc _ => lifted os started H enc)

theorem proved : Rows.AdlerTellsSaid := over
#print axioms proved
end Go.Proofs.Ytaijfnjlhpfbpaa.adlerTells
