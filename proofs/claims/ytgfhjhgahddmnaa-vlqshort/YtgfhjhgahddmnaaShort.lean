/-
  The statement VlqShort is proved: the bytes of a number without their last ones are told to lack some. For every two ints; no condition.
-/
import Derived.Test.YtgfhjhgahddmnaaAwake
import Derived.OpenShut
import Derived.ShutString
import Derived.ChangeOld
namespace Go.Proofs.Ytgfhjhgahddmnaa.vlqShort
open Go.ChangeShapes Go.WideShapes Go.ChangeAt Go.RowKit
set_option linter.unusedVariables false

theorem walk (a0 a1 : Int) (w : World) (w0 : (Lit.int .i64 a0).wf = true) (w1 : (Lit.int .i64 a1).wf = true) : Calls Try.prog 8 #[.int .i64 a0, .int .i64 a1] w (UpPost w) := by
  have HA := Lib.hid (awake_any w)
  by_cases h0 : okB a0 = true
  · obtain ⟨p0, p1⟩ := okB_bd h0
    have HP0 : ∀ W : World, Hid (Calls Try.prog 12 #[.int .i64 a0] W (PutPost W .u8 (vb a0 0) 0)) := fun W => put_yes a0 W p0 p1
    clear h0
    have HL := Lib.hid (vb_byte a0 0 (by omega) (by omega))
    have b0 : (vb a0 0).length ≤ 8 := vb_le8 p1
    by_cases hlo : a1 < 0
    · clear HL
      generalize vb a0 0 = xs at *
      go_enter Try.func8, Try.ntmps8
      go_wp2_with (first | (go_at_call 11; refine HA.out.mono ?_; rintro e wa ⟨rfl, hba⟩) | (go_at_call 12; ((with_reducible refine (HP0 _).out.mono ?_); rintro e wb ⟨A, c, rfl, ⟨hsl, hcap⟩, hbel⟩)))
      go_ret
      exact ⟨rfl, hba.trans (hbel.mono hba.size)⟩
    · obtain ⟨k, rfl⟩ : ∃ k : Nat, a1 = (k : Int) := ⟨a1.toNat, by omega⟩
      by_cases hhi : (vb a0 0).length ≤ k
      · clear HL
        generalize vb a0 0 = xs at *
        go_enter Try.func8, Try.ntmps8
        go_wp2_with (first | (go_at_call 11; refine HA.out.mono ?_; rintro e wa ⟨rfl, hba⟩) | (go_at_call 12; ((with_reducible refine (HP0 _).out.mono ?_); rintro e wb ⟨A, c, rfl, ⟨hsl, hcap⟩, hbel⟩)))
        go_ret
        exact ⟨rfl, hba.trans (hbel.mono hba.size)⟩
      · have HG := Lib.hid (gt_short a0 0 k p0 p1 (by omega))
        have hlt : k < (vb a0 0).length := by omega
        have hnb : ¬ (vb a0 0).length ≤ k := hhi
        have HC : ∀ (W : World) (A : Option Addr) (c : Nat), Sl W W.heap.size .u8 A (vb a0 0) → Hid (Calls Try.prog 18 #[.slice A k c] W (fun e w' => e = .returned (.tuple #[.int .i64 0, .int .i64 0, .int .i64 3]) ∧ W = w')) := fun W A c hsl => by
          have hk : ((vb a0 0).take k).length = k := by rw [List.length_take]; omega
          have := get_any A c ((vb a0 0).take k) W W.heap.size (by omega) (hsl.take k) (fun x hx => HL.out x (List.mem_of_mem_take hx))
          rw [hk] at this
          exact this.mono fun _ _ ⟨he, hw⟩ => ⟨by rw [he, HG.out]; rfl, hw⟩
        clear HG HL hhi
        generalize vb a0 0 = xs at *
        go_enter Try.func8, Try.ntmps8
        go_wp2_with (first | (go_at_call 11; refine HA.out.mono ?_; rintro e wa ⟨rfl, hba⟩) | (go_at_call 12; ((with_reducible refine (HP0 _).out.mono ?_); rintro e wb ⟨A, c, rfl, ⟨hsl, hcap⟩, hbel⟩; have hkc : k ≤ c := by omega)) | (go_at_call 18; refine (HC _ _ _ hsl).out.mono ?_; rintro e wc ⟨rfl, rfl⟩))
        go_ret
        exact ⟨rfl, hba.trans (hbel.mono hba.size)⟩
  · have HP0 : ∀ W : World, Hid (Calls Try.prog 12 #[.int .i64 a0] W fun e w' => e = .returned (.tuple #[.slice none 0 0, .int .i64 1]) ∧ W = w') := fun W => put_no a0 W (okB_nb (by simpa using h0))
    clear h0
    go_enter Try.func8, Try.ntmps8
    go_wp2_with (first | (go_at_call 11; refine HA.out.mono ?_; rintro e wa ⟨rfl, hba⟩) | (go_at_call 12; ((with_reducible refine (HP0 _).out.mono ?_); rintro e wb ⟨rfl, rfl⟩)))
    go_ret
    exact ⟨rfl, hba⟩

theorem own : ownKnob Try.prog.godebug = none := by kernel_rfl
theorem laidOut : laidOutB Try.prog = true := by kernel_rfl

set_option maxRecDepth 100000 in
theorem lifted (os : Os) (started : os.Started) (H : Type) (enc : TypeId × Value → H) :
    ReturnsInHanded {} Try.checked os 8 .any (Rows.vlqShortSpec.pre6 enc Try.prog Try.f8 Rows.vlqShortRow.domain false) (Rows.vlqShortSpec.post enc Try.prog Try.f8 false true false false) := by
  refine returnsInHanded_of_change (C := Try.checked) own started (by kernel_rfl) Try.func8
    (ChangeSpec.witness6 (enc := enc) (C := Try.checked) false ⟨#[], #[.int .i64 0, .int .i64 0], []⟩ 8 (by kernel_rfl) (by kernel_rfl) (by kernel_rfl) (by kernel_rfl)) ?_
  intro W base args ds gs before hval0 hW hcnd _
  have hval : ∀ (j : Nat) t v, Try.f8.params[j]? = some t → args[j]? = some v → Value.okWide Try.prog W .any base t v := hval0
  have hW' := hW
  obtain ⟨p, q, hA0, hV, rfl, hfz, hnd⟩ := hW
  have hA : DataW.TrodAll enc Try.prog W 0 (fun _ => true) true Try.f8.params.toList args.toList ds p := hA0
  rw [Try.params8] at hA hval
  obtain ⟨v0, vs0, d0, ds0, p0, q0, hargs, rfl, rfl, h0, r0⟩ := trodAll_cons hA
  obtain ⟨v1, vs1, d1, ds1, p1, q1, rfl, rfl, rfl, h1, r1⟩ := trodAll_cons r0
  obtain ⟨rfl, rfl, rfl⟩ := trodAll_nil r1
  obtain rfl : args = #[v0, v1] := by cases args; simp_all
  obtain ⟨rfl, rfl⟩ := trodVars_none hV
  obtain ⟨a0, rfl, rfl, rfl, w0⟩ := open_int Try.underlying3 (hval 0 3 v0 rfl rfl) h0
  obtain ⟨a1, rfl, rfl, rfl, w1⟩ := open_int Try.underlying3 (hval 1 3 v1 rfl rfl) h1
  clear hA0 hval0
  refine (walk a0 a1 W w0 w1).mono fun e W' ⟨he, bel⟩ => ?_
  subst he
  exact ⟨_, rfl, _, _, _, [], _, [], hW', trodAll_mk1 (shut_bool Try.underlying4 _), (trodAll_cons_mk (shut_int Try.underlying3 w0) (trodAll_cons_mk (shut_int Try.underlying3 w1) trodAll_mk0)), rfl, bel.frame _, fun h => by cases h⟩

theorem over : Rows.vlqShortRow.holds Try.pinned (OpenSpec.ofChange Rows.vlqShortSpec) :=
  OpenClaim.holds_of_wide 8 Try.f8 rfl rfl rfl rfl rfl rfl rfl ⟨rfl, rfl, rfl, rfl, rfl⟩ rfl rfl rfl rfl rfl (by kernel_rfl) Try.func8 (by kernel_rfl)
    (of_decide_eq_true (by kernel_rfl)) (by unfold Func.isWrapper; first | (rw [if_pos (by decide +kernel)]; kernel_rfl) | (rw [if_neg (by decide +kernel)]; exact ⟨rfl, rfl⟩))
    (fun os started H enc _ => lifted os started H enc)

theorem proved : Rows.VlqShortSaid := over
#print axioms proved
end Go.Proofs.Ytgfhjhgahddmnaa.vlqShort
