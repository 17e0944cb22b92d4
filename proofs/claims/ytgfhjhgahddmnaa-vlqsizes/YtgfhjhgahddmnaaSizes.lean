/-
  The statement VlqSizes is proved: a number has one byte more for each power of 128 that it reaches; all bytes but the last one are 128 or more, the last one is not. For every int; no condition.
-/
import Derived.Test.YtgfhjhgahddmnaaAwake
import Derived.OpenShut
import Derived.ShutString
import Derived.ChangeOld
namespace Go.Proofs.Ytgfhjhgahddmnaa.vlqSizes
open Go.ChangeShapes Go.WideShapes Go.ChangeAt Go.RowKit
set_option linter.unusedVariables false

theorem pow_hi : ∀ L, L ≤ 8 → wrap64 ((2 : Int) ^ (7 * L)) = 128 ^ L := by simp only [wrap64]; decide
theorem pow_lo : ∀ L, 0 < L → L ≤ 8 → wrap64 ((2 : Int) ^ (7 * L - 7)) = 128 ^ (L - 1) := by
  intro L h0 h
  have := pow_hi (L - 1) (by omega)
  rwa [show 7 * (L - 1) = 7 * L - 7 from by omega] at this

theorem walk (a0 : Int) (w : World) (w0 : (Lit.int .i64 a0).wf = true) : Calls Try.prog 9 #[.int .i64 a0] w (UpPost w) := by
  have HA := Lib.hid (awake_any w)
  by_cases h0 : okB a0 = true
  · obtain ⟨p0, p1⟩ := okB_bd h0
    have HP0 : ∀ W : World, Hid (Calls Try.prog 12 #[.int .i64 a0] W (PutPost W .u8 (vb a0 0) 0)) := fun W => put_yes a0 W p0 p1
    have HZ : ∀ W : World, Hid (Calls Try.prog 16 #[.int .i64 a0] W (fun e w' => e = .returned (.int .i64 ((vb a0 0).length : Int)) ∧ W = w')) := fun W => size_yes a0 W p0 p1
    clear h0
    have b0 : (vb a0 0).length ≤ 8 := vb_le8 p1
    have b1 := vb_pos a0 0
    have HS := Lib.hid (vb_shape a0 p0)
    have HQ := Lib.hid (vb_pow a0 0 p0)
    have HL := Lib.hid (vb_byte a0 0 (by omega) (by omega))
    generalize vb a0 0 = xs at *
    have hne : ((xs.length : Int) == 0) = false := by rw [beq_eq_false_iff_ne]; omega
    go_enter Try.func9, Try.ntmps9
    go_wp2_with (first | (go_at_call 11; refine HA.out.mono ?_; rintro e wa ⟨rfl, hba⟩) | (go_at_call 12; ((with_reducible refine (HP0 _).out.mono ?_); rintro e wb ⟨A, c, rfl, ⟨hsl, hcap⟩, hbel⟩)))
    go_loop [6] (fun i => ∃ k : Nat, k ≤ xs.length ∧ i = .int .i64 (k : Int)) (fun i => 8 - (intOf i).toNat)
    case atStart => exact ⟨0, by omega, rfl⟩
    case round =>
      obtain ⟨k, hk, rfl⟩ := hrel
      by_cases hlt : k < xs.length
      · obtain ⟨b, off, rfl, hb, hcell⟩ := hsl.at_ hlt
        have hs := HS.out k hlt
        have hbd := HL.out (xs.getD k 0) (by simp [List.getD, hlt])
        generalize xs.getD k 0 = c1 at *
        by_cases hc : c1 < 128
        · have he : ((k : Int) == (xs.length : Int) - 1) = true := by rw [hs] at hc; simp; omega
          have hd : decide (c1 < 128) = true := by simpa using hc
          clear hs hbd
          go_wp2
          go_round
          case rel => exact ⟨k + 1, by omega, by go_num⟩
          case measure => simp [intOf]; omega
        · have he : ((k : Int) == (xs.length : Int) - 1) = false := by rw [hs] at hc; simp; omega
          have hd : decide (c1 < 128) = false := by simpa using hc
          clear hs hbd
          go_wp2
          go_round
          case rel => exact ⟨k + 1, by omega, by go_num⟩
          case measure => simp [intOf]; omega
      · have t1 : decide (a0 < wrap64 (2 ^ (7 * xs.length))) = true := by rw [pow_hi _ b0]; simpa using HQ.out.1
        by_cases h1 : xs.length = 1
        · have t2 : ((xs.length : Int) == 1) = true := by simp [h1]
          have HH := Lib.hid h1
          clear h1
          go_wp2_with (go_at_call 16; refine (HZ _).out.mono ?_; rintro e wc ⟨rfl, rfl⟩)
          go_ret
          exact ⟨rfl, hba.trans (hbel.mono hba.size)⟩
        · have t2 : ((xs.length : Int) == 1) = false := by rw [beq_eq_false_iff_ne]; omega
          have t3 : decide (wrap64 (2 ^ (7 * xs.length - 7)) ≤ a0) = true := by rw [pow_lo _ b1 b0]; simpa using HQ.out.2.resolve_left h1
          clear h1
          go_wp2_with (go_at_call 16; refine (HZ _).out.mono ?_; rintro e wc ⟨rfl, rfl⟩)
          go_ret
          exact ⟨rfl, hba.trans (hbel.mono hba.size)⟩
  · have HP0 : ∀ W : World, Hid (Calls Try.prog 12 #[.int .i64 a0] W fun e w' => e = .returned (.tuple #[.slice none 0 0, .int .i64 1]) ∧ W = w') := fun W => put_no a0 W (okB_nb (by simpa using h0))
    have HZ : ∀ W : World, Hid (Calls Try.prog 16 #[.int .i64 a0] W fun e w' => e = .returned (.int .i64 0) ∧ W = w') := fun W => size_no a0 W (okB_nb (by simpa using h0))
    clear h0
    go_enter Try.func9, Try.ntmps9
    go_wp2_with (first | (go_at_call 11; refine HA.out.mono ?_; rintro e wa ⟨rfl, hba⟩) | (go_at_call 12; ((with_reducible refine (HP0 _).out.mono ?_); rintro e wb ⟨rfl, rfl⟩)) | (go_at_call 16; refine (HZ _).out.mono ?_; rintro e wc ⟨rfl, rfl⟩))
    go_ret
    exact ⟨rfl, hba⟩

theorem own : ownKnob Try.prog.godebug = none := by kernel_rfl
theorem laidOut : laidOutB Try.prog = true := by kernel_rfl

set_option maxRecDepth 100000 in
theorem lifted (os : Os) (started : os.Started) (H : Type) (enc : TypeId × Value → H) :
    ReturnsInHanded {} Try.checked os 9 .any (Rows.vlqSizesSpec.pre6 enc Try.prog Try.f9 Rows.vlqSizesRow.domain false) (Rows.vlqSizesSpec.post enc Try.prog Try.f9 false true false false) := by
  refine returnsInHanded_of_change (C := Try.checked) own started (by kernel_rfl) Try.func9
    (ChangeSpec.witness6 (enc := enc) (C := Try.checked) false ⟨#[], #[.int .i64 0], []⟩ 8 (by kernel_rfl) (by kernel_rfl) (by kernel_rfl) (by kernel_rfl)) ?_
  intro W base args ds gs before hval0 hW hcnd _
  have hval : ∀ (j : Nat) t v, Try.f9.params[j]? = some t → args[j]? = some v → Value.okWide Try.prog W .any base t v := hval0
  have hW' := hW
  obtain ⟨p, q, hA0, hV, rfl, hfz, hnd⟩ := hW
  have hA : DataW.TrodAll enc Try.prog W 0 (fun _ => true) true Try.f9.params.toList args.toList ds p := hA0
  rw [Try.params9] at hA hval
  obtain ⟨v0, vs0, d0, ds0, p0, q0, hargs, rfl, rfl, h0, r0⟩ := trodAll_cons hA
  obtain ⟨rfl, rfl, rfl⟩ := trodAll_nil r0
  obtain rfl : args = #[v0] := by cases args; simp_all
  obtain ⟨rfl, rfl⟩ := trodVars_none hV
  obtain ⟨a0, rfl, rfl, rfl, w0⟩ := open_int Try.underlying3 (hval 0 3 v0 rfl rfl) h0
  clear hA0 hval0
  refine (walk a0 W w0).mono fun e W' ⟨he, bel⟩ => ?_
  subst he
  exact ⟨_, rfl, _, _, _, [], _, [], hW', trodAll_mk1 (shut_bool Try.underlying4 _), (trodAll_cons_mk (shut_int Try.underlying3 w0) trodAll_mk0), rfl, bel.frame _, fun h => by cases h⟩

theorem over : Rows.vlqSizesRow.holds Try.pinned (OpenSpec.ofChange Rows.vlqSizesSpec) :=
  OpenClaim.holds_of_wide 9 Try.f9 rfl rfl rfl rfl rfl rfl rfl ⟨rfl, rfl, rfl, rfl, rfl⟩ rfl rfl rfl rfl rfl (by kernel_rfl) Try.func9 (by kernel_rfl)
    (of_decide_eq_true (by kernel_rfl)) (by unfold Func.isWrapper; first | (rw [if_pos (by decide +kernel)]; kernel_rfl) | (rw [if_neg (by decide +kernel)]; exact ⟨rfl, rfl⟩))
    (fun os started H enc _ => lifted os started H enc)

theorem proved : Rows.VlqSizesSaid := over
#print axioms proved
end Go.Proofs.Ytgfhjhgahddmnaa.vlqSizes
