/-
  The statement VlqOrder is proved: of two numbers that may be the greater one has no fewer bytes, and if both have as many, its bytes come behind the other one's as texts. For every two ints; no condition.
-/
import Derived.Test.YtgfhjhgahddmnaaAwake
import Derived.OpenShut
import Derived.ShutString
import Derived.ChangeOld
namespace Go.Proofs.Ytgfhjhgahddmnaa.vlqOrder
open Go.ChangeShapes Go.WideShapes Go.ChangeAt Go.RowKit
set_option linter.unusedVariables false

theorem less_of (xs : List Int) : ∀ ys : List Int, (∀ x ∈ xs, 0 ≤ x ∧ x ≤ 255) → (∀ y ∈ ys, 0 ≤ y ∧ y ≤ 255) → ahead xs ys = true →
    Op.bytesLess (xs.map fun n => UInt8.ofNat n.toNat) (ys.map fun n => UInt8.ofNat n.toNat) = true := by
  induction xs with
  | nil => intro ys _ _ h; cases ys <;> simp_all [ahead, Op.bytesLess]
  | cons a r ih =>
    intro ys ha hb h
    cases ys with
    | nil => simp [ahead] at h
    | cons b s =>
      have h1 := ha a (List.mem_cons_self ..)
      have h2 := hb b (List.mem_cons_self ..)
      simp only [ahead, Bool.or_eq_true, Bool.and_eq_true, decide_eq_true_eq] at h
      simp only [List.map_cons, Op.bytesLess, Bool.or_eq_true, Bool.and_eq_true, decide_eq_true_eq, beq_iff_eq]
      rcases h with h | ⟨h, h'⟩
      · left
        rw [UInt8.lt_iff_toNat_lt, UInt8.toNat_ofNat', UInt8.toNat_ofNat']
        omega
      · right
        exact ⟨by rw [h], ih s (fun x hx => ha x (List.mem_cons_of_mem _ hx)) (fun x hx => hb x (List.mem_cons_of_mem _ hx)) h'⟩

theorem less_str {xs ys : List Int} (hx : ∀ x ∈ xs, 0 ≤ x ∧ x ≤ 255) (hy : ∀ y ∈ ys, 0 ≤ y ∧ y ≤ 255) (h : ahead xs ys = true) : Op.bytesLess (strOfNums xs).toList (strOfNums ys).toList = true := by
  have := less_of xs ys hx hy h
  simpa [strOfNums] using this

theorem walk (a0 a1 : Int) (w : World) (w0 : (Lit.int .i64 a0).wf = true) (w1 : (Lit.int .i64 a1).wf = true) : Calls Try.prog 7 #[.int .i64 a0, .int .i64 a1] w (UpPost w) := by
  have HA := Lib.hid (awake_any w)
  by_cases h0 : okB a0 = true
  · obtain ⟨p0, p1⟩ := okB_bd h0
    have HP0 : ∀ W : World, Hid (Calls Try.prog 12 #[.int .i64 a0] W (PutPost W .u8 (vb a0 0) 0)) := fun W => put_yes a0 W p0 p1
    by_cases h1 : okB a1 = true
    · obtain ⟨q0, q1⟩ := okB_bd h1
      have HP1 : ∀ W : World, Hid (Calls Try.prog 12 #[.int .i64 a1] W (PutPost W .u8 (vb a1 0) 0)) := fun W => put_yes a1 W q0 q1
      clear h0 h1
      have HL := Lib.hid (vb_byte a0 0 (by omega) (by omega))
      have HM := Lib.hid (vb_byte a1 0 (by omega) (by omega))
      have b0 : (vb a0 0).length ≤ 8 := vb_le8 p1
      have b1 : (vb a1 0).length ≤ 8 := vb_le8 q1
      by_cases hlt : a0 < a1
      · have HO := Lib.hid (vb_order a0 a1 0 p0 hlt)
        generalize vb a0 0 = xs at *
        generalize vb a1 0 = ys at *
        rcases HO.out with ho | ⟨ho, ho'⟩
        · clear HO HL HM
          go_enter Try.func7, Try.ntmps7
          go_wp2_with (first | (go_at_call 11; refine HA.out.mono ?_; rintro e wa ⟨rfl, hba⟩) | (go_at_call 12; ((with_reducible refine (HP0 _).out.mono ?_); rintro e wb ⟨A, c, rfl, ⟨hsl, hcap⟩, hbel⟩)) | (go_at_call 12; ((with_reducible refine (HP1 _).out.mono ?_); rintro e wc ⟨A', c', rfl, ⟨hsl', hcap'⟩, hbel'⟩)))
          go_ret
          exact ⟨rfl, hba.trans ((hbel.mono hba.size).trans (hbel'.mono (Nat.le_trans hba.size hbel.size)))⟩
        · have hless := less_str HL.out HM.out ho'
          have hnl : ¬ xs.length < ys.length := by omega
          have heq : ((xs.length : Int) == (ys.length : Int)) = true := by simp; omega
          clear HO HL HM ho ho'
          go_enter Try.func7, Try.ntmps7
          go_wp2_with (first | (go_at_call 11; refine HA.out.mono ?_; rintro e wa ⟨rfl, hba⟩) | (go_at_call 12; ((with_reducible refine (HP0 _).out.mono ?_); rintro e wb ⟨A, c, rfl, ⟨hsl, hcap⟩, hbel⟩)) | (go_at_call 12; ((with_reducible refine (HP1 _).out.mono ?_); rintro e wc ⟨A', c', rfl, ⟨hsl', hcap'⟩, hbel'⟩; have hcv := str_of hsl c wc (fun p hp => hbel'.cell hp); have hcv' := str_of hsl' c' wc (fun p hp => rfl))))
          go_ret
          exact ⟨rfl, hba.trans ((hbel.mono hba.size).trans (hbel'.mono (Nat.le_trans hba.size hbel.size)))⟩
      · have hge : a1 ≤ a0 := by omega
        clear HL HM
        generalize vb a0 0 = xs at *
        generalize vb a1 0 = ys at *
        go_enter Try.func7, Try.ntmps7
        go_wp2_with (first | (go_at_call 11; refine HA.out.mono ?_; rintro e wa ⟨rfl, hba⟩) | (go_at_call 12; ((with_reducible refine (HP0 _).out.mono ?_); rintro e wb ⟨A, c, rfl, ⟨hsl, hcap⟩, hbel⟩)) | (go_at_call 12; ((with_reducible refine (HP1 _).out.mono ?_); rintro e wc ⟨A', c', rfl, ⟨hsl', hcap'⟩, hbel'⟩)))
        go_ret
        exact ⟨rfl, hba.trans ((hbel.mono hba.size).trans (hbel'.mono (Nat.le_trans hba.size hbel.size)))⟩
    · have HP1 : ∀ W : World, Hid (Calls Try.prog 12 #[.int .i64 a1] W fun e w' => e = .returned (.tuple #[.slice none 0 0, .int .i64 1]) ∧ W = w') := fun W => put_no a1 W (okB_nb (by simpa using h1))
      clear h0 h1
      have b0 : (vb a0 0).length ≤ 8 := vb_le8 p1
      generalize vb a0 0 = xs at *
      go_enter Try.func7, Try.ntmps7
      go_wp2_with (first | (go_at_call 11; refine HA.out.mono ?_; rintro e wa ⟨rfl, hba⟩) | (go_at_call 12; ((with_reducible refine (HP0 _).out.mono ?_); rintro e wb ⟨A, c, rfl, ⟨hsl, hcap⟩, hbel⟩)) | (go_at_call 12; ((with_reducible refine (HP1 _).out.mono ?_); rintro e wc ⟨rfl, rfl⟩)))
      go_ret
      exact ⟨rfl, hba.trans (hbel.mono hba.size)⟩
  · have HP0 : ∀ W : World, Hid (Calls Try.prog 12 #[.int .i64 a0] W fun e w' => e = .returned (.tuple #[.slice none 0 0, .int .i64 1]) ∧ W = w') := fun W => put_no a0 W (okB_nb (by simpa using h0))
    have HP1 : ∀ W : World, Hid (Calls Try.prog 12 #[.int .i64 a1] W (fun e w' => ∃ v er, e = .returned (.tuple #[v, .int .i64 er]) ∧ Below W.heap.size W w')) := fun W => by
      by_cases h1 : okB a1 = true
      · obtain ⟨q0, q1⟩ := okB_bd h1
        exact (put_yes a1 W q0 q1).mono fun _ _ ⟨_, _, he, _, hb⟩ => ⟨_, _, he, hb⟩
      · exact (put_no a1 W (okB_nb (by simpa using h1))).mono fun _ _ ⟨he, hw⟩ => ⟨_, _, he, hw ▸ Below.refl _ _⟩
    clear h0
    go_enter Try.func7, Try.ntmps7
    go_wp2_with (first | (go_at_call 11; refine HA.out.mono ?_; rintro e wa ⟨rfl, hba⟩) | (go_at_call 12; ((with_reducible refine (HP0 _).out.mono ?_); rintro e wb ⟨rfl, rfl⟩)) | (go_at_call 12; ((with_reducible refine (HP1 _).out.mono ?_); rintro e wc ⟨v, er, rfl, hbel⟩)))
    go_ret
    exact ⟨rfl, hba.trans (hbel.mono hba.size)⟩

theorem own : ownKnob Try.prog.godebug = none := by kernel_rfl
theorem laidOut : laidOutB Try.prog = true := by kernel_rfl

set_option maxRecDepth 100000 in
theorem lifted (os : Os) (started : os.Started) (H : Type) (enc : TypeId × Value → H) :
    ReturnsInHanded {} Try.checked os 7 .any (Rows.vlqOrderSpec.pre6 enc Try.prog Try.f7 Rows.vlqOrderRow.domain false) (Rows.vlqOrderSpec.post enc Try.prog Try.f7 false true false false) := by
  refine returnsInHanded_of_change (C := Try.checked) own started (by kernel_rfl) Try.func7
    (ChangeSpec.witness6 (enc := enc) (C := Try.checked) false ⟨#[], #[.int .i64 0, .int .i64 0], []⟩ 8 (by kernel_rfl) (by kernel_rfl) (by kernel_rfl) (by kernel_rfl)) ?_
  intro W base args ds gs before hval0 hW hcnd _
  have hval : ∀ (j : Nat) t v, Try.f7.params[j]? = some t → args[j]? = some v → Value.okWide Try.prog W .any base t v := hval0
  have hW' := hW
  obtain ⟨p, q, hA0, hV, rfl, hfz, hnd⟩ := hW
  have hA : DataW.TrodAll enc Try.prog W 0 (fun _ => true) true Try.f7.params.toList args.toList ds p := hA0
  rw [Try.params7] at hA hval
  obtain ⟨v0, vs0, d0, ds0, p0, q0, hargs, rfl, rfl, h0, r0⟩ := trodAll_cons hA
  obtain ⟨v1, vs1, d1, ds1, p1, q1, rfl, rfl, rfl, h1, r1⟩ := trodAll_cons r0
  obtain ⟨rfl, rfl, rfl⟩ := trodAll_nil r1
  obtain rfl : args = #[v0, v1] := by cases args; simp_all
  obtain ⟨rfl, rfl⟩ := trodVars_none hV
  obtain ⟨a0, rfl, rfl, rfl, w0⟩ := open_int Try.underlying3 (hval 0 3 v0 rfl rfl) h0
  obtain ⟨a1, rfl, rfl, rfl, w1⟩ := open_int Try.underlying3 (hval 1 3 v1 rfl rfl) h1
  clear hA0 hval0
  refine (walk a0 a1 W w0 w1).mono fun e W' ⟨he, bel⟩ => ?_
  subst he
  exact ⟨_, rfl, _, _, _, [], _, [], hW', trodAll_mk1 (shut_bool Try.underlying4 _), (trodAll_cons_mk (shut_int Try.underlying3 w0) (trodAll_cons_mk (shut_int Try.underlying3 w1) trodAll_mk0)), rfl, bel.frame _, fun h => by cases h⟩

theorem over : Rows.vlqOrderRow.holds Try.pinned (OpenSpec.ofChange Rows.vlqOrderSpec) :=
  OpenClaim.holds_of_wide 7 Try.f7 rfl rfl rfl rfl rfl rfl rfl ⟨rfl, rfl, rfl, rfl, rfl⟩ rfl rfl rfl rfl rfl (by kernel_rfl) Try.func7 (by kernel_rfl)
    (of_decide_eq_true (by kernel_rfl)) (by unfold Func.isWrapper; first | (rw [if_pos (by decide +kernel)]; kernel_rfl) | (rw [if_neg (by decide +kernel)]; exact ⟨rfl, rfl⟩))
    (fun os started H enc _ => lifted os started H enc)

theorem proved : Rows.VlqOrderSaid := over
#print axioms proved
end Go.Proofs.Ytgfhjhgahddmnaa.vlqOrder
