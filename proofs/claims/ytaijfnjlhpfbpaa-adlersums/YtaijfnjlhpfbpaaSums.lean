/-
  The statement AdlerSums is proved: the sum of any bytes, and whether any number may be one, is what the document says. For every slice of bytes and every uint32; no condition.
-/
import Derived.Test.YtaijfnjlhpfbpaaBounds
import Derived.OpenShut
import Derived.ShutString
import Derived.ChangeOld
namespace Go.Proofs.Ytaijfnjlhpfbpaa.adlerSums
open Go.ChangeShapes Go.WideShapes Go.ChangeAt Go.RowKit
set_option linter.unusedVariables false

theorem walk (A0 : Option Addr) (c0 : Nat) (x0 : List Int) (a1 : Int) (w : World) (s0 : Sl w w.heap.size .u8 A0 x0) (b0 : ∀ n ∈ x0, (Lit.int .u8 n).wf = true) (w1 : (Lit.int .u32 a1).wf = true) :
    Calls Try.prog 3 #[.slice A0 x0.length c0, .int .u32 a1] w (UpPost w) := by
  have HA := Lib.hid (awake_any w)
  obtain ⟨p0, p1⟩ := word_of w1
  have HB := Lib.hid fun n hn => byte_of (b0 n hn)
  clear b0
  by_cases hl : x0.length ≤ 6000
  · obtain ⟨m0, m1⟩ := sm_bd x0
    have H1 : ∀ W, Below w.heap.size w W → Hid (Calls Try.prog 11 #[.slice A0 x0.length c0] W (U32Post W (sm x0))) := fun W hb => sum_any A0 c0 x0 W (by omega) ((s0.below hb).mono hb.size) HB.out
    have H2 : ∀ W, Below w.heap.size w W → Hid (Calls Try.prog 12 #[.slice A0 x0.length c0] W (IntPost W .u32 (sm x0))) := fun W hb => rsum_any A0 c0 x0 W _ (by omega) (s0.below hb) HB.out
    have H3 : ∀ W, Hid (Calls Try.prog 13 #[.int .u32 a1] W (MayPost W a1)) := fun W => may_any a1 W p0 p1
    have H4 : ∀ W, Hid (Calls Try.prog 14 #[.int .u32 a1] W fun e w' => e = .returned (.bool (may a1)) ∧ W = w') := fun W => rmay_any a1 W p0 p1
    have H5 : ∀ W, Hid (Calls Try.prog 13 #[.int .u32 (sm x0)] W fun e w' => e = .returned (.bool true) ∧ Below W.heap.size W w') := fun W => (may_any (sm x0) W m0 m1).mono fun e w' ⟨he, hb⟩ => ⟨by rw [he, sm_may], hb⟩
    generalize sm x0 = z at *
    go_enter Try.func3, Try.ntmps3
    go_wp2_with (first | (go_at_call 10; refine HA.out.mono ?_; rintro e wa ⟨rfl, hba⟩) | (go_at_call 12; ((with_reducible refine (H2 _ hbb).out.mono ?_); rintro e wc ⟨rfl, rfl⟩)) | (go_at_call 14; ((with_reducible refine (H4 _).out.mono ?_); rintro e wc ⟨rfl, rfl⟩)) | (go_at_call 13; ((with_reducible refine (H3 _).out.mono ?_); rintro e wd ⟨rfl, hd⟩; have hbd := hbb.trans (hd.mono hbb.size))) | (go_at_call 11; ((with_reducible refine (H1 _ hbd).out.mono ?_); rintro e wf ⟨rfl, hf⟩; have hbf := hbd.trans (hf.mono hbd.size))) | (go_at_call 11; ((with_reducible refine (H1 _ hba).out.mono ?_); rintro e wb ⟨rfl, hb⟩; have hbb := hba.trans (hb.mono hba.size))) | (go_at_call 13; ((with_reducible refine (H5 _).out.mono ?_); rintro e wg ⟨rfl, hg⟩; have hbg := hbf.trans (hg.mono hbf.size))))
    go_ret
    exact ⟨rfl, hbg⟩
  · have hd : 6000 < x0.length := by omega
    go_enter Try.func3, Try.ntmps3
    go_wp2_with (go_at_call 10; refine HA.out.mono ?_; rintro e wa ⟨rfl, hba⟩)
    go_ret
    exact ⟨rfl, hba⟩

theorem own : ownKnob Try.prog.godebug = none := by kernel_rfl
theorem laidOut : laidOutB Try.prog = true := by kernel_rfl

set_option maxRecDepth 100000 in
theorem lifted (os : Os) (started : os.Started) (H : Type) (enc : TypeId × Value → H) :
    ReturnsInHanded {} Try.checked os 3 .any (Rows.adlerSumsSpec.pre6 enc Try.prog Try.f3 Rows.adlerSumsRow.domain false) (Rows.adlerSumsSpec.post enc Try.prog Try.f3 false true false false) := by
  refine returnsInHanded_of_change (C := Try.checked) own started (by kernel_rfl) Try.func3
    (ChangeSpec.witness6 (enc := enc) (C := Try.checked) false ⟨#[], #[.slice none 0 0, .int .u32 0], []⟩ 8 (by kernel_rfl) (by kernel_rfl) (by kernel_rfl) (by kernel_rfl)) ?_
  intro W base args ds gs before hval0 hW hcnd _
  have hval : ∀ (j : Nat) t v, Try.f3.params[j]? = some t → args[j]? = some v → Value.okWide Try.prog W .any base t v := hval0
  have hW' := hW
  obtain ⟨p, q, hA0, hV, rfl, hfz, hnd⟩ := hW
  have hA : DataW.TrodAll enc Try.prog W 0 (fun _ => true) true Try.f3.params.toList args.toList ds p := hA0
  rw [Try.params3] at hA hval
  obtain ⟨v0, vs0, d0, ds0, p0, q0, hargs, rfl, rfl, h0, r0⟩ := trodAll_cons hA
  obtain ⟨v1, vs1, d1, ds1, p1, q1, rfl, rfl, rfl, h1, r1⟩ := trodAll_cons r0
  obtain ⟨rfl, rfl, rfl⟩ := trodAll_nil r1
  obtain rfl : args = #[v0, v1] := by cases args; simp_all
  obtain ⟨rfl, rfl⟩ := trodVars_none hV
  obtain ⟨A0, len0, c0, rfl⟩ := okWide_slice Try.underlying22 (hval 0 22 v0 rfl rfl)
  have k0 := h0
  have lt0 : ∀ x ∈ p0, x.block < W.heap.size := by obtain ⟨m, hm⟩ := k0; exact DataW.trod_lt m _ _ _ hm
  obtain ⟨x0, e0, s0, m0, b0⟩ : ∃ xs : List Int, xs.length = len0 ∧ Sl W W.heap.size .u8 A0 xs ∧ len0 ≤ c0 ∧ ∀ n ∈ xs, (Lit.int .u8 n).wf = true := by
    obtain ⟨fuel, hf⟩ := h0
    rcases open_ints Try.underlying22 Try.underlying5 (by kernel_rfl) hf with ⟨hcs, _⟩ | ⟨x, l, c, zs, hcs, _, hl, hm, hz, _, hcell, hwz⟩
    · simp [Value.cells] at hcs
      obtain ⟨rfl, rfl, rfl⟩ := hcs
      exact ⟨[], rfl, Sl.nil, Nat.le_refl _, fun n hn => by cases hn⟩
    · simp [Value.cells] at hcs
      obtain ⟨rfl, rfl, rfl⟩ := hcs
      have hz' : zs.length = c0 := by simpa using hz
      exact ⟨zs.take _, by simp only [List.length_take]; omega, sl_of_cells hl hz' hcell, hl, fun n hn => hwz n (List.mem_of_mem_take hn)⟩
  subst e0
  obtain ⟨a1, rfl, rfl, rfl, w1⟩ := open_int Try.underlying23 (hval 1 23 v1 rfl rfl) h1
  clear hA0 hval0
  refine (walk A0 c0 x0 a1 W s0 b0 w1).mono fun e W' ⟨he, bel⟩ => ?_
  subst he
  exact ⟨_, rfl, _, _, _, [], _, [], hW', trodAll_mk1 (shut_bool Try.underlying4 _), (trodAll_cons_mk (Below.trod laidOut (by kernel_rfl) (of_decide_eq_true (by kernel_rfl)) k0 bel lt0) (trodAll_cons_mk (shut_int Try.underlying23 w1) trodAll_mk0)), rfl, bel.frame _, fun h => by cases h⟩

theorem over : Rows.adlerSumsRow.holds Try.pinned (OpenSpec.ofChange Rows.adlerSumsSpec) :=
  OpenClaim.holds_of_wide 3 Try.f3 rfl rfl rfl rfl rfl rfl rfl ⟨rfl, rfl, rfl, rfl, rfl⟩ rfl rfl rfl rfl rfl (by kernel_rfl) Try.func3 (by kernel_rfl)
    (of_decide_eq_true (by kernel_rfl)) (by unfold Func.isWrapper; first | (rw [if_pos (by decide +kernel)]; kernel_rfl) | (rw [if_neg (by decide +kernel)]; exact ⟨rfl, rfl⟩))
    (fun os started H enc _ => lifted os started H enc)

theorem proved : Rows.AdlerSumsSaid := over
#print axioms proved
end Go.Proofs.Ytaijfnjlhpfbpaa.adlerSums
