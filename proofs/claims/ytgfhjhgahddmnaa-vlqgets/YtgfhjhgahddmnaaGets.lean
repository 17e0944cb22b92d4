/-
  The statement VlqGets is proved: any bytes begin with the number, or are refused with the error, that the document says; so are all their numbers. For every slice of bytes; no condition.
-/
import Derived.Test.YtgfhjhgahddmnaaSame
import Derived.OpenShut
import Derived.ShutString
import Derived.ChangeOld
namespace Go.Proofs.Ytgfhjhgahddmnaa.vlqGets
open Go.ChangeShapes Go.WideShapes Go.ChangeAt Go.RowKit
set_option linter.unusedVariables false

theorem ga_len : ∀ (f : Nat) (xs : List Int), (ga f xs).1.length ≤ f := by
  intro f
  induction f with
  | zero => intro xs; simp [ga]
  | succ f ih =>
    intro xs
    rw [ga]
    have := ih (xs.drop (gt 0 0 xs).2.1)
    split
    · simp
    · split
      · split
        · simp; omega
        · simp
      · simp

set_option maxHeartbeats 800000 in
theorem walk (A0 : Option Addr) (c0 : Nat) (x0 : List Int) (w : World) (s0 : Sl w w.heap.size .u8 A0 x0) (m0 : x0.length ≤ c0) (b0 : ∀ n ∈ x0, (Lit.int .u8 n).wf = true) :
    Calls Try.prog 4 #[.slice A0 x0.length c0] w (UpPost w) := by
  have HA := Lib.hid (awake_any w)
  have HB : Hid (∀ n ∈ x0, 0 ≤ n ∧ n ≤ 255) := fun n hn => bounds_u8 (b0 n hn)
  clear b0
  by_cases h0 : x0.length ≤ 3000
  · have HG : ∀ W : World, Below w.heap.size w W → Hid (Calls Try.prog 20 #[.slice A0 x0.length c0] W (PutPost W .i64 (ga x0.length x0).1 (ga x0.length x0).2)) := fun W hb =>
      getall_any A0 c0 x0 W (by omega) m0 ((s0.below hb).mono hb.size) HB.out
    have HR : ∀ W : World, Below w.heap.size w W → Hid (Calls Try.prog 21 #[.slice A0 x0.length c0] W (PutPost W .i64 (ga x0.length x0).1 (ga x0.length x0).2)) := fun W hb =>
      rgetall_any A0 c0 x0 W (by omega) m0 ((s0.below hb).mono hb.size) HB.out
    have HG1 : ∀ W : World, Below w.heap.size w W → Hid (Calls Try.prog 18 #[.slice A0 x0.length c0] W (fun e w' => e = .returned (.tuple #[.int .i64 (gt 0 0 x0).1, .int .i64 ((gt 0 0 x0).2.1 : Int), .int .i64 (gt 0 0 x0).2.2]) ∧ W = w')) := fun W hb =>
      get_any A0 c0 x0 W W.heap.size (by omega) ((s0.below hb).mono hb.size) HB.out
    have HR1 : ∀ W : World, Below w.heap.size w W → Hid (Calls Try.prog 19 #[.slice A0 x0.length c0] W (fun e w' => e = .returned (.tuple #[.int .i64 (gt 0 0 x0).1, .int .i64 ((gt 0 0 x0).2.1 : Int), .int .i64 (gt 0 0 x0).2.2]) ∧ W = w')) := fun W hb =>
      rget_any A0 c0 x0 W W.heap.size (by omega) ((s0.below hb).mono hb.size) HB.out
    have hlen := ga_len x0.length x0
    generalize (ga x0.length x0).1 = l at *
    generalize (ga x0.length x0).2 = er at *
    generalize (gt 0 0 x0).1 = r1 at *
    generalize (gt 0 0 x0).2.1 = r2 at *
    generalize (gt 0 0 x0).2.2 = r3 at *
    have HS : ∀ (W : World) (A A' : Option Addr) (c c' : Nat), Sl W W.heap.size .i64 A l → Sl W W.heap.size .i64 A' l → Hid (Calls Try.prog 22 #[.slice A l.length c, .slice A' l.length c'] W (UpPost W)) := fun W A A' c c' h h' =>
      same_any A A' c c' l W (by omega) h h'
    go_enter Try.func4, Try.ntmps4
    go_wp2_with (first | (go_at_call 11; refine HA.out.mono ?_; rintro e wa ⟨rfl, hba⟩) | (go_at_call 18; ((with_reducible refine (HG1 _ hba).out.mono ?_); rintro e w' ⟨rfl, rfl⟩)) | (go_at_call 19; ((with_reducible refine (HR1 _ hba).out.mono ?_); rintro e w' ⟨rfl, rfl⟩)) | (go_at_call 20; ((with_reducible refine (HG _ hba).out.mono ?_); rintro e wb ⟨A, c, rfl, ⟨hsl, hcap⟩, hbel⟩; have hbb := hba.trans (hbel.mono hba.size))) | (go_at_call 21; ((with_reducible refine (HR _ hbb).out.mono ?_); rintro e wc ⟨A', c', rfl, ⟨hsl', hcap'⟩, hbel'⟩; have hbc := hbb.trans (hbel'.mono hbb.size))) | (go_at_call 22; ((with_reducible refine (HS _ _ _ _ _ ((hsl.below hbel').mono hbel'.size) hsl').out.mono ?_); rintro e wd ⟨rfl, hbd⟩)))
    go_ret
    exact ⟨rfl, hbc.trans (hbd.mono hbc.size)⟩
  · have hd : 3000 < x0.length := by omega
    go_enter Try.func4, Try.ntmps4
    go_wp2_with (go_at_call 11; refine HA.out.mono ?_; rintro e wa ⟨rfl, hba⟩)
    go_ret
    exact ⟨rfl, hba⟩

theorem own : ownKnob Try.prog.godebug = none := by kernel_rfl
theorem laidOut : laidOutB Try.prog = true := by kernel_rfl

set_option maxRecDepth 100000 in
theorem lifted (os : Os) (started : os.Started) (H : Type) (enc : TypeId × Value → H) :
    ReturnsInHanded {} Try.checked os 4 .any (Rows.vlqGetsSpec.pre6 enc Try.prog Try.f4 Rows.vlqGetsRow.domain false) (Rows.vlqGetsSpec.post enc Try.prog Try.f4 false true false false) := by
  refine returnsInHanded_of_change (C := Try.checked) own started (by kernel_rfl) Try.func4
    (ChangeSpec.witness6 (enc := enc) (C := Try.checked) false ⟨#[], #[.slice none 0 0], []⟩ 8 (by kernel_rfl) (by kernel_rfl) (by kernel_rfl) (by kernel_rfl)) ?_
  intro W base args ds gs before hval0 hW hcnd _
  have hval : ∀ (j : Nat) t v, Try.f4.params[j]? = some t → args[j]? = some v → Value.okWide Try.prog W .any base t v := hval0
  have hW' := hW
  obtain ⟨p, q, hA0, hV, rfl, hfz, hnd⟩ := hW
  have hA : DataW.TrodAll enc Try.prog W 0 (fun _ => true) true Try.f4.params.toList args.toList ds p := hA0
  rw [Try.params4] at hA hval
  obtain ⟨v0, vs0, d0, ds0, p0, q0, hargs, rfl, rfl, h0, r0⟩ := trodAll_cons hA
  obtain ⟨rfl, rfl, rfl⟩ := trodAll_nil r0
  obtain rfl : args = #[v0] := by cases args; simp_all
  obtain ⟨rfl, rfl⟩ := trodVars_none hV
  obtain ⟨A0, len0, c0, rfl⟩ := okWide_slice Try.underlying24 (hval 0 24 v0 rfl rfl)
  have k0 := h0
  have lt0 : ∀ x ∈ p0, x.block < W.heap.size := by obtain ⟨m, hm⟩ := k0; exact DataW.trod_lt m _ _ _ hm
  obtain ⟨x0, e0, s0, m0, b0⟩ : ∃ xs : List Int, xs.length = len0 ∧ Sl W W.heap.size .u8 A0 xs ∧ len0 ≤ c0 ∧ ∀ n ∈ xs, (Lit.int .u8 n).wf = true := by
    obtain ⟨fuel, hf⟩ := h0
    rcases open_ints Try.underlying24 Try.underlying5 (by kernel_rfl) hf with ⟨hcs, _⟩ | ⟨x, l, c, zs, hcs, _, hl, hm, hz, _, hcell, hwz⟩
    · simp [Value.cells] at hcs
      obtain ⟨rfl, rfl, rfl⟩ := hcs
      exact ⟨[], rfl, Sl.nil, Nat.le_refl _, fun n hn => by cases hn⟩
    · simp [Value.cells] at hcs
      obtain ⟨rfl, rfl, rfl⟩ := hcs
      have hz' : zs.length = c0 := by simpa using hz
      exact ⟨zs.take _, by simp only [List.length_take]; omega, sl_of_cells hl hz' hcell, hl, fun n hn => hwz n (List.mem_of_mem_take hn)⟩
  subst e0
  clear hA0 hval0
  refine (walk A0 c0 x0 W s0 m0 b0).mono fun e W' ⟨he, bel⟩ => ?_
  subst he
  exact ⟨_, rfl, _, _, _, [], _, [], hW', trodAll_mk1 (shut_bool Try.underlying4 _), (trodAll_cons_mk (Below.trod laidOut (by kernel_rfl) (of_decide_eq_true (by kernel_rfl)) k0 bel lt0) trodAll_mk0), rfl, bel.frame _, fun h => by cases h⟩

theorem over : Rows.vlqGetsRow.holds Try.pinned (OpenSpec.ofChange Rows.vlqGetsSpec) :=
  OpenClaim.holds_of_wide 4 Try.f4 rfl rfl rfl rfl rfl rfl rfl ⟨rfl, rfl, rfl, rfl, rfl⟩ rfl rfl rfl rfl rfl (by kernel_rfl) Try.func4 (by kernel_rfl)
    (of_decide_eq_true (by kernel_rfl)) (by unfold Func.isWrapper; first | (rw [if_pos (by decide +kernel)]; kernel_rfl) | (rw [if_neg (by decide +kernel)]; exact ⟨rfl, rfl⟩))
    (fun os started H enc _ => lifted os started H enc)

theorem proved : Rows.VlqGetsSaid := over
#print axioms proved
end Go.Proofs.Ytgfhjhgahddmnaa.vlqGets
