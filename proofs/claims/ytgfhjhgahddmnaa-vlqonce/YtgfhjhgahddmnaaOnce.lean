/-
  The statement VlqOnce is proved: what is got of bytes is put as just the same bytes. For every slice of bytes; no condition.
-/
import Derived.Test.YtgfhjhgahddmnaaGall
import Derived.OpenShut
import Derived.ShutString
import Derived.ChangeOld
namespace Go.Proofs.Ytgfhjhgahddmnaa.vlqOnce
open Go.ChangeShapes Go.WideShapes Go.ChangeAt Go.RowKit
set_option linter.unusedVariables false

theorem byte_of {n : Int} (h : (Lit.int .u8 n).wf = true) : 0 ≤ n ∧ n ≤ 255 := by
  have := bounds_u8 h
  omega

theorem glue_ok {acc : List Int} {q : List Int × Int} (h : (glue acc q).2 = 0) : q.2 = 0 ∧ (glue acc q).1 = acc ++ q.1 := by
  unfold glue at h ⊢
  by_cases hq : q.2 = 0
  · simp [hq]
  · rw [if_neg hq] at h; exact absurd h hq

theorem ga_once : ∀ (f : Nat) (xs : List Int), (∀ x ∈ xs, 0 ≤ x ∧ x ≤ 255) → xs.length ≤ f → (ga f xs).2 = 0 → okAll (ga f xs).1 = true ∧ pb (ga f xs).1 = xs ∧ (ga f xs).1.length ≤ xs.length := by
  intro f
  induction f with
  | zero =>
    intro xs _ hl _
    have : xs = [] := List.length_eq_zero_iff.1 (by omega)
    subst this
    exact ⟨rfl, rfl, by simp [ga]⟩
  | succ f ih =>
    intro xs hb hl h
    by_cases hne : xs = []
    · subst hne; rw [ga_end]; exact ⟨rfl, rfl, by simp⟩
    · rcases gt_err xs 0 0 with hg | hg | hg
      · have e : gt 0 0 xs = ((gt 0 0 xs).1, (gt 0 0 xs).2.1, 0) := Prod.ext rfl (Prod.ext rfl hg)
        generalize (gt 0 0 xs).1 = n at e
        generalize (gt 0 0 xs).2.1 = k at e
        obtain ⟨k0, k1, n0, n1, hv⟩ := gt_once hb e
        rw [ga_on hne e] at h ⊢
        obtain ⟨h1, h2⟩ := glue_ok h
        obtain ⟨q1, q2, q3⟩ := ih (xs.drop k) (fun x hx => hb x (List.mem_of_mem_drop hx)) (by rw [List.length_drop]; omega) h1
        rw [h2]
        refine ⟨?_, ?_, ?_⟩
        · rw [okAll_append, q1]; simp [okAll, okB_yes n0 n1]
        · rw [pb_append, q2]
          have : pb [n] = vb n 0 := by simp [pb]
          rw [this, hv, List.take_append_drop]
        · rw [List.length_drop] at q3; simp; omega
      · rw [ga_bad hne hg (by decide)] at h; cases h
      · rw [ga_bad hne hg (by decide)] at h; cases h

theorem ga_none {f : Nat} {xs : List Int} (h : (ga f xs).2 ≠ 0) : (ga f xs).1 = [] := by
  have := ga_err f xs
  unfold glue at this
  rw [if_neg h] at this
  rw [← this]

set_option maxHeartbeats 400000 in
theorem walk (A0 : Option Addr) (c0 : Nat) (x0 : List Int) (w : World) (s0 : Sl w w.heap.size .u8 A0 x0) (m0 : x0.length ≤ c0) (b0 : ∀ n ∈ x0, (Lit.int .u8 n).wf = true) :
    Calls Try.prog 6 #[.slice A0 x0.length c0] w (UpPost w) := by
  have HA := Lib.hid (awake_any w)
  have HB : Hid (∀ n ∈ x0, 0 ≤ n ∧ n ≤ 255) := fun n hn => byte_of (b0 n hn)
  clear b0
  by_cases h0 : x0.length ≤ 3000
  · have HG : ∀ W : World, Below w.heap.size w W → Hid (Calls Try.prog 20 #[.slice A0 x0.length c0] W (PutPost W .i64 (ga x0.length x0).1 (ga x0.length x0).2)) := fun W hb =>
      getall_any A0 c0 x0 W (by omega) m0 ((s0.below hb).mono hb.size) HB.out
    by_cases h1 : (ga x0.length x0).2 = 0
    · obtain ⟨q1, q2, q3⟩ := ga_once x0.length x0 HB.out (Nat.le_refl _) h1
      rw [h1] at HG
      generalize (ga x0.length x0).1 = l at *
      have HP : ∀ (W : World) (A : Option Addr) (c : Nat), Sl W W.heap.size .i64 A l → Hid (Calls Try.prog 14 #[.slice A l.length c] W (PutPost W .u8 x0 0)) := fun W A c hs => by
        have := putall_yes A c l W (by omega) hs q1
        rw [q2] at this
        exact this
      clear h1 q1 q2 HB
      go_enter Try.func6, Try.ntmps6
      go_wp2_with (first | (go_at_call 11; refine HA.out.mono ?_; rintro e wa ⟨rfl, hba⟩) | (go_at_call 20; ((with_reducible refine (HG _ hba).out.mono ?_); rintro e wb ⟨A, c, rfl, ⟨hsl, hcap⟩, hbel⟩)) | (go_at_call 14; ((with_reducible refine (HP _ _ _ hsl).out.mono ?_); rintro e wc ⟨A', c', rfl, ⟨hsl', hcap'⟩, hbel'⟩; have hbb := hba.trans (hbel.mono hba.size); have hbc := hbb.trans (hbel'.mono hbb.size); have cv' := str_of hsl' c' wc (fun p hp => rfl); have cv0 := str_of s0 c0 wc (fun p hp => hbc.cell hp); clear hsl hsl')))
      go_ret
      exact ⟨rfl, hbc⟩
    · have hn := ga_none h1
      rw [hn] at HG
      have h2 : ((ga x0.length x0).2 == 0) = false := by rw [beq_eq_false_iff_ne]; exact h1
      generalize (ga x0.length x0).2 = er at *
      have h3 : (er != 0) = true := by simpa using h1
      clear h1 hn
      go_enter Try.func6, Try.ntmps6
      go_wp2_with (first | (go_at_call 11; refine HA.out.mono ?_; rintro e wa ⟨rfl, hba⟩) | (go_at_call 20; ((with_reducible refine (HG _ hba).out.mono ?_); rintro e wb ⟨A, c, rfl, ⟨hsl, hcap⟩, hbel⟩)))
      go_ret
      exact ⟨rfl, hba.trans (hbel.mono hba.size)⟩
  · have hd : 3000 < x0.length := by omega
    go_enter Try.func6, Try.ntmps6
    go_wp2_with (go_at_call 11; refine HA.out.mono ?_; rintro e wa ⟨rfl, hba⟩)
    go_ret
    exact ⟨rfl, hba⟩

theorem own : ownKnob Try.prog.godebug = none := by kernel_rfl
theorem laidOut : laidOutB Try.prog = true := by kernel_rfl

set_option maxRecDepth 100000 in
theorem lifted (os : Os) (started : os.Started) (H : Type) (enc : TypeId × Value → H) :
    ReturnsInHanded {} Try.checked os 6 .any (Rows.vlqOnceSpec.pre6 enc Try.prog Try.f6 Rows.vlqOnceRow.domain false) (Rows.vlqOnceSpec.post enc Try.prog Try.f6 false true false false) := by
  refine returnsInHanded_of_change (C := Try.checked) own started (by kernel_rfl) Try.func6
    (ChangeSpec.witness6 (enc := enc) (C := Try.checked) false ⟨#[], #[.slice none 0 0], []⟩ 8 (by kernel_rfl) (by kernel_rfl) (by kernel_rfl) (by kernel_rfl)) ?_
  intro W base args ds gs before hval0 hW hcnd _
  have hval : ∀ (j : Nat) t v, Try.f6.params[j]? = some t → args[j]? = some v → Value.okWide Try.prog W .any base t v := hval0
  have hW' := hW
  obtain ⟨p, q, hA0, hV, rfl, hfz, hnd⟩ := hW
  have hA : DataW.TrodAll enc Try.prog W 0 (fun _ => true) true Try.f6.params.toList args.toList ds p := hA0
  rw [Try.params6] at hA hval
  obtain ⟨v0, vs0, d0, ds0, p0, q0, hargs, rfl, rfl, h0, r0⟩ := trodAll_cons hA
  obtain ⟨rfl, rfl, rfl⟩ := trodAll_nil r0
  obtain rfl : args = #[v0] := by cases args; simp_all
  obtain ⟨rfl, rfl⟩ := trodVars_none hV
  obtain ⟨A0, len0, c0, rfl⟩ := okWide_slice Try.underlying24 (hval 0 24 v0 rfl rfl)
  have k0 := h0
  have lt0 : ∀ x ∈ p0, x.block < W.heap.size := by obtain ⟨m, hm⟩ := k0; exact DataW.trod_lt m _ _ _ hm
  obtain ⟨x0, e0, s0, m0, b0⟩ : ∃ xs : List Int, xs.length = len0 ∧ Sl W W.heap.size .u8 A0 xs ∧ len0 ≤ c0 ∧ ∀ n ∈ xs, (Lit.int .u8 n).wf = true := by
    obtain ⟨fuel, hf⟩ := h0
    rcases open_ints Try.underlying24 Try.underlying5 (by kernel_rfl) hf with ⟨hcs, _⟩ | ⟨x, l, c, zs, hcs, _, hl, hm, hz, _, hcell, hwz⟩
    · simp [Value.cells] at hcs
      obtain ⟨rfl, rfl, rfl⟩ := hcs
      exact ⟨[], rfl, Sl.nil, Nat.le_refl _, fun n hn => by cases hn⟩
    · simp [Value.cells] at hcs
      obtain ⟨rfl, rfl, rfl⟩ := hcs
      have hz' : zs.length = c0 := by simpa using hz
      exact ⟨zs.take _, by simp only [List.length_take]; omega, sl_of_cells hl hz' hcell, hl, fun n hn => hwz n (List.mem_of_mem_take hn)⟩
  subst e0
  clear hA0 hval0
  refine (walk A0 c0 x0 W s0 m0 b0).mono fun e W' ⟨he, bel⟩ => ?_
  subst he
  exact ⟨_, rfl, _, _, _, [], _, [], hW', trodAll_mk1 (shut_bool Try.underlying4 _), (trodAll_cons_mk (Below.trod laidOut (by kernel_rfl) (of_decide_eq_true (by kernel_rfl)) k0 bel lt0) trodAll_mk0), rfl, bel.frame _, fun h => by cases h⟩

theorem over : Rows.vlqOnceRow.holds Try.pinned (OpenSpec.ofChange Rows.vlqOnceSpec) :=
  OpenClaim.holds_of_wide 6 Try.f6 rfl rfl rfl rfl rfl rfl rfl ⟨rfl, rfl, rfl, rfl, rfl⟩ rfl rfl rfl rfl rfl (by kernel_rfl) Try.func6 (by kernel_rfl)
    (of_decide_eq_true (by kernel_rfl)) (by unfold Func.isWrapper; first | (rw [if_pos (by decide +kernel)]; kernel_rfl) | (rw [if_neg (by decide +kernel)]; exact ⟨rfl, rfl⟩))
    (fun os started H enc _ => lifted os started H enc)

theorem proved : Rows.VlqOnceSaid := over
#print axioms proved
end Go.Proofs.Ytgfhjhgahddmnaa.vlqOnce
