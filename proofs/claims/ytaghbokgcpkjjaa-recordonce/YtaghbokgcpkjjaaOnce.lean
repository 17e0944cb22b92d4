/-
  The statement RecordOnce is proved: a record that is got is put as just the bytes that it was got from. For every slice of bytes; no condition.
-/
import Derived.Test.YtaghbokgcpkjjaaSlices
import Derived.OpenShut
import Derived.ShutString
import Derived.ChangeOld
namespace Go.Proofs.Ytaghbokgcpkjjaa.recordOnce
open Go.ChangeShapes Go.WideShapes Go.ChangeAt Go.RowKit
set_option linter.unusedVariables false

set_option maxHeartbeats 800000 in
theorem walk (A0 : Option Addr) (c0 : Nat) (x0 : List Int) (w : World) (s0 : Sl w w.heap.size .u8 A0 x0) (m0 : x0.length ≤ c0) (b0 : ∀ n ∈ x0, (Lit.int .u8 n).wf = true) :
    Calls Try.prog 6 #[.slice A0 x0.length c0] w (UpPost w) := by
  have HA : ∀ W, Hid (Calls Try.prog 10 #[] W (UpPost W)) := fun W => awake_any W
  have bx : ∀ n ∈ x0, 0 ≤ n ∧ n ≤ 255 := fun n hn => byte_of (b0 n hn)
  clear b0
  by_cases h0 : 4000 < x0.length
  · have hd : (4000 : Int) < (x0.length : Int) := by omega
    clear bx
    go_enter Try.func6, Try.ntmps6
    go_wp2_with (go_at_call 10; refine (HA _).out.mono ?_; rintro e wa ⟨rfl, hba⟩)
    go_ret
    exact ⟨rfl, hba⟩
  · have hd : decide ((4000 : Int) < (x0.length : Int)) = false := by simp; omega
    have HG : ∀ W, Below w.heap.size w W → Hid (Calls Try.prog 13 #[.slice A0 x0.length c0] W (RgPost W (rg x0))) := fun W hb => rget3_any A0 c0 x0 W (by omega) m0 ((s0.below hb).mono hb.size) bx
    rcases hg : rg x0 with ⟨k, b, n, e⟩
    rw [hg] at HG
    by_cases he : e = 0
    · subst he
      obtain ⟨k0, k1, hl, n0, n1, hrb, hbb⟩ := rg_once bx hg
      have HP : ∀ W A c, Sl W W.heap.size .u8 A b → Hid (Calls Try.prog 11 #[.agg #[.int .i64 k, .slice A b.length c]] W (PutPost W .u8 (x0.take n) 0)) := fun W A c hs =>
        put3_any k A c b W hs hbb (x0.take n, 0) (by rw [pu_ok (by omega) (by omega), hrb])
      have hnt : (x0.take n).length = n := by rw [List.length_take]; omega
      have hn1 : (n : Int) ≤ (x0.length : Int) := by omega
      obtain ⟨A', r1, r2, hs'⟩ := head_run s0 c0 n n rfl n1 m0
      clear bx hg hrb hbb
      generalize x0.take n = ys at *
      go_enter Try.func6, Try.ntmps6
      go_wp2_with fail
      refine (HA _).out.mono ?_
      rintro e wa ⟨rfl, hba⟩
      go_wp2_with fail
      refine (HG _ hba).out.mono ?_
      rintro e wb ⟨Ab, cb, rfl, hsb, hcb, hbb⟩
      have qb := hba.trans (hbb.mono hba.size)
      go_wp2_with fail
      have sB := ((hsb.below ((Below.refl wb.heap.size wb).alloc (Nat.le_refl _) (.cells #[.int .i64 k, .slice Ab b.length cb] 24))).mono (B' := wb.heap.size + 1) (by omega))
      refine (HP _ Ab cb (by simpa using sB)).out.mono ?_
      rintro e wc ⟨Ac, cc, rfl, ⟨hsc, hcc⟩, hbc⟩
      have qc := (qb.alloc qb.size (.cells #[.int .i64 k, .slice Ab b.length cb] 24)).trans (hbc.mono (by have := qb.size; simp; omega))
      have v1 : ∀ m, (convert 22 9 (.slice A' n c0)).run Try.prog (wc.drewN m) = .ok (.string (strOfNums ys)) (wc.drewN m) := fun m => by
        have := str_of (hs'.below qc) c0 (wc.drewN m) (fun p _ => rfl)
        rw [hnt] at this
        exact this
      have v2 : ∀ m, (convert 22 9 (.slice Ac n cc)).run Try.prog (wc.drewN m) = .ok (.string (strOfNums ys)) (wc.drewN m) := fun m => by
        have := str_of hsc cc (wc.drewN m) (fun p _ => rfl)
        rw [hnt] at this
        exact this
      rw [hnt]
      clear HG HP HA hba hbb hbc hsb hsc sB hs' s0 qb
      go_wp2_with fail
      go_quiet (fail)
      go_wp2
      go_ret
      exact ⟨rfl, below_drewN qc _⟩
    · have hz := rg_err x0
      rw [hg] at hz
      have hz' : (k, b, n, e) = ((0 : Int), ([] : List Int), (0 : Nat), e) := by
        rcases hz with hz | hz
        · exact absurd hz he
        · exact hz
      simp only [Prod.mk.injEq, and_true] at hz'
      obtain ⟨rfl, rfl, rfl⟩ := hz'
      have heb : (e == 0) = false := by rw [beq_eq_false_iff_ne]; exact he
      clear hz hg bx he
      go_enter Try.func6, Try.ntmps6
      go_wp2_with fail
      refine (HA _).out.mono ?_
      rintro e wa ⟨rfl, hba⟩
      go_wp2_with fail
      refine (HG _ hba).out.mono ?_
      rintro e wb ⟨Ab, cb, rfl, hsb, hcb, hbb⟩
      have qb := hba.trans (hbb.mono hba.size)
      clear HG HA hba hbb hsb
      go_wp2
      go_ret
      exact ⟨rfl, qb.alloc qb.size _⟩

theorem own : ownKnob Try.prog.godebug = none := by kernel_rfl
theorem laidOut : laidOutB Try.prog = true := by kernel_rfl

set_option maxRecDepth 100000 in
theorem lifted (os : Os) (started : os.Started) (H : Type) (enc : TypeId × Value → H) :
    ReturnsInHanded {} Try.checked os 6 .any (Rows.recordOnceSpec.pre6 enc Try.prog Try.f6 Rows.recordOnceRow.domain false) (Rows.recordOnceSpec.post enc Try.prog Try.f6 false true false false) := by
  refine returnsInHanded_of_change (C := Try.checked) own started (by kernel_rfl) Try.func6
    (ChangeSpec.witness6 (enc := enc) (C := Try.checked) false ⟨#[], #[.slice none 0 0], []⟩ 8 (by kernel_rfl) (by kernel_rfl) (by kernel_rfl) (by kernel_rfl)) ?_
  intro W base args ds gs before hval0 hW hcnd _
  have hval : ∀ (j : Nat) t v, Try.f6.params[j]? = some t → args[j]? = some v → Value.okWide Try.prog W .any base t v := hval0
  have hW' := hW
  obtain ⟨p, q, hA0, hV, rfl, hfz, hnd⟩ := hW
  have hA : DataW.TrodAll enc Try.prog W 0 (fun _ => true) true Try.f6.params.toList args.toList ds p := hA0
  rw [Try.params6] at hA hval
  obtain ⟨v0, vs0, d0, ds0, p0, q0, hargs, rfl, rfl, h0, r0⟩ := trodAll_cons hA
  obtain ⟨rfl, rfl, rfl⟩ := trodAll_nil r0
  obtain rfl : args = #[v0] := by cases args; simp_all
  obtain ⟨rfl, rfl⟩ := trodVars_none hV
  obtain ⟨A0, len0, c0, rfl⟩ := okWide_slice Try.underlying22 (hval 0 22 v0 rfl rfl)
  have k0 := h0
  have lt0 : ∀ x ∈ p0, x.block < W.heap.size := by obtain ⟨m, hm⟩ := k0; exact DataW.trod_lt m _ _ _ hm
  obtain ⟨x0, e0, s0, m0, b0⟩ : ∃ xs : List Int, xs.length = len0 ∧ Sl W W.heap.size .u8 A0 xs ∧ len0 ≤ c0 ∧ ∀ n ∈ xs, (Lit.int .u8 n).wf = true := by
    obtain ⟨fuel, hf⟩ := h0
    rcases open_ints Try.underlying22 Try.underlying5 (by kernel_rfl) hf with ⟨hcs, _⟩ | ⟨x, l, c, zs, hcs, _, hl, hm, hz, _, hcell, hwz⟩
    · simp [Value.cells] at hcs
      obtain ⟨rfl, rfl, rfl⟩ := hcs
      exact ⟨[], rfl, Sl.nil, Nat.le_refl _, fun n hn => by cases hn⟩
    · simp [Value.cells] at hcs
      obtain ⟨rfl, rfl, rfl⟩ := hcs
      have hz' : zs.length = c0 := by simpa using hz
      exact ⟨zs.take _, by simp only [List.length_take]; omega, sl_of_cells hl hz' hcell, hl, fun n hn => hwz n (List.mem_of_mem_take hn)⟩
  subst e0
  clear hA0 hval0
  refine (walk A0 c0 x0 W s0 m0 b0).mono fun e W' ⟨he, bel⟩ => ?_
  subst he
  exact ⟨_, rfl, _, _, _, [], _, [], hW', trodAll_mk1 (shut_bool Try.underlying4 _), (trodAll_cons_mk (Below.trod laidOut (by kernel_rfl) (of_decide_eq_true (by kernel_rfl)) k0 bel lt0) trodAll_mk0), rfl, bel.frame _, fun h => by cases h⟩

theorem over : Rows.recordOnceRow.holds Try.pinned (OpenSpec.ofChange Rows.recordOnceSpec) :=
  OpenClaim.holds_of_wide 6 Try.f6 rfl rfl rfl rfl rfl rfl rfl ⟨rfl, rfl, rfl, rfl, rfl⟩ rfl rfl rfl rfl rfl (by kernel_rfl) Try.func6 (by kernel_rfl)
    (of_decide_eq_true (by kernel_rfl)) (by unfold Func.isWrapper; first | (rw [if_pos (by decide +kernel)]; kernel_rfl) | (rw [if_neg (by decide +kernel)]; exact ⟨rfl, rfl⟩))
    (fun os started H enc _ => lifted os started H enc)

theorem proved : Rows.RecordOnceSaid := over
#print axioms proved
end Go.Proofs.Ytaghbokgcpkjjaa.recordOnce
