/-
  The statement RecordLong is proved: a record has from six to nine bytes more than its body, and its body stands at its end. For every record; no condition.
-/
import Derived.Test.YtaghbokgcpkjjaaOpen
import Derived.OpenShut
import Derived.ShutString
import Derived.ChangeOld
namespace Go.Proofs.Ytaghbokgcpkjjaa.recordLong
open Go.ChangeShapes Go.WideShapes Go.ChangeAt Go.RowKit
set_option linter.unusedVariables false

theorem rb_tail (k : Int) (xs : List Int) : (rb k xs).drop ((rb k xs).length - xs.length) = xs := by
  have e : rb k xs = (vb k 0 ++ (vb (xs.length : Int) 0 ++ su (sm xs))) ++ xs := by rw [rb]; simp only [List.append_assoc]
  rw [e, List.length_append, Nat.add_sub_cancel, List.drop_left]

set_option maxHeartbeats 800000 in
theorem walk (a0 : Int) (A0 : Option Addr) (c0 : Nat) (x0 : List Int) (w : World) (w0 : -9223372036854775808 ≤ a0 ∧ a0 ≤ 9223372036854775807) (s0 : Sl w w.heap.size .u8 A0 x0) (m0 : x0.length ≤ c0) (b0 : ∀ n ∈ x0, 0 ≤ n ∧ n ≤ 255) :
    Calls Try.prog 9 #[.agg #[.int .i64 a0, .slice A0 x0.length c0]] w (UpPost w) := by
  have HA : ∀ W, Hid (Calls Try.prog 10 #[] W (UpPost W)) := fun W => awake_any W
  by_cases h0 : 1200 < x0.length
  · have hd : (1200 : Int) < (x0.length : Int) := by omega
    clear b0
    go_enter Try.func9, Try.ntmps9
    go_wp2_with (go_at_call 10; refine (HA _).out.mono ?_; rintro e wa ⟨rfl, hba⟩; have ca : wa.cell? ⟨w.heap.size, 1, none⟩ = some (.slice A0 x0.length c0) := (hba.cell (p := ⟨w.heap.size, 1, none⟩) (by simp)).trans (by simp))
    go_ret
    exact ⟨rfl, ((Below.refl _ _).alloc (Nat.le_refl _) _).trans (hba.mono (by simp))⟩
  · have hd : decide ((1200 : Int) < (x0.length : Int)) = false := by simp; omega
    obtain ⟨r, hr⟩ : ∃ r, pu a0 x0 = r := ⟨_, rfl⟩
    have HP : ∀ W, Below w.heap.size w W → Hid (Calls Try.prog 11 #[.agg #[.int .i64 a0, .slice A0 x0.length c0]] W (PutPost W .u8 r.1 r.2)) := fun W hb => put3_any a0 A0 c0 x0 W ((s0.below hb).mono hb.size) b0 r hr
    have BW : Below w.heap.size w (w.alloc (.cells #[.int .i64 a0, .slice A0 x0.length c0] 24)) := (Below.refl _ _).alloc (Nat.le_refl _) _
    have ZW : (w.alloc (.cells #[.int .i64 a0, .slice A0 x0.length c0] 24)).heap.size = w.heap.size + 1 := by simp
    have hc0 : (w.alloc (.cells #[.int .i64 a0, .slice A0 x0.length c0] 24)).cell? ⟨w.heap.size, 0, none⟩ = some (.int .i64 a0) := by simp
    have hc1 : (w.alloc (.cells #[.int .i64 a0, .slice A0 x0.length c0] 24)).cell? ⟨w.heap.size, 1, none⟩ = some (.slice A0 x0.length c0) := by simp
    by_cases he : r.2 = 0
    · have hk : ¬ (a0 < 0 ∨ 1048576 < a0) := fun q => by rw [pu_arg q] at hr; subst hr; simp at he
      have hl : ¬ 1024 < x0.length := fun q => by rw [pu_full hk q] at hr; subst hr; simp at he
      rw [pu_ok hk hl] at hr
      subst hr
      obtain ⟨y6, y9⟩ := rb_bd (k := a0) (b := x0) (by omega) (by omega)
      have ht := rb_tail a0 x0
      clear hk hl he b0
      generalize rb a0 x0 = ys at *
      obtain ⟨n, hn⟩ : ∃ n, ys.length - x0.length = n := ⟨_, rfl⟩
      rw [hn] at ht
      have hn6 : 6 ≤ n := by omega
      have hn9 : n ≤ 9 := by omega
      have hni : (ys.length : Int) - (x0.length : Int) = (n : Int) := by omega
      have hnl : ys.length - n = x0.length := by omega
      have g6 : (6 : Int) ≤ (n : Int) := by omega
      have g9 : (n : Int) ≤ 9 := by omega
      have hnn : n ≤ ys.length := by omega
      have HT := Lib.hid ht
      clear hn ht
      go_enter Try.func9, Try.ntmps9
      go_wp2_with fail
      refine (HA _).out.mono ?_
      rintro e wa ⟨rfl, hba⟩
      have qa := BW.trans (hba.mono BW.size)
      have sa := hba.size
      have ca0 : wa.cell? ⟨w.heap.size, 0, none⟩ = some (.int .i64 a0) := (hba.cell (p := ⟨w.heap.size, 0, none⟩) (by show w.heap.size < _; omega)).trans hc0
      have ca1 : wa.cell? ⟨w.heap.size, 1, none⟩ = some (.slice A0 x0.length c0) := (hba.cell (p := ⟨w.heap.size, 1, none⟩) (by show w.heap.size < _; omega)).trans hc1
      go_wp2_with fail
      refine (HP _ qa).out.mono ?_
      rintro e wb ⟨Ab, cb, rfl, ⟨hsb, hcb⟩, hbb⟩
      have qb := qa.trans (hbb.mono qa.size)
      have cb1 : wb.cell? ⟨w.heap.size, 1, none⟩ = some (.slice A0 x0.length c0) := (hbb.cell (p := ⟨w.heap.size, 1, none⟩) (by show w.heap.size < _; omega)).trans ca1
      obtain ⟨A', r1, r2, hs'⟩ := tail_run hsb cb n n rfl hnn hcb
      rw [HT.out] at hs'
      have v1 : ∀ m, (convert 22 9 (.slice A' x0.length (cb - n))).run Try.prog (wb.drewN m) = .ok (.string (strOfNums x0)) (wb.drewN m) := fun m => str_of hs' (cb - n) (wb.drewN m) (fun p _ => rfl)
      have v2 : ∀ m, (convert 22 9 (.slice A0 x0.length c0)).run Try.prog (wb.drewN m) = .ok (.string (strOfNums x0)) (wb.drewN m) := fun m => str_of (s0.below qb) c0 (wb.drewN m) (fun p _ => rfl)
      rw [hnl] at r1 r2
      clear hsb hs' HP HA hbb hba hc0 hc1 BW ca0 ca1 sa s0 qa ZW
      go_wp2_with fail
      go_quiet (fail)
      go_wp2
      go_ret
      exact ⟨rfl, below_drewN qb _⟩
    · obtain ⟨e, hre⟩ : ∃ e, r = ([], e) := by
        rw [← hr]; unfold pu
        split
        · exact ⟨_, rfl⟩
        · split
          · exact ⟨_, rfl⟩
          · rename_i q1 q2
            rw [← hr, pu_ok q1 q2] at he
            exact absurd rfl he
      subst hre
      have heb : (e == 0) = false := by rw [beq_eq_false_iff_ne]; exact he
      clear he hr b0
      go_enter Try.func9, Try.ntmps9
      go_wp2_with fail
      refine (HA _).out.mono ?_
      rintro e wa ⟨rfl, hba⟩
      have qa := BW.trans (hba.mono BW.size)
      have sa := hba.size
      have ca0 : wa.cell? ⟨w.heap.size, 0, none⟩ = some (.int .i64 a0) := (hba.cell (p := ⟨w.heap.size, 0, none⟩) (by show w.heap.size < _; omega)).trans hc0
      have ca1 : wa.cell? ⟨w.heap.size, 1, none⟩ = some (.slice A0 x0.length c0) := (hba.cell (p := ⟨w.heap.size, 1, none⟩) (by show w.heap.size < _; omega)).trans hc1
      go_wp2_with fail
      refine (HP _ qa).out.mono ?_
      rintro e wb ⟨Ab, cb, rfl, ⟨hsb, hcb⟩, hbb⟩
      have qb := qa.trans (hbb.mono qa.size)
      clear hsb HP HA hbb hba hc0 hc1 BW ca0 ca1 sa s0 qa ZW
      go_wp2
      go_ret
      exact ⟨rfl, qb⟩

theorem own : ownKnob Try.prog.godebug = none := by kernel_rfl
theorem laidOut : laidOutB Try.prog = true := by kernel_rfl

set_option maxRecDepth 100000 in
theorem lifted (os : Os) (started : os.Started) (H : Type) (enc : TypeId × Value → H) :
    ReturnsInHanded {} Try.checked os 9 .any (Rows.recordLongSpec.pre6 enc Try.prog Try.f9 Rows.recordLongRow.domain false) (Rows.recordLongSpec.post enc Try.prog Try.f9 false true false false) := by
  refine returnsInHanded_of_change (C := Try.checked) own started (by kernel_rfl) Try.func9
    (ChangeSpec.witness6 (enc := enc) (C := Try.checked) false ⟨#[], #[.agg #[.int .i64 0, .slice none 0 0]], []⟩ 8 (by kernel_rfl) (by kernel_rfl) (by kernel_rfl) (by kernel_rfl)) ?_
  intro W base args ds gs before hval0 hW hcnd _
  have hval : ∀ (j : Nat) t v, Try.f9.params[j]? = some t → args[j]? = some v → Value.okWide Try.prog W .any base t v := hval0
  have hW' := hW
  obtain ⟨p, q, hA0, hV, rfl, hfz, hnd⟩ := hW
  have hA : DataW.TrodAll enc Try.prog W 0 (fun _ => true) true Try.f9.params.toList args.toList ds p := hA0
  rw [Try.params9] at hA hval
  obtain ⟨v0, vs0, d0, ds0, p0, q0, hargs, rfl, rfl, h0, r0⟩ := trodAll_cons hA
  obtain ⟨rfl, rfl, rfl⟩ := trodAll_nil r0
  obtain rfl : args = #[v0] := by cases args; simp_all
  obtain ⟨rfl, rfl⟩ := trodVars_none hV
  have k0 := h0
  have lt0 : ∀ x ∈ p0, x.block < W.heap.size := by obtain ⟨m, hm⟩ := k0; exact DataW.trod_lt m _ _ _ hm
  obtain ⟨a0, A0, c0, x0, rfl, w0, s0, m0, b0⟩ := open_rec (hval 0 24 v0 rfl rfl) h0
  clear hA0 hval0
  refine (walk a0 A0 c0 x0 W w0 s0 m0 b0).mono fun e W' ⟨he, bel⟩ => ?_
  subst he
  exact ⟨_, rfl, _, _, _, [], _, [], hW', trodAll_mk1 (shut_bool Try.underlying4 _), (trodAll_cons_mk (Below.trod laidOut (by kernel_rfl) (of_decide_eq_true (by kernel_rfl)) k0 bel lt0) trodAll_mk0), rfl, bel.frame _, fun h => by cases h⟩

theorem over : Rows.recordLongRow.holds Try.pinned (OpenSpec.ofChange Rows.recordLongSpec) :=
  OpenClaim.holds_of_wide 9 Try.f9 rfl rfl rfl rfl rfl rfl rfl ⟨rfl, rfl, rfl, rfl, rfl⟩ rfl rfl rfl rfl rfl (by kernel_rfl) Try.func9 (by kernel_rfl)
    (of_decide_eq_true (by kernel_rfl)) (by unfold Func.isWrapper; first | (rw [if_pos (by decide +kernel)]; kernel_rfl) | (rw [if_neg (by decide +kernel)]; exact ⟨rfl, rfl⟩))
    (fun os started H enc _ => lifted os started H enc)

theorem proved : Rows.RecordLongSaid := over
#print axioms proved
end Go.Proofs.Ytaghbokgcpkjjaa.recordLong
