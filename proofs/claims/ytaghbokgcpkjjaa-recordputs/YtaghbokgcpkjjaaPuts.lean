/-
  The statement RecordPuts is proved: any record is the bytes, or refused, as the document says. For every record; no condition.
-/
import Derived.Test.YtaghbokgcpkjjaaRput3
import Derived.OpenShut
import Derived.ShutString
import Derived.ChangeOld
namespace Go.Proofs.Ytaghbokgcpkjjaa.recordPuts
open Go.ChangeShapes Go.WideShapes Go.ChangeAt Go.RowKit
set_option linter.unusedVariables false

set_option maxHeartbeats 800000 in
theorem walk (a0 : Int) (A0 : Option Addr) (c0 : Nat) (x0 : List Int) (w : World) (w0 : -9223372036854775808 ≤ a0 ∧ a0 ≤ 9223372036854775807) (s0 : Sl w w.heap.size .u8 A0 x0) (m0 : x0.length ≤ c0) (b0 : ∀ n ∈ x0, 0 ≤ n ∧ n ≤ 255) :
    Calls Try.prog 3 #[.agg #[.int .i64 a0, .slice A0 x0.length c0]] w (UpPost w) := by
  have HA : ∀ W, Hid (Calls Try.prog 10 #[] W (UpPost W)) := fun W => awake_any W
  have BW : Below w.heap.size w (w.alloc (.cells #[.int .i64 a0, .slice A0 x0.length c0] 24)) := (Below.refl _ _).alloc (Nat.le_refl _) _
  have RB := rbox_new w a0 A0 x0.length c0
  by_cases h0 : 1200 < x0.length
  · have hd : (1200 : Int) < (x0.length : Int) := by omega
    clear b0
    go_enter Try.func3, Try.ntmps3
    go_wp2_with (go_at_call 10; refine (HA _).out.mono ?_; rintro e wa ⟨rfl, hba⟩; have qa := BW.trans (hba.mono BW.size); obtain ⟨ca0, ca1, ca2⟩ := rbox_on RB hba)
    go_ret
    exact ⟨rfl, qa⟩
  · have hd : decide ((1200 : Int) < (x0.length : Int)) = false := by simp; omega
    obtain ⟨r, hr⟩ : ∃ r, pu a0 x0 = r := ⟨_, rfl⟩
    have HP : ∀ W, Below w.heap.size w W → Hid (Calls Try.prog 11 #[.agg #[.int .i64 a0, .slice A0 x0.length c0]] W (PutPost W .u8 r.1 r.2)) := fun W hb => put3_any a0 A0 c0 x0 W ((s0.below hb).mono hb.size) b0 r hr
    have HR : ∀ W, Below w.heap.size w W → Hid (Calls Try.prog 12 #[.agg #[.int .i64 a0, .slice A0 x0.length c0]] W (PutPost W .u8 r.1 r.2)) := fun W hb => rput3_any a0 A0 c0 x0 W ((s0.below hb).mono hb.size) b0 r hr
    obtain ⟨ys, e⟩ := r
    simp only at HP HR
    clear hr b0
    go_enter Try.func3, Try.ntmps3
    go_wp2_with fail
    refine (HA _).out.mono ?_
    rintro e wa ⟨rfl, hba⟩
    have qa := BW.trans (hba.mono BW.size)
    have RA := rbox_on RB hba
    obtain ⟨ca0, ca1, ca2⟩ := RA
    go_wp2_with fail
    refine (HP _ qa).out.mono ?_
    rintro e wb ⟨Ab, cb, rfl, ⟨hsb, hcb⟩, hbb⟩
    have qb := qa.trans (hbb.mono qa.size)
    obtain ⟨cb0, cb1, cb2⟩ := rbox_on ⟨ca0, ca1, ca2⟩ hbb
    go_wp2_with fail
    refine (HR _ qb).out.mono ?_
    rintro e wc ⟨Ac, cc, rfl, ⟨hsc, hcc⟩, hbc⟩
    have qc := qb.trans (hbc.mono qb.size)
    have v1 := str_of hsc cc wc (fun p hp => rfl)
    have v2 := str_of hsb cb wc (fun p hp => hbc.cell hp)
    clear HA HP HR hba hbb hbc hsb hsc ca0 ca1 cb0 cb1 RB BW s0
    go_wp2
    go_ret
    exact ⟨rfl, qc⟩

theorem own : ownKnob Try.prog.godebug = none := by kernel_rfl
theorem laidOut : laidOutB Try.prog = true := by kernel_rfl

set_option maxRecDepth 100000 in
theorem lifted (os : Os) (started : os.Started) (H : Type) (enc : TypeId × Value → H) :
    ReturnsInHanded {} Try.checked os 3 .any (Rows.recordPutsSpec.pre6 enc Try.prog Try.f3 Rows.recordPutsRow.domain false) (Rows.recordPutsSpec.post enc Try.prog Try.f3 false true false false) := by
  refine returnsInHanded_of_change (C := Try.checked) own started (by kernel_rfl) Try.func3
    (ChangeSpec.witness6 (enc := enc) (C := Try.checked) false ⟨#[], #[.agg #[.int .i64 0, .slice none 0 0]], []⟩ 8 (by kernel_rfl) (by kernel_rfl) (by kernel_rfl) (by kernel_rfl)) ?_
  intro W base args ds gs before hval0 hW hcnd _
  have hval : ∀ (j : Nat) t v, Try.f3.params[j]? = some t → args[j]? = some v → Value.okWide Try.prog W .any base t v := hval0
  have hW' := hW
  obtain ⟨p, q, hA0, hV, rfl, hfz, hnd⟩ := hW
  have hA : DataW.TrodAll enc Try.prog W 0 (fun _ => true) true Try.f3.params.toList args.toList ds p := hA0
  rw [Try.params3] at hA hval
  obtain ⟨v0, vs0, d0, ds0, p0, q0, hargs, rfl, rfl, h0, r0⟩ := trodAll_cons hA
  obtain ⟨rfl, rfl, rfl⟩ := trodAll_nil r0
  obtain rfl : args = #[v0] := by cases args; simp_all
  obtain ⟨rfl, rfl⟩ := trodVars_none hV
  have k0 := h0
  have lt0 : ∀ x ∈ p0, x.block < W.heap.size := by obtain ⟨m, hm⟩ := k0; exact DataW.trod_lt m _ _ _ hm
  obtain ⟨a0, A0, c0, x0, rfl, w0, s0, m0, b0⟩ := open_rec (hval 0 24 v0 rfl rfl) h0
  clear hA0 hval0
  refine (walk a0 A0 c0 x0 W w0 s0 m0 b0).mono fun e W' ⟨he, bel⟩ => ?_
  subst he
  exact ⟨_, rfl, _, _, _, [], _, [], hW', trodAll_mk1 (shut_bool Try.underlying4 _), (trodAll_cons_mk (Below.trod laidOut (by kernel_rfl) (of_decide_eq_true (by kernel_rfl)) k0 bel lt0) trodAll_mk0), rfl, bel.frame _, fun h => by cases h⟩

theorem over : Rows.recordPutsRow.holds Try.pinned (OpenSpec.ofChange Rows.recordPutsSpec) :=
  OpenClaim.holds_of_wide 3 Try.f3 rfl rfl rfl rfl rfl rfl rfl ⟨rfl, rfl, rfl, rfl, rfl⟩ rfl rfl rfl rfl rfl (by kernel_rfl) Try.func3 (by kernel_rfl)
    (of_decide_eq_true (by kernel_rfl)) (by unfold Func.isWrapper; first | (rw [if_pos (by decide +kernel)]; kernel_rfl) | (rw [if_neg (by decide +kernel)]; exact ⟨rfl, rfl⟩))
    (fun os started H enc _ => lifted os started H enc)

theorem proved : Rows.RecordPutsSaid := over
#print axioms proved
end Go.Proofs.Ytaghbokgcpkjjaa.recordPuts
