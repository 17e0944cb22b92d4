/-
  The statement RecordCuts is proved: bytes of a record without their last ones are told to lack some. For every record and every int; no condition.
-/
import Derived.Test.YtaghbokgcpkjjaaSlices
import Derived.OpenShut
import Derived.ShutString
import Derived.ChangeOld
namespace Go.Proofs.Ytaghbokgcpkjjaa.recordCuts
open Go.ChangeShapes Go.WideShapes Go.ChangeAt Go.RowKit
set_option linter.unusedVariables false

set_option maxHeartbeats 800000 in
theorem walk (a0 : Int) (A0 : Option Addr) (c0 : Nat) (x0 : List Int) (a1 : Int) (w : World) (w0 : -9223372036854775808 ≤ a0 ∧ a0 ≤ 9223372036854775807) (s0 : Sl w w.heap.size .u8 A0 x0) (m0 : x0.length ≤ c0) (b0 : ∀ n ∈ x0, 0 ≤ n ∧ n ≤ 255)
    (w1 : (Lit.int .i64 a1).wf = true) : Calls Try.prog 8 #[.agg #[.int .i64 a0, .slice A0 x0.length c0], .int .i64 a1] w (UpPost w) := by
  have HA : ∀ W, Hid (Calls Try.prog 10 #[] W (UpPost W)) := fun W => awake_any W
  obtain ⟨r, hr⟩ : ∃ r, pu a0 x0 = r := ⟨_, rfl⟩
  have HP : ∀ W, Below w.heap.size w W → Hid (Calls Try.prog 11 #[.agg #[.int .i64 a0, .slice A0 x0.length c0]] W (PutPost W .u8 r.1 r.2)) := fun W hb => put3_any a0 A0 c0 x0 W ((s0.below hb).mono hb.size) b0 r hr
  have BW : Below w.heap.size w (w.alloc (.cells #[.int .i64 a0, .slice A0 x0.length c0] 24)) := (Below.refl _ _).alloc (Nat.le_refl _) _
  have RB := rbox_new w a0 A0 x0.length c0
  clear w1
  rcases pu_cases hr with ⟨k0, k1, hl, rfl⟩ | ⟨e, he, rfl⟩
  · by_cases h1 : a1 < 0
    · clear b0 hr
      go_enter Try.func8, Try.ntmps8
      go_wp2_with fail
      refine (HA _).out.mono ?_
      rintro e wa ⟨rfl, hba⟩
      have qa := BW.trans (hba.mono BW.size)
      obtain ⟨ca0, ca1, ca2⟩ := rbox_on RB hba
      go_wp2_with fail
      refine (HP _ qa).out.mono ?_
      rintro e wb ⟨Ab, cb, rfl, ⟨hsb, hcb⟩, hbb⟩
      have qb := qa.trans (hbb.mono qa.size)
      clear HP HA hbb hba hsb
      go_wp2
      go_ret
      exact ⟨rfl, qb⟩
    · have h1d : decide (a1 < 0) = false := by simpa using h1
      by_cases h2 : ((rb a0 x0).length : Int) ≤ a1
      · clear b0 hr
        generalize rb a0 x0 = ys at *
        go_enter Try.func8, Try.ntmps8
        go_wp2_with fail
        refine (HA _).out.mono ?_
        rintro e wa ⟨rfl, hba⟩
        have qa := BW.trans (hba.mono BW.size)
        obtain ⟨ca0, ca1, ca2⟩ := rbox_on RB hba
        go_wp2_with fail
        refine (HP _ qa).out.mono ?_
        rintro e wb ⟨Ab, cb, rfl, ⟨hsb, hcb⟩, hbb⟩
        have qb := qa.trans (hbb.mono qa.size)
        clear HP HA hbb hba hsb
        go_wp2
        go_ret
        exact ⟨rfl, qb⟩
      · have h2d : decide (((rb a0 x0).length : Int) ≤ a1) = false := by simpa using h2
        obtain ⟨n, hn⟩ : ∃ n : Nat, a1 = (n : Int) := ⟨a1.toNat, by omega⟩
        subst hn
        have hn : n < (rb a0 x0).length := by omega
        have hg := rg_short a0 x0 n k0 k1 hl hn
        have hyb := rb_byte (k := a0) b0
        have hyl := (rb_bd (k := a0) k1 hl).2
        have HG := Lib.hid hg
        have HY := Lib.hid hyb
        clear hg hyb hr b0 h1 h2
        generalize rb a0 x0 = ys at *
        go_enter Try.func8, Try.ntmps8
        go_wp2_with fail
        refine (HA _).out.mono ?_
        rintro e wa ⟨rfl, hba⟩
        have qa := BW.trans (hba.mono BW.size)
        obtain ⟨ca0, ca1, ca2⟩ := rbox_on RB hba
        go_wp2_with fail
        refine (HP _ qa).out.mono ?_
        rintro e wb ⟨Ab, cb, rfl, ⟨hsb, hcb⟩, hbb⟩
        have qb := qa.trans (hbb.mono qa.size)
        obtain ⟨A', r1, r2, hs'⟩ := head_run hsb cb n n rfl (by omega) hcb
        have hnt : (ys.take n).length = n := by rw [List.length_take]; omega
        have HC : Hid (Calls Try.prog 13 #[.slice A' n cb] wb (RgPost wb (0, [], 0, 3))) := by
          have := rget3_any A' cb (ys.take n) wb (by omega) (by omega) hs' (fun x hx => HY.out x (List.mem_of_mem_take hx))
          rw [HG.out, hnt] at this
          exact this
        clear HP HA hbb hba hsb hs' hnt
        go_wp2_with fail
        refine HC.out.mono ?_
        rintro e wc ⟨Ac, cc, rfl, _, _, hbc⟩
        have qc := qb.trans (hbc.mono qb.size)
        go_wp2
        go_ret
        exact ⟨rfl, qc.alloc qc.size _⟩
  · have heb : (e == 0) = false := by rw [beq_eq_false_iff_ne]; exact he
    have he' : ¬ e = 0 := he
    clear he hr b0
    go_enter Try.func8, Try.ntmps8
    go_wp2_with fail
    refine (HA _).out.mono ?_
    rintro e wa ⟨rfl, hba⟩
    have qa := BW.trans (hba.mono BW.size)
    obtain ⟨ca0, ca1, ca2⟩ := rbox_on RB hba
    go_wp2_with fail
    refine (HP _ qa).out.mono ?_
    rintro e wb ⟨Ab, cb, rfl, ⟨hsb, hcb⟩, hbb⟩
    have qb := qa.trans (hbb.mono qa.size)
    clear HP HA hbb hba hsb
    go_wp2
    go_ret
    exact ⟨rfl, qb⟩

theorem own : ownKnob Try.prog.godebug = none := by kernel_rfl
theorem laidOut : laidOutB Try.prog = true := by kernel_rfl

set_option maxRecDepth 100000 in
theorem lifted (os : Os) (started : os.Started) (H : Type) (enc : TypeId × Value → H) :
    ReturnsInHanded {} Try.checked os 8 .any (Rows.recordCutsSpec.pre6 enc Try.prog Try.f8 Rows.recordCutsRow.domain false) (Rows.recordCutsSpec.post enc Try.prog Try.f8 false true false false) := by
  refine returnsInHanded_of_change (C := Try.checked) own started (by kernel_rfl) Try.func8
    (ChangeSpec.witness6 (enc := enc) (C := Try.checked) false ⟨#[], #[.agg #[.int .i64 0, .slice none 0 0], .int .i64 0], []⟩ 8 (by kernel_rfl) (by kernel_rfl) (by kernel_rfl) (by kernel_rfl)) ?_
  intro W base args ds gs before hval0 hW hcnd _
  have hval : ∀ (j : Nat) t v, Try.f8.params[j]? = some t → args[j]? = some v → Value.okWide Try.prog W .any base t v := hval0
  have hW' := hW
  obtain ⟨p, q, hA0, hV, rfl, hfz, hnd⟩ := hW
  have hA : DataW.TrodAll enc Try.prog W 0 (fun _ => true) true Try.f8.params.toList args.toList ds p := hA0
  rw [Try.params8] at hA hval
  obtain ⟨v0, vs0, d0, ds0, p0, q0, hargs, rfl, rfl, h0, r0⟩ := trodAll_cons hA
  obtain ⟨v1, vs1, d1, ds1, p1, q1, rfl, rfl, rfl, h1, r1⟩ := trodAll_cons r0
  obtain ⟨rfl, rfl, rfl⟩ := trodAll_nil r1
  obtain rfl : args = #[v0, v1] := by cases args; simp_all
  obtain ⟨rfl, rfl⟩ := trodVars_none hV
  have k0 := h0
  have lt0 : ∀ x ∈ p0, x.block < W.heap.size := by obtain ⟨m, hm⟩ := k0; exact DataW.trod_lt m _ _ _ hm
  obtain ⟨a0, A0, c0, x0, rfl, w0, s0, m0, b0⟩ := open_rec (hval 0 24 v0 rfl rfl) h0
  obtain ⟨a1, rfl, rfl, rfl, w1⟩ := open_int Try.underlying3 (hval 1 3 v1 rfl rfl) h1
  clear hA0 hval0
  refine (walk a0 A0 c0 x0 a1 W w0 s0 m0 b0 w1).mono fun e W' ⟨he, bel⟩ => ?_
  subst he
  exact ⟨_, rfl, _, _, _, [], _, [], hW', trodAll_mk1 (shut_bool Try.underlying4 _), (trodAll_cons_mk (Below.trod laidOut (by kernel_rfl) (of_decide_eq_true (by kernel_rfl)) k0 bel lt0) (trodAll_cons_mk (shut_int Try.underlying3 w1) trodAll_mk0)), rfl, bel.frame _, fun h => by cases h⟩

theorem over : Rows.recordCutsRow.holds Try.pinned (OpenSpec.ofChange Rows.recordCutsSpec) :=
  OpenClaim.holds_of_wide 8 Try.f8 rfl rfl rfl rfl rfl rfl rfl ⟨rfl, rfl, rfl, rfl, rfl⟩ rfl rfl rfl rfl rfl (by kernel_rfl) Try.func8 (by kernel_rfl)
    (of_decide_eq_true (by kernel_rfl)) (by unfold Func.isWrapper; first | (rw [if_pos (by decide +kernel)]; kernel_rfl) | (rw [if_neg (by decide +kernel)]; exact ⟨rfl, rfl⟩))
    (fun os started H enc _ => lifted os started H enc)

theorem proved : Rows.RecordCutsSaid := over
#print axioms proved
end Go.Proofs.Ytaghbokgcpkjjaa.recordCuts
