/-
  Who waits for an instance waits for all ahead of it of that replica, and by all that it is within; two that are the same wait for the same: AttrWaits answers true whatever the two attributes, the instance and the number; they read as they did. Conditions: none.
-/
import Derived.Test.YtiedagbboednkaaOpen
import Derived.Deep.RegionLaw
import Derived.Deep.AppendLies
namespace Go.Proofs.Ytiedagbboednkaa.attrWaits
open Go.ChangeShapes Go.WideShapes Go.ChangeAt Go.RowKit
set_option linter.unusedVariables false
set_option linter.unusedSimpArgs false

set_option maxHeartbeats 1600000 in
theorem rest (t v f0 f1 : Bool) (a0 : Int) (A0 : Option Addr) (c0 : Nat) (x0 : List Int) (a1 : Int) (A1 : Option Addr) (c1 : Nat) (x1 : List Int) (a2 b2 : Int) (a3 : Int) (w : World) (s0 : Sl w w.heap.size .i64 A0 x0) (s1 : Sl w w.heap.size .i64 A1 x1) (w2 : a2 ≤ 9223372036854775807) (v2 : b2 ≤ 9223372036854775807) (w3 : a3 ≤ 9223372036854775807)
    (F0 : ∀ W, Hid (Calls Try.prog 10 #[.agg #[.int .i64 a0, .slice A0 x0.length c0]] W (BoolPost W f0))) (F1 : ∀ W, Hid (Calls Try.prog 10 #[.agg #[.int .i64 a1, .slice A1 x1.length c1]] W (BoolPost W f1)))
    (HT : ∀ W, Sl W W.heap.size .i64 A0 x0 → Hid (Calls Try.prog 17 #[.agg #[.int .i64 a0, .slice A0 x0.length c0], .agg #[.int .i64 a2, .int .i64 b2]] W (BoolPost W t)))
    (HA : t = true → 1 ≤ a3 → a3 ≤ b2 → ∀ W, Sl W W.heap.size .i64 A0 x0 → Hid (Calls Try.prog 17 #[.agg #[.int .i64 a0, .slice A0 x0.length c0], .agg #[.int .i64 a2, .int .i64 a3]] W (BoolPost W true)))
    (HW : f0 = true → f1 = true → ∀ W, Sl W W.heap.size .i64 A0 x0 → Sl W W.heap.size .i64 A1 x1 → Hid (Calls Try.prog 15 #[.agg #[.int .i64 a0, .slice A0 x0.length c0], .agg #[.int .i64 a1, .slice A1 x1.length c1]] W (BoolPost W v)))
    (HB : t = true → v = true → ∀ W, Sl W W.heap.size .i64 A1 x1 → Hid (Calls Try.prog 17 #[.agg #[.int .i64 a1, .slice A1 x1.length c1], .agg #[.int .i64 a2, .int .i64 b2]] W (BoolPost W true))) :
    Calls Try.prog 6 #[.agg #[.int .i64 a0, .slice A0 x0.length c0], .agg #[.int .i64 a1, .slice A1 x1.length c1], .agg #[.int .i64 a2, .int .i64 b2], .int .i64 a3] w (UpPost w) := by
  go_enter Try.func6, Try.ntmps6
  go_wp2_with fail
  have BW : Below w.heap.size w (((w.alloc (.cells #[.int .i64 a0, .slice A0 x0.length c0] 24)).alloc (.cells #[.int .i64 a1, .slice A1 x1.length c1] 24)).alloc (.cells #[.int .i64 a2, .int .i64 b2] 26)) := (((Below.refl _ _).alloc (Nat.le_refl _) _).alloc (by simp) _).alloc (by simp; omega) _
  have Z0 : (((w.alloc (.cells #[.int .i64 a0, .slice A0 x0.length c0] 24)).alloc (.cells #[.int .i64 a1, .slice A1 x1.length c1] 24)).alloc (.cells #[.int .i64 a2, .int .i64 b2] 26)).heap.size = w.heap.size + 1 + 1 + 1 := by simp
  have C0 : Rb (((w.alloc (.cells #[.int .i64 a0, .slice A0 x0.length c0] 24)).alloc (.cells #[.int .i64 a1, .slice A1 x1.length c1] 24)).alloc (.cells #[.int .i64 a2, .int .i64 b2] 26)) (w.heap.size) a0 A0 x0.length c0 := by
    have := (((ax_new w a0 A0 x0.length c0).old (.cells #[.int .i64 a1, .slice A1 x1.length c1] 24)).old (.cells #[.int .i64 a2, .int .i64 b2] 26)).rb
    exact this
  have C1 : Rb (((w.alloc (.cells #[.int .i64 a0, .slice A0 x0.length c0] 24)).alloc (.cells #[.int .i64 a1, .slice A1 x1.length c1] 24)).alloc (.cells #[.int .i64 a2, .int .i64 b2] 26)) (w.heap.size + 1) a1 A1 x1.length c1 := by
    have := ((ax_new (w.alloc (.cells #[.int .i64 a0, .slice A0 x0.length c0] 24)) a1 A1 x1.length c1).old (.cells #[.int .i64 a2, .int .i64 b2] 26)).rb
    rw [show (w.alloc (.cells #[.int .i64 a0, .slice A0 x0.length c0] 24)).heap.size = w.heap.size + 1 by simp] at this
    exact this
  have C2 : Ib (((w.alloc (.cells #[.int .i64 a0, .slice A0 x0.length c0] 24)).alloc (.cells #[.int .i64 a1, .slice A1 x1.length c1] 24)).alloc (.cells #[.int .i64 a2, .int .i64 b2] 26)) (w.heap.size + 1 + 1) a2 b2 := by
    have := (ix_new ((w.alloc (.cells #[.int .i64 a0, .slice A0 x0.length c0] 24)).alloc (.cells #[.int .i64 a1, .slice A1 x1.length c1] 24)) a2 b2).ib
    rw [show ((w.alloc (.cells #[.int .i64 a0, .slice A0 x0.length c0] 24)).alloc (.cells #[.int .i64 a1, .slice A1 x1.length c1] 24)).heap.size = w.heap.size + 1 + 1 by simp] at this
    exact this
  have X0 := s0.to BW BW.size
  have X1 := s1.to BW BW.size
  generalize (((w.alloc (.cells #[.int .i64 a0, .slice A0 x0.length c0] 24)).alloc (.cells #[.int .i64 a1, .slice A1 x1.length c1] 24)).alloc (.cells #[.int .i64 a2, .int .i64 b2] 26)) = W0 at *
  refine (awake_any W0).mono ?_
  rintro e w1 ⟨rfl, B1⟩
  have q1 := B1.size
  have B01 := B1
  obtain ⟨p0, r0⟩ := C0.on B01 (by omega)
  obtain ⟨p1, r1⟩ := C1.on B01 (by omega)
  obtain ⟨p2, r2⟩ := C2.on B01 (by omega)
  go_wp2_with fail
  clear p0 r0 p1 r1 p2 r2
  refine (F0 _).out.mono ?_
  rintro e w2 ⟨rfl, B2⟩
  have q2 := B2.size
  have B02 := B01.trans (B2.mono (by omega))
  obtain ⟨p0, r0⟩ := C0.on B02 (by omega)
  obtain ⟨p1, r1⟩ := C1.on B02 (by omega)
  obtain ⟨p2, r2⟩ := C2.on B02 (by omega)
  go_wp2_with fail
  clear p0 r0 p1 r1 p2 r2
  refine (F1 _).out.mono ?_
  rintro e w3 ⟨rfl, B3⟩
  have q3 := B3.size
  have B03 := B02.trans (B3.mono (by omega))
  have BE := BW.trans (B03.mono BW.size)
  cases f0
  · go_wp2
    go_ret
    exact ⟨rfl, BE⟩
  cases f1
  · go_wp2
    go_ret
    exact ⟨rfl, BE⟩
  have YW := HW rfl rfl
  clear HW F0 F1
  obtain ⟨p0, r0⟩ := C0.on B03 (by omega)
  obtain ⟨p1, r1⟩ := C1.on B03 (by omega)
  obtain ⟨p2, r2⟩ := C2.on B03 (by omega)
  go_wp2_with fail
  clear p0 r0 p1 r1 p2 r2
  refine (HT _ (X0.up B03)).out.mono ?_
  rintro e w4 ⟨rfl, B4⟩
  have q4 := B4.size
  have B04 := B03.trans (B4.mono (by omega))
  have BF := BW.trans (B04.mono BW.size)
  cases t
  · go_wp2
    go_ret
    exact ⟨rfl, BF⟩
  have YA := HA rfl
  have YB := HB rfl
  clear HA HB HT
  by_cases g1 : 1 ≤ a3
  · by_cases g2 : a3 ≤ b2
    · obtain ⟨p0, r0⟩ := C0.on B04 (by omega)
      obtain ⟨p1, r1⟩ := C1.on B04 (by omega)
      obtain ⟨p2, r2⟩ := C2.on B04 (by omega)
      go_wp2_with fail
      clear p0 r0 p1 r1 p2 r2
      refine (YA g1 g2 _ (X0.up B04)).out.mono ?_
      rintro e w5 ⟨rfl, B5⟩
      have q5 := B5.size
      have B05 := B04.trans (B5.mono (by omega))
      obtain ⟨p0, r0⟩ := C0.on B05 (by omega)
      obtain ⟨p1, r1⟩ := C1.on B05 (by omega)
      obtain ⟨p2, r2⟩ := C2.on B05 (by omega)
      go_wp2_with fail
      clear p0 r0 p1 r1 p2 r2
      refine (YW _ (X0.up B05) (X1.up B05)).out.mono ?_
      rintro e w6 ⟨rfl, B6⟩
      have q6 := B6.size
      have B06 := B05.trans (B6.mono (by omega))
      have BG := BW.trans (B06.mono BW.size)
      cases v
      · go_wp2
        go_ret
        exact ⟨rfl, BG⟩
      have YC := YB rfl
      clear YB
      obtain ⟨p0, r0⟩ := C0.on B06 (by omega)
      obtain ⟨p1, r1⟩ := C1.on B06 (by omega)
      obtain ⟨p2, r2⟩ := C2.on B06 (by omega)
      go_wp2_with fail
      clear p0 r0 p1 r1 p2 r2
      refine (YC _ (X1.up B06)).out.mono ?_
      rintro e w9 ⟨rfl, B9⟩
      go_wp2
      go_ret
      exact ⟨rfl, BG.trans (B9.mono BG.size)⟩
    · obtain ⟨p0, r0⟩ := C0.on B04 (by omega)
      obtain ⟨p1, r1⟩ := C1.on B04 (by omega)
      obtain ⟨p2, r2⟩ := C2.on B04 (by omega)
      go_wp2_with fail
      clear p0 r0 p1 r1 p2 r2
      refine (YW _ (X0.up B04) (X1.up B04)).out.mono ?_
      rintro e w5 ⟨rfl, B5⟩
      have q5 := B5.size
      have B05 := B04.trans (B5.mono (by omega))
      have BG := BW.trans (B05.mono BW.size)
      cases v
      · go_wp2
        go_ret
        exact ⟨rfl, BG⟩
      have YC := YB rfl
      clear YB
      obtain ⟨p0, r0⟩ := C0.on B05 (by omega)
      obtain ⟨p1, r1⟩ := C1.on B05 (by omega)
      obtain ⟨p2, r2⟩ := C2.on B05 (by omega)
      go_wp2_with fail
      clear p0 r0 p1 r1 p2 r2
      refine (YC _ (X1.up B05)).out.mono ?_
      rintro e w9 ⟨rfl, B9⟩
      go_wp2
      go_ret
      exact ⟨rfl, BG.trans (B9.mono BG.size)⟩
  · obtain ⟨p0, r0⟩ := C0.on B04 (by omega)
    obtain ⟨p1, r1⟩ := C1.on B04 (by omega)
    obtain ⟨p2, r2⟩ := C2.on B04 (by omega)
    go_wp2_with fail
    clear p0 r0 p1 r1 p2 r2
    refine (YW _ (X0.up B04) (X1.up B04)).out.mono ?_
    rintro e w5 ⟨rfl, B5⟩
    have q5 := B5.size
    have B05 := B04.trans (B5.mono (by omega))
    have BG := BW.trans (B05.mono BW.size)
    cases v
    · go_wp2
      go_ret
      exact ⟨rfl, BG⟩
    have YC := YB rfl
    clear YB
    obtain ⟨p0, r0⟩ := C0.on B05 (by omega)
    obtain ⟨p1, r1⟩ := C1.on B05 (by omega)
    obtain ⟨p2, r2⟩ := C2.on B05 (by omega)
    go_wp2_with fail
    clear p0 r0 p1 r1 p2 r2
    refine (YC _ (X1.up B05)).out.mono ?_
    rintro e w9 ⟨rfl, B9⟩
    go_wp2
    go_ret
    exact ⟨rfl, BG.trans (B9.mono BG.size)⟩

theorem dp_le {xs ys : List Int} {a b : Int} (h : wi a xs b ys = true) (k : Int) : dp xs k ≤ dp ys k := by
  by_cases hk : 1 ≤ k
  · rw [dp_in hk, dp_in hk]; exact (wi_iff.1 h).2 _
  · rw [dp_out (.inl (by omega)), dp_out (.inl (by omega))]; exact Int.le_refl _

theorem walk (a0 : Int) (A0 : Option Addr) (c0 : Nat) (x0 : List Int) (a1 : Int) (A1 : Option Addr) (c1 : Nat) (x1 : List Int) (a2 b2 : Int) (a3 : Int) (w : World) (s0 : Sl w w.heap.size .i64 A0 x0) (s1 : Sl w w.heap.size .i64 A1 x1) (w2 : a2 ≤ 9223372036854775807) (v2 : b2 ≤ 9223372036854775807) (w3 : a3 ≤ 9223372036854775807) : Calls Try.prog 6 #[.agg #[.int .i64 a0, .slice A0 x0.length c0], .agg #[.int .i64 a1, .slice A1 x1.length c1], .agg #[.int .i64 a2, .int .i64 b2], .int .i64 a3] w (UpPost w) := by
  refine rest (wt x0 a2 b2) (wi a0 x0 a1 x1) _ _ a0 A0 c0 x0 a1 A1 c1 x1 a2 b2 a3 w s0 s1 w2 v2 w3 (fun W => few_any a0 A0 x0.length c0 W) (fun W => few_any a1 A1 x1.length c1 W) (fun W h => waits_any a0 a2 b2 A0 c0 x0 W h w2) ?_
    (fun h0 h1 W e0 e1 => within_any a0 a1 A0 A1 c0 c1 x0 x1 W e0 e1 (by have := of_decide_eq_true h0; omega) (by have := of_decide_eq_true h1; omega)) ?_
  · intro ht g1 g2 W h
    have := waits_any a0 a2 a3 A0 c0 x0 W h w2
    rw [wt_iff.2 ⟨g1, Int.le_trans g2 (wt_iff.1 ht).2⟩] at this
    exact this
  · intro ht hv W h
    have := waits_any a1 a2 b2 A1 c1 x1 W h w2
    rw [wt_iff.2 ⟨(wt_iff.1 ht).1, Int.le_trans (wt_iff.1 ht).2 (dp_le hv a2)⟩] at this
    exact this

theorem own : ownKnob Try.prog.godebug = none := by kernel_rfl
theorem laidOut : laidOutB Try.prog = true := by kernel_rfl

set_option maxRecDepth 100000 in
theorem lifted (os : Os) (started : os.Started) (H : Type) (enc : TypeId × Value → H) :
    ReturnsInHanded {} Try.checked os 6 .any (Rows.attrWaitsSpec.pre6 enc Try.prog Try.f6 Rows.attrWaitsRow.domain false) (Rows.attrWaitsSpec.post enc Try.prog Try.f6 false true false false) := by
  refine returnsInHanded_of_change (C := Try.checked) own started (by kernel_rfl) Try.func6
    (ChangeSpec.witness6 (enc := enc) (C := Try.checked) false ⟨#[], #[.agg #[.int .i64 0, .slice none 0 0], .agg #[.int .i64 0, .slice none 0 0], .agg #[.int .i64 0, .int .i64 0], .int .i64 0], []⟩ 8 (by kernel_rfl) (by kernel_rfl) (by kernel_rfl) (by kernel_rfl)) ?_
  intro W base args ds gs before hval0 hW hcnd _
  have hval : ∀ (j : Nat) t v, Try.f6.params[j]? = some t → args[j]? = some v → Value.okWide Try.prog W .any base t v := hval0
  have hW' := hW
  obtain ⟨p, q, hA, hV, rfl, hfz, hnd⟩ := hW
  have hA : DataW.TrodAll enc Try.prog W 0 (fun _ => true) true Try.f6.params.toList args.toList ds p := hA
  rw [Try.params6] at hA hval
  obtain ⟨v0, vs0, d0, ds0, p0, q0, hargs, rfl, rfl, h0, r0⟩ := trodAll_cons hA
  obtain ⟨v1, vs1, d1, ds1, p1, q1, rfl, rfl, rfl, h1, r1⟩ := trodAll_cons r0
  obtain ⟨v2, vs2, d2, ds2, p2, q2, rfl, rfl, rfl, h2, r2⟩ := trodAll_cons r1
  obtain ⟨v3, vs3, d3, ds3, p3, q3, rfl, rfl, rfl, h3, r3⟩ := trodAll_cons r2
  obtain ⟨rfl, rfl, rfl⟩ := trodAll_nil r3
  obtain rfl : args = #[v0, v1, v2, v3] := by cases args; simp_all
  obtain ⟨rfl, rfl⟩ := trodVars_none hV
  have k0 := h0
  have lt0 : ∀ x ∈ p0, x.block < W.heap.size := by obtain ⟨m, hm⟩ := k0; exact DataW.trod_lt m _ _ _ hm
  obtain ⟨a0, A0, c0, x0, rfl, s0⟩ := open_attr (hval 0 24 v0 rfl rfl) h0
  have k1 := h1
  have lt1 : ∀ x ∈ p1, x.block < W.heap.size := by obtain ⟨m, hm⟩ := k1; exact DataW.trod_lt m _ _ _ hm
  obtain ⟨a1, A1, c1, x1, rfl, s1⟩ := open_attr (hval 1 24 v1 rfl rfl) h1
  have k2 := h2
  have lt2 : ∀ x ∈ p2, x.block < W.heap.size := by obtain ⟨m, hm⟩ := k2; exact DataW.trod_lt m _ _ _ hm
  obtain ⟨a2, b2, rfl, w2, v2⟩ := open_inst (hval 2 26 v2 rfl rfl) h2
  obtain ⟨a3, rfl, rfl, rfl, w3⟩ := open_int Try.underlying3 (hval 3 3 v3 rfl rfl) h3
  clear hval0
  refine (walk a0 A0 c0 x0 a1 A1 c1 x1 a2 b2 a3 W s0 s1 w2 v2 (int_of w3).2).mono fun e W' ⟨he, bel⟩ => ?_
  subst he
  exact ⟨_, rfl, _, _, _, [], _, [], hW', trodAll_mk1 (shut_bool Try.underlying4 _), (trodAll_cons_mk (Below.trod laidOut (by kernel_rfl) (of_decide_eq_true (by kernel_rfl)) k0 bel lt0) (trodAll_cons_mk (Below.trod laidOut (by kernel_rfl) (of_decide_eq_true (by kernel_rfl)) k1 bel lt1) (trodAll_cons_mk (Below.trod laidOut (by kernel_rfl) (of_decide_eq_true (by kernel_rfl)) k2 bel lt2) (trodAll_cons_mk (shut_int Try.underlying3 w3) trodAll_mk0)))), rfl, bel.frame _, fun h => by cases h⟩

theorem over : Rows.attrWaitsRow.holds Try.pinned (OpenSpec.ofChange Rows.attrWaitsSpec) :=
  OpenClaim.holds_of_wide 6 Try.f6 rfl rfl rfl rfl rfl rfl rfl ⟨rfl, rfl, rfl, rfl, rfl⟩ rfl rfl rfl rfl rfl (by kernel_rfl) Try.func6 (by kernel_rfl)
    (of_decide_eq_true (by kernel_rfl)) (by unfold Func.isWrapper; first | (rw [if_pos (by decide +kernel)]; kernel_rfl) | (rw [if_neg (by decide +kernel)]; exact ⟨rfl, rfl⟩))
    (fun os started H enc _ => lifted os started H enc)

theorem proved : Rows.AttrWaitsSaid := over
#print axioms proved
end Go.Proofs.Ytiedagbboednkaa.attrWaits
