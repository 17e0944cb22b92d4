/-
  The statement AdlerJoins is proved: the sum of bytes is that of their two parts, joined, wherever they are cut; joins may be made in any order. For every two slices of bytes and every int; no condition.
-/
import Derived.Test.YtaijfnjlhpfbpaaApp
import Derived.OpenShut
import Derived.ShutString
import Derived.ChangeOld
namespace Go.Proofs.Ytaijfnjlhpfbpaa.adlerJoins
open Go.ChangeShapes Go.WideShapes Go.ChangeAt Go.RowKit
set_option linter.unusedVariables false

set_option maxHeartbeats 2000000 in
set_option maxRecDepth 100000 in
theorem walk (A0 : Option Addr) (c0 : Nat) (x0 : List Int) (a1 : Int) (A2 : Option Addr) (c2 : Nat) (x2 : List Int) (w : World) (s0 : Sl w w.heap.size .u8 A0 x0) (m0 : x0.length ≤ c0) (b0 : ∀ n ∈ x0, (Lit.int .u8 n).wf = true)
    (w1 : (Lit.int .i64 a1).wf = true) (s2 : Sl w w.heap.size .u8 A2 x2) (b2 : ∀ n ∈ x2, (Lit.int .u8 n).wf = true) :
    Calls Try.prog 5 #[.slice A0 x0.length c0, .int .i64 a1, .slice A2 x2.length c2] w (UpPost w) := by
  have HA := Lib.hid (awake_any w)
  have HB := Lib.hid fun n hn => byte_of (b0 n hn)
  have HB2 := Lib.hid fun n hn => byte_of (b2 n hn)
  clear b0 b2
  by_cases hl : x0.length ≤ 3000
  · by_cases hl2 : x2.length ≤ 3000
    · by_cases hlo : a1 < 0
      · go_enter Try.func5, Try.ntmps5
        go_wp2_with (go_at_call 10; refine HA.out.mono ?_; rintro e wa ⟨rfl, hba⟩)
        go_ret
        exact ⟨rfl, hba⟩
      · obtain ⟨k, rfl⟩ : ∃ k : Nat, a1 = (k : Int) := ⟨a1.toNat, by omega⟩
        by_cases hhi : x0.length < k
        · go_enter Try.func5, Try.ntmps5
          go_wp2_with (go_at_call 10; refine HA.out.mono ?_; rintro e wa ⟨rfl, hba⟩)
          go_ret
          exact ⟨rfl, hba⟩
        · have hkl : k ≤ x0.length := by omega
          have hkc : k ≤ c0 := by omega
          obtain ⟨i0, hi, hz0, hz1, hz2⟩ := info_parts info5
          obtain ⟨A', hr1, hr2, hsl⟩ := tail_run s0 c0 k k rfl hkl m0
          have HSL := Lib.hid hsl
          have ep : ((x0.take k).length : Int) = (k : Int) := by rw [List.length_take]; omega
          have eq : ((x0.drop k).length : Int) = (x0.length : Int) - (k : Int) := by rw [List.length_drop]; omega
          have eqm : (((x0.drop k) ++ x2).length : Int) = (x0.length : Int) - (k : Int) + (x2.length : Int) := by rw [List.length_append, Int.natCast_add, eq]
          have HP : ∀ W, Below w.heap.size w W → Hid (Calls Try.prog 11 #[.slice A0 k c0] W (U32Post W (sm (x0.take k)))) := fun W hb => by
            have := sum_any A0 c0 (x0.take k) W (by rw [List.length_take]; omega) (((s0.below hb).mono hb.size).take k) (fun x hx => HB.out x (List.mem_of_mem_take hx))
            rw [show (x0.take k).length = k from by rw [List.length_take]; omega] at this
            exact this
          have HQ : ∀ W, Below w.heap.size w W → Hid (Calls Try.prog 11 #[.slice A' (x0.length - k) (c0 - k)] W (U32Post W (sm (x0.drop k)))) := fun W hb => by
            have := sum_any A' (c0 - k) (x0.drop k) W (by rw [List.length_drop]; omega) ((HSL.out.below hb).mono hb.size) (fun x hx => HB.out x (List.mem_of_mem_drop hx))
            rw [List.length_drop] at this
            exact this
          have HM : ∀ W, Below w.heap.size w W → Hid (Calls Try.prog 11 #[.slice A2 x2.length c2] W (U32Post W (sm x2))) := fun W hb => sum_any A2 c2 x2 W (by omega) ((s2.below hb).mono hb.size) HB2.out
          have H0 : ∀ W, Below w.heap.size w W → Hid (Calls Try.prog 11 #[.slice A0 x0.length c0] W (U32Post W (sm x0))) := fun W hb => sum_any A0 c0 x0 W (by omega) ((s0.below hb).mono hb.size) HB.out
          have HZ : ∀ (W : World) (A : Option Addr) (c : Nat), Sl W W.heap.size .u8 A (x0 ++ x2) → Hid (Calls Try.prog 11 #[.slice A (x0.length + x2.length) c] W (U32Post W (sm (x0 ++ x2)))) := fun W A c hs => by
            have := sum_any A c (x0 ++ x2) W (by rw [List.length_append]; omega) hs (fun x hx => (List.mem_append.1 hx).elim (HB.out x) (HB2.out x))
            rw [List.length_append] at this
            exact this
          have HOWN : ∀ (W : World) (B : Nat) (v : Value), W.ownsRow B 5 1 v (x0.length + x2.length) (x0.map (Value.int .u8) ++ x2.map (Value.int .u8)) → ∃ A c, v = .slice A (x0.length + x2.length) c ∧ Sl W W.heap.size .u8 A (x0 ++ x2) := fun W B v h => by
            have h' : W.ownsRow B 5 1 v (x0 ++ x2).length ((x0 ++ x2).map (Value.int .u8)) := by simpa using h
            obtain ⟨A, c, q1, q2, _⟩ := own_slice h'
            exact ⟨A, c, by simpa using q1, q2⟩
          have t0 := sm_bd x0
          have t1 := sm_bd (x0.take k)
          have t2 := sm_bd (x0.drop k)
          have t3 := sm_bd x2
          have t4 := sm_bd ((x0.drop k) ++ x2)
          have J1 : ∀ W, Hid (Calls Try.prog 15 #[.int .u32 (sm (x0.take k)), .int .u32 (sm (x0.drop k)), .int .i64 ((x0.length : Int) - (k : Int))] W (U32Post W (sm x0))) := fun W => by
            have := join_any _ _ ((x0.length : Int) - (k : Int)) W t1.1 t1.2 t2.1 t2.2 (by omega) (by omega)
            rw [← eq, jn_sm, List.take_append_drop] at this
            rw [← eq]
            exact this
          have J2 : ∀ W, Hid (Calls Try.prog 15 #[.int .u32 (sm x0), .int .u32 (sm x2), .int .i64 (x2.length : Int)] W (U32Post W (sm (x0 ++ x2)))) := fun W => by
            rw [← jn_sm]; exact join_any _ _ _ W t0.1 t0.2 t3.1 t3.2 (by omega) (by omega)
          have J3 : ∀ W, Hid (Calls Try.prog 15 #[.int .u32 (sm (x0.drop k)), .int .u32 (sm x2), .int .i64 (x2.length : Int)] W (U32Post W (sm ((x0.drop k) ++ x2)))) := fun W => by
            rw [← jn_sm]; exact join_any _ _ _ W t2.1 t2.2 t3.1 t3.2 (by omega) (by omega)
          have J4 : ∀ W, Hid (Calls Try.prog 15 #[.int .u32 (sm (x0.take k)), .int .u32 (sm ((x0.drop k) ++ x2)), .int .i64 ((x0.length : Int) - (k : Int) + (x2.length : Int))] W (U32Post W (sm (x0 ++ x2)))) := fun W => by
            have := join_any _ _ ((x0.length : Int) - (k : Int) + (x2.length : Int)) W t1.1 t1.2 t4.1 t4.2 (by omega) (by omega)
            rw [← eqm, jn_sm, ← List.append_assoc, List.take_append_drop] at this
            rw [← eqm]
            exact this
          clear ep eq eqm t0 t1 t2 t3 t4 hsl hlo hhi HB HB2 HSL
          generalize sm (x0 ++ x2) = y5 at *
          generalize sm ((x0.drop k) ++ x2) = y4 at *
          generalize sm x2 = y3 at *
          generalize sm (x0.drop k) = y2 at *
          generalize sm (x0.take k) = y1 at *
          generalize sm x0 = y0 at *
          go_enter Try.func5, Try.ntmps5
          go_wp2_with (go_at_call 10; refine HA.out.mono ?_; rintro e wa ⟨rfl, b1⟩)
          go_wp2_with (go_at_call 11; ((with_reducible refine (HP _ b1).out.mono ?_); rintro e wb ⟨rfl, hwb⟩; have b2 := b1.trans (hwb.mono b1.size)))
          go_wp2_with (go_at_call 11; ((with_reducible refine (HQ _ b2).out.mono ?_); rintro e wc ⟨rfl, hwc⟩; have b3 := b2.trans (hwc.mono b2.size)))
          go_wp2_with (go_at_call 11; ((with_reducible refine (HM _ b3).out.mono ?_); rintro e wd ⟨rfl, hwd⟩; have b4 := b3.trans (hwd.mono b3.size)))
          go_wp2_with (go_at_call 15; ((with_reducible refine (J1 _).out.mono ?_); rintro e we ⟨rfl, hwe⟩; have b5 := b4.trans (hwe.mono b4.size)))
          go_wp2_with (go_at_call 15; ((with_reducible refine (J2 _).out.mono ?_); rintro e wf ⟨rfl, hwf⟩; have b6 := b5.trans (hwf.mono b5.size)))
          go_wp2_with (go_at_call 15; ((with_reducible refine (J3 _).out.mono ?_); rintro e wg ⟨rfl, hwg⟩; have b7 := b6.trans (hwg.mono b6.size)))
          go_wp2_with (go_at_call 15; ((with_reducible refine (J4 _).out.mono ?_); rintro e wh ⟨rfl, hwh⟩; have b8 := b7.trans (hwh.mono b7.size)))
          go_wp2_with (go_at_call 15; ((with_reducible refine (J1 _).out.mono ?_); rintro e wi ⟨rfl, hwi⟩; have b9 := b8.trans (hwi.mono b8.size)))
          go_wp2_with (first | (go_at_call 11; ((with_reducible refine (H0 _ b9).out.mono ?_); rintro e wj ⟨rfl, hwj⟩; have b10 := b9.trans (hwj.mono b9.size))) | (at_builtin; refine wpList_app_on (by rfl) (.const (.slice none 0 0)) (.tmp 89) 22 rfl wj.heap.size 5 i0 (.int .u8 0) 1 Try.underlying22 hi hz0 hz1 hz2 rfl (.slice none 0 0) 0 [] rfl (World.ownsRow_nil _ _ _ _) w.heap.size .u8 A0 c0 x0 rfl (s0.below b10) (by unfold maxLen; omega) (by omega) (Nat.le_refl _) ?_; intro v1 w1 own1 grow1; simp only [Nat.zero_add, List.nil_append] at own1; have hb1 := b10.grown grow1 b10.size (by simp [Value.ownBlock]); have hc1 := (Below.refl wj.heap.size wj).grown grow1 (Nat.le_refl _) (by simp [Value.ownBlock])) | (at_builtin; refine wpList_app_on (by rfl) (.tmp 90) (.tmp 91) 22 rfl wj.heap.size 5 i0 (.int .u8 0) 1 Try.underlying22 hi hz0 hz1 hz2 rfl v1 x0.length (x0.map (Value.int .u8)) rfl own1 w.heap.size .u8 A2 c2 x2 rfl (s2.below hb1) (by unfold maxLen; omega) (by omega) hc1.size ?_; intro v2 w2 own2 grow2; have hc2 := hc1.grown grow2 hc1.size (fun k hk => (own1.lt k hk).1); have hb2 := b10.trans (hc2.mono b10.size); obtain ⟨Az, cz, hv2, hsz⟩ := HOWN _ _ _ own2; subst hv2; clear own1 own2 grow1 grow2 hb1 hc1) | (go_at_call 11; ((with_reducible refine (HZ _ _ _ hsz).out.mono ?_); rintro e wk ⟨rfl, hk⟩; have b11 := hb2.trans (hk.mono hb2.size))))
          go_ret
          exact ⟨rfl, b11⟩
    · have hd : 3000 < x2.length := by omega
      go_enter Try.func5, Try.ntmps5
      go_wp2_with (go_at_call 10; refine HA.out.mono ?_; rintro e wa ⟨rfl, hba⟩)
      go_ret
      exact ⟨rfl, hba⟩
  · have hd : 3000 < x0.length := by omega
    go_enter Try.func5, Try.ntmps5
    go_wp2_with (go_at_call 10; refine HA.out.mono ?_; rintro e wa ⟨rfl, hba⟩)
    go_ret
    exact ⟨rfl, hba⟩

theorem own : ownKnob Try.prog.godebug = none := by kernel_rfl
theorem laidOut : laidOutB Try.prog = true := by kernel_rfl

set_option maxRecDepth 100000 in
theorem lifted (os : Os) (started : os.Started) (H : Type) (enc : TypeId × Value → H) :
    ReturnsInHanded {} Try.checked os 5 .any (Rows.adlerJoinsSpec.pre6 enc Try.prog Try.f5 Rows.adlerJoinsRow.domain false) (Rows.adlerJoinsSpec.post enc Try.prog Try.f5 false true false false) := by
  refine returnsInHanded_of_change (C := Try.checked) own started (by kernel_rfl) Try.func5
    (ChangeSpec.witness6 (enc := enc) (C := Try.checked) false ⟨#[], #[.slice none 0 0, .int .i64 0, .slice none 0 0], []⟩ 8 (by kernel_rfl) (by kernel_rfl) (by kernel_rfl) (by kernel_rfl)) ?_
  intro W base args ds gs before hval0 hW hcnd _
  have hval : ∀ (j : Nat) t v, Try.f5.params[j]? = some t → args[j]? = some v → Value.okWide Try.prog W .any base t v := hval0
  have hW' := hW
  obtain ⟨p, q, hA0, hV, rfl, hfz, hnd⟩ := hW
  have hA : DataW.TrodAll enc Try.prog W 0 (fun _ => true) true Try.f5.params.toList args.toList ds p := hA0
  rw [Try.params5] at hA hval
  obtain ⟨v0, vs0, d0, ds0, p0, q0, hargs, rfl, rfl, h0, r0⟩ := trodAll_cons hA
  obtain ⟨v1, vs1, d1, ds1, p1, q1, rfl, rfl, rfl, h1, r1⟩ := trodAll_cons r0
  obtain ⟨v2, vs2, d2, ds2, p2, q2, rfl, rfl, rfl, h2, r2⟩ := trodAll_cons r1
  obtain ⟨rfl, rfl, rfl⟩ := trodAll_nil r2
  obtain rfl : args = #[v0, v1, v2] := by cases args; simp_all
  obtain ⟨rfl, rfl⟩ := trodVars_none hV
  obtain ⟨A0, len0, c0, rfl⟩ := okWide_slice Try.underlying22 (hval 0 22 v0 rfl rfl)
  have k0 := h0
  have lt0 : ∀ x ∈ p0, x.block < W.heap.size := by obtain ⟨m, hm⟩ := k0; exact DataW.trod_lt m _ _ _ hm
  obtain ⟨x0, e0, s0, m0, b0⟩ : ∃ xs : List Int, xs.length = len0 ∧ Sl W W.heap.size .u8 A0 xs ∧ len0 ≤ c0 ∧ ∀ n ∈ xs, (Lit.int .u8 n).wf = true := by
    obtain ⟨fuel, hf⟩ := h0
    rcases open_ints Try.underlying22 Try.underlying5 (by kernel_rfl) hf with ⟨hcs, _⟩ | ⟨x, l, c, zs, hcs, _, hl, hm, hz, _, hcell, hwz⟩
    · simp [Value.cells] at hcs
      obtain ⟨rfl, rfl, rfl⟩ := hcs
      exact ⟨[], rfl, Sl.nil, Nat.le_refl _, fun n hn => by cases hn⟩
    · simp [Value.cells] at hcs
      obtain ⟨rfl, rfl, rfl⟩ := hcs
      have hz' : zs.length = c0 := by simpa using hz
      exact ⟨zs.take _, by simp only [List.length_take]; omega, sl_of_cells hl hz' hcell, hl, fun n hn => hwz n (List.mem_of_mem_take hn)⟩
  subst e0
  obtain ⟨a1, rfl, rfl, rfl, w1⟩ := open_int Try.underlying3 (hval 1 3 v1 rfl rfl) h1
  obtain ⟨A2, len2, c2, rfl⟩ := okWide_slice Try.underlying22 (hval 2 22 v2 rfl rfl)
  have k2 := h2
  have lt2 : ∀ x ∈ p2, x.block < W.heap.size := by obtain ⟨m, hm⟩ := k2; exact DataW.trod_lt m _ _ _ hm
  obtain ⟨x2, e2, s2, m2, b2⟩ : ∃ xs : List Int, xs.length = len2 ∧ Sl W W.heap.size .u8 A2 xs ∧ len2 ≤ c2 ∧ ∀ n ∈ xs, (Lit.int .u8 n).wf = true := by
    obtain ⟨fuel, hf⟩ := h2
    rcases open_ints Try.underlying22 Try.underlying5 (by kernel_rfl) hf with ⟨hcs, _⟩ | ⟨x, l, c, zs, hcs, _, hl, hm, hz, _, hcell, hwz⟩
    · simp [Value.cells] at hcs
      obtain ⟨rfl, rfl, rfl⟩ := hcs
      exact ⟨[], rfl, Sl.nil, Nat.le_refl _, fun n hn => by cases hn⟩
    · simp [Value.cells] at hcs
      obtain ⟨rfl, rfl, rfl⟩ := hcs
      have hz' : zs.length = c2 := by simpa using hz
      exact ⟨zs.take _, by simp only [List.length_take]; omega, sl_of_cells hl hz' hcell, hl, fun n hn => hwz n (List.mem_of_mem_take hn)⟩
  subst e2
  clear hA0 hval0
  refine (walk A0 c0 x0 a1 A2 c2 x2 W s0 m0 b0 w1 s2 b2).mono fun e W' ⟨he, bel⟩ => ?_
  subst he
  exact ⟨_, rfl, _, _, _, [], _, [], hW', trodAll_mk1 (shut_bool Try.underlying4 _), (trodAll_cons_mk (Below.trod laidOut (by kernel_rfl) (of_decide_eq_true (by kernel_rfl)) k0 bel lt0) (trodAll_cons_mk (shut_int Try.underlying3 w1) (trodAll_cons_mk (Below.trod laidOut (by kernel_rfl) (of_decide_eq_true (by kernel_rfl)) k2 bel lt2) trodAll_mk0))), rfl, bel.frame _, fun h => by cases h⟩

theorem over : Rows.adlerJoinsRow.holds Try.pinned (OpenSpec.ofChange Rows.adlerJoinsSpec) :=
  OpenClaim.holds_of_wide 5 Try.f5 rfl rfl rfl rfl rfl rfl rfl ⟨rfl, rfl, rfl, rfl, rfl⟩ rfl rfl rfl rfl rfl (by kernel_rfl) Try.func5 (by kernel_rfl)
    (of_decide_eq_true (by kernel_rfl)) (by unfold Func.isWrapper; first | (rw [if_pos (by decide +kernel)]; kernel_rfl) | (rw [if_neg (by decide +kernel)]; exact ⟨rfl, rfl⟩))
    (fun os started H enc _ => lifted os started H enc)

theorem proved : Rows.AdlerJoinsSaid := over
#print axioms proved
end Go.Proofs.Ytaijfnjlhpfbpaa.adlerJoins
