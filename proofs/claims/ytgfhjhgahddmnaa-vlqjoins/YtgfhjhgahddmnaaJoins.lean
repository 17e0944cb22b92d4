/-
  The statement VlqJoins is proved: numbers one behind the other are as those of two lists, one behind the other. For every two slices of ints; no condition.
-/
import Derived.Test.YtgfhjhgahddmnaaApp
import Derived.OpenShut
import Derived.ShutString
import Derived.ChangeOld
namespace Go.Proofs.Ytgfhjhgahddmnaa.vlqJoins
open Go.ChangeShapes Go.WideShapes Go.ChangeAt Go.RowKit
set_option linter.unusedVariables false

set_option maxHeartbeats 400000 in
theorem walk (A0 : Option Addr) (c0 : Nat) (x0 : List Int) (A1 : Option Addr) (c1 : Nat) (x1 : List Int) (w : World)
    (s0 : Sl w w.heap.size .i64 A0 x0) (b0 : ∀ n ∈ x0, (Lit.int .i64 n).wf = true) (s1 : Sl w w.heap.size .i64 A1 x1) (b1 : ∀ n ∈ x1, (Lit.int .i64 n).wf = true) :
    Calls Try.prog 10 #[.slice A0 x0.length c0, .slice A1 x1.length c1] w (UpPost w) := by
  have HA := Lib.hid (awake_any w)
  clear b0 b1
  by_cases h0 : x0.length ≤ 100
  · by_cases h1 : x1.length ≤ 100
    · obtain ⟨i0, hi, hz0, hz1, hz2⟩ := info_parts info3
      obtain ⟨x2, hx2⟩ : ∃ x2, x2 = x0 ++ x1 := ⟨_, rfl⟩
      have hl2 : x2.length ≤ 200 := by rw [hx2, List.length_append]; omega
      have hok2 : okAll x2 = (okAll x0 && okAll x1) := by rw [hx2, okAll_append]
      have hpb2 : pb x2 = pb x0 ++ pb x1 := by rw [hx2, pb_append]
      have HX := Lib.hid hx2
      have HOWN : ∀ (W : World) (B : Nat) (v : Value), W.ownsRow B 3 1 v (x0.length + x1.length) (x0.map (Value.int .i64) ++ x1.map (Value.int .i64)) → ∃ A c, v = .slice A x2.length c ∧ Sl W W.heap.size .i64 A x2 := fun W B v h => by
        have h' : W.ownsRow B 3 1 v x2.length (x2.map (Value.int .i64)) := by rw [hx2]; simpa using h
        obtain ⟨A, c, q1, q2, _⟩ := own_slice h'
        exact ⟨A, c, q1, q2⟩
      clear hx2
      by_cases k0 : okAll x0 = true
      · have HP0 : ∀ W : World, Below w.heap.size w W → Hid (Calls Try.prog 14 #[.slice A0 x0.length c0] W (PutPost W .u8 (pb x0) 0)) := fun W hb => putall_yes A0 c0 x0 W (by omega) ((s0.below hb).mono hb.size) k0
        have l0 := pb_le x0 k0
        by_cases k1 : okAll x1 = true
        · have HP1 : ∀ W : World, Below w.heap.size w W → Hid (Calls Try.prog 14 #[.slice A1 x1.length c1] W (PutPost W .u8 (pb x1) 0)) := fun W hb => putall_yes A1 c1 x1 W (by omega) ((s1.below hb).mono hb.size) k1
          have l1 := pb_le x1 k1
          have HP2 : ∀ (W : World) (A : Option Addr) (c : Nat), Sl W W.heap.size .i64 A x2 → Hid (Calls Try.prog 14 #[.slice A x2.length c] W (PutPost W .u8 (pb x2) 0)) := fun W A c hs => putall_yes A c x2 W (by omega) hs (by rw [hok2, k0, k1]; rfl)
          have hsum : (strOfNums (pb x0)).size + (strOfNums (pb x1)).size ≤ 9223372036854775807 := by rw [strOfNums_size, strOfNums_size]; omega
          have heq : ((strOfNums (pb x2)).toList == (strOfNums (pb x0) ++ strOfNums (pb x1)).toList) = true := by rw [hpb2, str_append]; simp
          clear hok2 hpb2 k0 k1 l0 l1
          generalize pb x0 = y0 at *
          generalize pb x1 = y1 at *
          generalize pb x2 = y2 at *
          go_enter Try.func10, Try.ntmps10
          go_wp2_with (first | (go_at_call 11; refine HA.out.mono ?_; rintro e wa ⟨rfl, hba⟩) | (go_at_call 14; ((with_reducible refine (HP0 _ hba).out.mono ?_); rintro e wb ⟨Ax, cx, rfl, ⟨hsx, hcx⟩, hbx⟩; have hbb := hba.trans (hbx.mono hba.size))) | (go_at_call 14; ((with_reducible refine (HP1 _ hbb).out.mono ?_); rintro e wc ⟨Ay, cy, rfl, ⟨hsy, hcy⟩, hby⟩; have hbc := hbb.trans (hby.mono hbb.size))) | (at_builtin; refine wpList_app rfl (.const (.slice none 0 0)) (.tmp 37) 22 rfl wc.heap.size 3 i0 (.int .i64 0) 8 Try.underlying22 hi hz0 hz1 hz2 rfl (.slice none 0 0) 0 [] rfl (World.ownsRow_nil _ _ _ _) w.heap.size .i64 A0 c0 x0 rfl (s0.below hbc) (by unfold maxLen; omega) (by omega) (Nat.le_refl _) ?_; intro v1 w1 own1 grow1; simp only [Nat.zero_add, List.nil_append] at own1; have hb1 := hbc.grown grow1 hbc.size (by simp [Value.ownBlock]); have hc1 := (Below.refl wc.heap.size wc).grown grow1 (Nat.le_refl _) (by simp [Value.ownBlock])) | (at_builtin; refine wpList_app rfl (.tmp 38) (.tmp 39) 22 rfl wc.heap.size 3 i0 (.int .i64 0) 8 Try.underlying22 hi hz0 hz1 hz2 rfl v1 x0.length (x0.map (Value.int .i64)) rfl own1 w.heap.size .i64 A1 c1 x1 rfl (s1.below hb1) (by unfold maxLen; omega) (by omega) hc1.size ?_; intro v2 w2 own2 grow2; have hc2 := hc1.grown grow2 hc1.size (fun k hk => (own1.lt k hk).1); have hb2 := hbc.trans (hc2.mono hbc.size); obtain ⟨Az, cz, hv2, hsz⟩ := HOWN _ _ _ own2; subst hv2; clear own1 own2 grow1 grow2 hb1 hc1) | (go_at_call 14; ((with_reducible refine (HP2 _ _ _ hsz).out.mono ?_); rintro e wd ⟨Ar, cr, rfl, ⟨hsr, hcr⟩, hbr⟩; have hc3 := hc2.trans (hbr.mono hc2.size); have cvr := str_of hsr cr wd (fun p hp => rfl); have cvy := str_of hsy cy wd (fun p hp => hc3.cell hp); have cvx := str_of hsx cx wd (fun p hp => (hby.trans (hc3.mono hby.size)).cell hp); have hbd := hbc.trans (hc3.mono hbc.size); clear hc3 hc2 hsr hsy hsx hsz hby hbx hbr)))
          go_ret
          exact ⟨rfl, hbd⟩
        · have k1' : okAll x1 = false := by simpa using k1
          have HP1 : ∀ W : World, Below w.heap.size w W → Hid (Calls Try.prog 14 #[.slice A1 x1.length c1] W (fun e w' => e = .returned (.tuple #[.slice none 0 0, .int .i64 1]) ∧ Below W.heap.size W w')) := fun W hb => putall_no A1 c1 x1 W (by omega) ((s1.below hb).mono hb.size) k1'
          have HP2 : ∀ (W : World) (A : Option Addr) (c : Nat), Sl W W.heap.size .i64 A x2 → Hid (Calls Try.prog 14 #[.slice A x2.length c] W (fun e w' => e = .returned (.tuple #[.slice none 0 0, .int .i64 1]) ∧ Below W.heap.size W w')) := fun W A c hs => putall_no A c x2 W (by omega) hs (by rw [hok2]; simp [k1'])
          clear hok2 hpb2 k0 k1 k1' l0
          generalize pb x0 = y0 at *
          go_enter Try.func10, Try.ntmps10
          go_wp2_with (first | (go_at_call 11; refine HA.out.mono ?_; rintro e wa ⟨rfl, hba⟩) | (go_at_call 14; ((with_reducible refine (HP0 _ hba).out.mono ?_); rintro e wb ⟨Ax, cx, rfl, ⟨hsx, hcx⟩, hbx⟩; have hbb := hba.trans (hbx.mono hba.size))) | (go_at_call 14; ((with_reducible refine (HP1 _ hbb).out.mono ?_); rintro e wc ⟨rfl, hby⟩; have hbc := hbb.trans (hby.mono hbb.size))) | (at_builtin; refine wpList_app rfl (.const (.slice none 0 0)) (.tmp 37) 22 rfl wc.heap.size 3 i0 (.int .i64 0) 8 Try.underlying22 hi hz0 hz1 hz2 rfl (.slice none 0 0) 0 [] rfl (World.ownsRow_nil _ _ _ _) w.heap.size .i64 A0 c0 x0 rfl (s0.below hbc) (by unfold maxLen; omega) (by omega) (Nat.le_refl _) ?_; intro v1 w1 own1 grow1; simp only [Nat.zero_add, List.nil_append] at own1; have hb1 := hbc.grown grow1 hbc.size (by simp [Value.ownBlock]); have hc1 := (Below.refl wc.heap.size wc).grown grow1 (Nat.le_refl _) (by simp [Value.ownBlock])) | (at_builtin; refine wpList_app rfl (.tmp 38) (.tmp 39) 22 rfl wc.heap.size 3 i0 (.int .i64 0) 8 Try.underlying22 hi hz0 hz1 hz2 rfl v1 x0.length (x0.map (Value.int .i64)) rfl own1 w.heap.size .i64 A1 c1 x1 rfl (s1.below hb1) (by unfold maxLen; omega) (by omega) hc1.size ?_; intro v2 w2 own2 grow2; have hc2 := hc1.grown grow2 hc1.size (fun k hk => (own1.lt k hk).1); have hb2 := hbc.trans (hc2.mono hbc.size); obtain ⟨Az, cz, hv2, hsz⟩ := HOWN _ _ _ own2; subst hv2; clear own1 own2 grow1 grow2 hb1 hc1) | (go_at_call 14; ((with_reducible refine (HP2 _ _ _ hsz).out.mono ?_); rintro e wd ⟨rfl, hbr⟩; have hbd := hb2.trans (hbr.mono hb2.size))))
          go_ret
          exact ⟨rfl, hbd⟩
      · have k0' : okAll x0 = false := by simpa using k0
        have HP0 : ∀ W : World, Below w.heap.size w W → Hid (Calls Try.prog 14 #[.slice A0 x0.length c0] W (fun e w' => e = .returned (.tuple #[.slice none 0 0, .int .i64 1]) ∧ Below W.heap.size W w')) := fun W hb => putall_no A0 c0 x0 W (by omega) ((s0.below hb).mono hb.size) k0'
        have HP1 : ∀ W : World, Below w.heap.size w W → Hid (Calls Try.prog 14 #[.slice A1 x1.length c1] W (fun e w' => ∃ v er, e = .returned (.tuple #[v, .int .i64 er]) ∧ Below W.heap.size W w')) := fun W hb =>
          (putall_any A1 c1 x1 W (by omega) ((s1.below hb).mono hb.size)).mono fun _ _ h => by
            rcases h with ⟨_, _, _, he, _, hb'⟩ | ⟨_, he, hb'⟩
            · exact ⟨_, _, he, hb'⟩
            · exact ⟨_, _, he, hb'⟩
        have HP2 : ∀ (W : World) (A : Option Addr) (c : Nat), Sl W W.heap.size .i64 A x2 → Hid (Calls Try.prog 14 #[.slice A x2.length c] W (fun e w' => e = .returned (.tuple #[.slice none 0 0, .int .i64 1]) ∧ Below W.heap.size W w')) := fun W A c hs => putall_no A c x2 W (by omega) hs (by rw [hok2]; simp [k0'])
        clear hok2 hpb2 k0 k0'
        go_enter Try.func10, Try.ntmps10
        go_wp2_with (first | (go_at_call 11; refine HA.out.mono ?_; rintro e wa ⟨rfl, hba⟩) | (go_at_call 14; ((with_reducible refine (HP0 _ hba).out.mono ?_); rintro e wb ⟨rfl, hbx⟩; have hbb := hba.trans (hbx.mono hba.size))) | (go_at_call 14; ((with_reducible refine (HP1 _ hbb).out.mono ?_); rintro e wc ⟨v, er, rfl, hby⟩; have hbc := hbb.trans (hby.mono hbb.size))) | (at_builtin; refine wpList_app rfl (.const (.slice none 0 0)) (.tmp 37) 22 rfl wc.heap.size 3 i0 (.int .i64 0) 8 Try.underlying22 hi hz0 hz1 hz2 rfl (.slice none 0 0) 0 [] rfl (World.ownsRow_nil _ _ _ _) w.heap.size .i64 A0 c0 x0 rfl (s0.below hbc) (by unfold maxLen; omega) (by omega) (Nat.le_refl _) ?_; intro v1 w1 own1 grow1; simp only [Nat.zero_add, List.nil_append] at own1; have hb1 := hbc.grown grow1 hbc.size (by simp [Value.ownBlock]); have hc1 := (Below.refl wc.heap.size wc).grown grow1 (Nat.le_refl _) (by simp [Value.ownBlock])) | (at_builtin; refine wpList_app rfl (.tmp 38) (.tmp 39) 22 rfl wc.heap.size 3 i0 (.int .i64 0) 8 Try.underlying22 hi hz0 hz1 hz2 rfl v1 x0.length (x0.map (Value.int .i64)) rfl own1 w.heap.size .i64 A1 c1 x1 rfl (s1.below hb1) (by unfold maxLen; omega) (by omega) hc1.size ?_; intro v2 w2 own2 grow2; have hc2 := hc1.grown grow2 hc1.size (fun k hk => (own1.lt k hk).1); have hb2 := hbc.trans (hc2.mono hbc.size); obtain ⟨Az, cz, hv2, hsz⟩ := HOWN _ _ _ own2; subst hv2; clear own1 own2 grow1 grow2 hb1 hc1) | (go_at_call 14; ((with_reducible refine (HP2 _ _ _ hsz).out.mono ?_); rintro e wd ⟨rfl, hbr⟩; have hbd := hb2.trans (hbr.mono hb2.size))))
        go_ret
        exact ⟨rfl, hbd⟩
    · have hd : 100 < x1.length := by omega
      go_enter Try.func10, Try.ntmps10
      go_wp2_with (go_at_call 11; refine HA.out.mono ?_; rintro e wa ⟨rfl, hba⟩)
      go_ret
      exact ⟨rfl, hba⟩
  · have hd : 100 < x0.length := by omega
    go_enter Try.func10, Try.ntmps10
    go_wp2_with (go_at_call 11; refine HA.out.mono ?_; rintro e wa ⟨rfl, hba⟩)
    go_ret
    exact ⟨rfl, hba⟩

theorem own : ownKnob Try.prog.godebug = none := by kernel_rfl
theorem laidOut : laidOutB Try.prog = true := by kernel_rfl

set_option maxRecDepth 100000 in
theorem lifted (os : Os) (started : os.Started) (H : Type) (enc : TypeId × Value → H) :
    ReturnsInHanded {} Try.checked os 10 .any (Rows.vlqJoinsSpec.pre6 enc Try.prog Try.f10 Rows.vlqJoinsRow.domain false) (Rows.vlqJoinsSpec.post enc Try.prog Try.f10 false true false false) := by
  refine returnsInHanded_of_change (C := Try.checked) own started (by kernel_rfl) Try.func10
    (ChangeSpec.witness6 (enc := enc) (C := Try.checked) false ⟨#[], #[.slice none 0 0, .slice none 0 0], []⟩ 8 (by kernel_rfl) (by kernel_rfl) (by kernel_rfl) (by kernel_rfl)) ?_
  intro W base args ds gs before hval0 hW hcnd _
  have hval : ∀ (j : Nat) t v, Try.f10.params[j]? = some t → args[j]? = some v → Value.okWide Try.prog W .any base t v := hval0
  have hW' := hW
  obtain ⟨p, q, hA0, hV, rfl, hfz, hnd⟩ := hW
  have hA : DataW.TrodAll enc Try.prog W 0 (fun _ => true) true Try.f10.params.toList args.toList ds p := hA0
  rw [Try.params10] at hA hval
  obtain ⟨v0, vs0, d0, ds0, p0, q0, hargs, rfl, rfl, h0, r0⟩ := trodAll_cons hA
  obtain ⟨v1, vs1, d1, ds1, p1, q1, rfl, rfl, rfl, h1, r1⟩ := trodAll_cons r0
  obtain ⟨rfl, rfl, rfl⟩ := trodAll_nil r1
  obtain rfl : args = #[v0, v1] := by cases args; simp_all
  obtain ⟨rfl, rfl⟩ := trodVars_none hV
  obtain ⟨A0, len0, c0, rfl⟩ := okWide_slice Try.underlying22 (hval 0 22 v0 rfl rfl)
  have k0 := h0
  have lt0 : ∀ x ∈ p0, x.block < W.heap.size := by obtain ⟨m, hm⟩ := k0; exact DataW.trod_lt m _ _ _ hm
  obtain ⟨x0, e0, s0, b0⟩ : ∃ xs : List Int, xs.length = len0 ∧ Sl W W.heap.size .i64 A0 xs ∧ ∀ n ∈ xs, (Lit.int .i64 n).wf = true := by
    obtain ⟨fuel, hf⟩ := h0
    rcases open_ints Try.underlying22 Try.underlying3 (by kernel_rfl) hf with ⟨hcs, _⟩ | ⟨x, l, c, zs, hcs, _, hl, hm, hz, _, hcell, hwz⟩
    · simp [Value.cells] at hcs
      obtain ⟨rfl, rfl, rfl⟩ := hcs
      exact ⟨[], rfl, Sl.nil, fun n hn => by cases hn⟩
    · simp [Value.cells] at hcs
      obtain ⟨rfl, rfl, rfl⟩ := hcs
      have hz' : zs.length = c0 := by simpa using hz
      exact ⟨zs.take _, by simp only [List.length_take]; omega, sl_of_cells hl hz' hcell, fun n hn => hwz n (List.mem_of_mem_take hn)⟩
  subst e0
  obtain ⟨A1, len1, c1, rfl⟩ := okWide_slice Try.underlying22 (hval 1 22 v1 rfl rfl)
  have k1 := h1
  have lt1 : ∀ x ∈ p1, x.block < W.heap.size := by obtain ⟨m, hm⟩ := k1; exact DataW.trod_lt m _ _ _ hm
  obtain ⟨x1, e1, s1, b1⟩ : ∃ xs : List Int, xs.length = len1 ∧ Sl W W.heap.size .i64 A1 xs ∧ ∀ n ∈ xs, (Lit.int .i64 n).wf = true := by
    obtain ⟨fuel, hf⟩ := h1
    rcases open_ints Try.underlying22 Try.underlying3 (by kernel_rfl) hf with ⟨hcs, _⟩ | ⟨x, l, c, zs, hcs, _, hl, hm, hz, _, hcell, hwz⟩
    · simp [Value.cells] at hcs
      obtain ⟨rfl, rfl, rfl⟩ := hcs
      exact ⟨[], rfl, Sl.nil, fun n hn => by cases hn⟩
    · simp [Value.cells] at hcs
      obtain ⟨rfl, rfl, rfl⟩ := hcs
      have hz' : zs.length = c1 := by simpa using hz
      exact ⟨zs.take _, by simp only [List.length_take]; omega, sl_of_cells hl hz' hcell, fun n hn => hwz n (List.mem_of_mem_take hn)⟩
  subst e1
  clear hA0 hval0
  refine (walk A0 c0 x0 A1 c1 x1 W s0 b0 s1 b1).mono fun e W' ⟨he, bel⟩ => ?_
  subst he
  exact ⟨_, rfl, _, _, _, [], _, [], hW', trodAll_mk1 (shut_bool Try.underlying4 _), (trodAll_cons_mk (Below.trod laidOut (by kernel_rfl) (of_decide_eq_true (by kernel_rfl)) k0 bel lt0) (trodAll_cons_mk (Below.trod laidOut (by kernel_rfl) (of_decide_eq_true (by kernel_rfl)) k1 bel lt1) trodAll_mk0)), rfl, bel.frame _, fun h => by cases h⟩

theorem over : Rows.vlqJoinsRow.holds Try.pinned (OpenSpec.ofChange Rows.vlqJoinsSpec) :=
  OpenClaim.holds_of_wide 10 Try.f10 rfl rfl rfl rfl rfl rfl rfl ⟨rfl, rfl, rfl, rfl, rfl⟩ rfl rfl rfl rfl rfl (by kernel_rfl) Try.func10 (by kernel_rfl)
    (of_decide_eq_true (by kernel_rfl)) (by unfold Func.isWrapper; first | (rw [if_pos (by decide +kernel)]; kernel_rfl) | (rw [if_neg (by decide +kernel)]; exact ⟨rfl, rfl⟩))
    (fun os started H enc _ => lifted os started H enc)

theorem proved : Rows.VlqJoinsSaid := over
#print axioms proved
end Go.Proofs.Ytgfhjhgahddmnaa.vlqJoins
