/-
  The statement AdlerZeros is proved: a byte of nought behind others adds just the low part to the high one; one of any value adds it to both. For every slice of bytes and every byte; no condition.
-/
import Derived.Test.YtaijfnjlhpfbpaaApp
import Derived.OpenShut
import Derived.ShutString
import Derived.ChangeOld
namespace Go.Proofs.Ytaijfnjlhpfbpaa.adlerZeros
open Go.ChangeShapes Go.WideShapes Go.ChangeAt Go.RowKit
set_option linter.unusedVariables false

theorem sm_snoc (b : List Int) (c : Int) : (sm b / 65536 + (sm b % 65536 + c) % 65521) % 65521 * 65536 + (sm b % 65536 + c) % 65521 = sm (b ++ [c]) := by
  have e1 : sm b % 65536 = (1 + tot b) % 65521 := wh_lo _ _
  have e2 : sm b / 65536 = ((b.length : Int) + wt b) % 65521 := wh_hi _ _
  rw [e1, e2, ← lo_snoc, ← hi_snoc]
  rfl

theorem one_sl (W : World) (a : Int) : Sl (W.alloc (.cells #[.int .u8 a] 5)) (W.heap.size + 1) .u8 (some ⟨W.heap.size, 0, none⟩) [a] :=
  .inr ⟨W.heap.size, 0, rfl, by omega, fun j x hx => by
    match j, hx with
    | 0, hx => simp at hx; subst hx; simp⟩

set_option maxHeartbeats 1000000 in
theorem walk (A0 : Option Addr) (c0 : Nat) (x0 : List Int) (a1 : Int) (w : World) (s0 : Sl w w.heap.size .u8 A0 x0) (b0 : ∀ n ∈ x0, (Lit.int .u8 n).wf = true) (w1 : (Lit.int .u8 a1).wf = true) :
    Calls Try.prog 8 #[.slice A0 x0.length c0, .int .u8 a1] w (UpPost w) := by
  have HA := Lib.hid (awake_any w)
  have HB := Lib.hid fun n hn => byte_of (b0 n hn)
  clear b0
  obtain ⟨p0, p1⟩ := byte_of w1
  by_cases hl : x0.length ≤ 3000
  · obtain ⟨i0, hi, hz0, hz1, hz2⟩ := info_parts info5
    obtain ⟨m0, m1⟩ := sm_bd x0
    obtain ⟨n0, n1⟩ := sm_bd [a1]
    have H1 : ∀ W, Below w.heap.size w W → Hid (Calls Try.prog 11 #[.slice A0 x0.length c0] W (U32Post W (sm x0))) := fun W hb => sum_any A0 c0 x0 W (by omega) ((s0.below hb).mono hb.size) HB.out
    have H2 : ∀ (W : World) (A : Option Addr) (c : Nat), Sl W W.heap.size .u8 A (x0 ++ [a1]) → Hid (Calls Try.prog 11 #[.slice A (x0.length + 1) c] W (U32Post W (sm (x0 ++ [a1])))) := fun W A c hs => by
      have := sum_any A c (x0 ++ [a1]) W (by simp; omega) hs (fun x hx => by
        rcases List.mem_append.1 hx with h | h
        · exact HB.out x h
        · simp at h; subst h; exact ⟨p0, p1⟩)
      rw [List.length_append] at this
      exact this
    have H3 : ∀ W : World, Hid (Calls Try.prog 11 #[.slice (some ⟨W.heap.size, 0, none⟩) 1 1] (W.alloc (.cells #[.int .u8 a1] 5)) (U32Post (W.alloc (.cells #[.int .u8 a1] 5)) (sm [a1]))) := fun W =>
      sum_any _ 1 [a1] _ (by simp) ((one_sl W a1).mono (by simp)) (fun x hx => by simp at hx; subst hx; exact ⟨p0, p1⟩)
    have H4 : ∀ W, Hid (Calls Try.prog 15 #[.int .u32 (sm x0), .int .u32 (sm [a1]), .int .i64 1] W (U32Post W (sm (x0 ++ [a1])))) := fun W => by
      rw [← jn_sm]; exact join_any _ _ _ W m0 m1 n0 n1 (by decide) (by decide)
    have HOWN : ∀ (W : World) (B : Nat) (v : Value), W.ownsRow B 5 1 v (x0.length + 1) (x0.map (Value.int .u8) ++ [a1].map (Value.int .u8)) → ∃ A c, v = .slice A (x0.length + 1) c ∧ Sl W W.heap.size .u8 A (x0 ++ [a1]) := fun W B v h => by
      have h' : W.ownsRow B 5 1 v (x0 ++ [a1]).length ((x0 ++ [a1]).map (Value.int .u8)) := by simpa using h
      obtain ⟨A, c, q1, q2, _⟩ := own_slice h'
      exact ⟨A, c, by simpa using q1, q2⟩
    have hzz : (sm (x0 ++ [a1]) == (sm x0 / 65536 + (sm x0 % 65536 + a1)) % 65521 * 65536 + (sm x0 % 65536 + a1) % 65521) = true := by
      rw [← sm_snoc, beq_iff_eq, cg_add (c := (sm x0 % 65536 + a1) % 65521) rfl (cg_self _)]
    generalize sm (x0 ++ [a1]) = z at *
    generalize sm [a1] = y1 at *
    generalize sm x0 = y at *
    go_enter Try.func8, Try.ntmps8
    go_wp2_with (first | (go_at_call 10; refine HA.out.mono ?_; rintro e wa ⟨rfl, hba⟩) | (go_at_call 11; ((with_reducible refine (H1 _ hba).out.mono ?_); rintro e wb ⟨rfl, hb⟩; have hbb := hba.trans (hb.mono hba.size))) | (at_builtin; refine wpList_app rfl (.const (.slice none 0 0)) (.tmp 21) 22 rfl wb.heap.size 5 i0 (.int .u8 0) 1 Try.underlying22 hi hz0 hz1 hz2 rfl (.slice none 0 0) 0 [] rfl (World.ownsRow_nil _ _ _ _) w.heap.size .u8 A0 c0 x0 rfl (s0.below hbb) (by unfold maxLen; omega) (by omega) (Nat.le_refl _) ?_; intro v1 w1 own1 grow1; simp only [Nat.zero_add, List.nil_append] at own1; have hc1 := (Below.refl wb.heap.size wb).grown grow1 (Nat.le_refl _) (by simp [Value.ownBlock])) | (at_builtin; refine wpList_app rfl (.tmp 22) (.tmp 24) 22 rfl wb.heap.size 5 i0 (.int .u8 0) 1 Try.underlying22 hi hz0 hz1 hz2 rfl v1 x0.length (x0.map (Value.int .u8)) rfl (own1.alloc _) (w1.heap.size + 1) .u8 (some ⟨w1.heap.size, 0, none⟩) 1 [a1] rfl (one_sl w1 a1) (by unfold maxLen; simp; omega) (by simp; omega) (by have := hc1.size; simp; omega) ?_; intro v2 w2 own2 grow2; have hc2 := (hc1.alloc hc1.size _).grown grow2 (by have := hc1.size; simp; omega) (fun k hk => (own1.lt k hk).1); obtain ⟨Az, cz, hv2, hsz⟩ := HOWN _ _ _ own2; subst hv2; clear own1 own2 grow1 grow2 hc1; have hb2 := hbb.trans (hc2.mono hbb.size)) | (go_at_call 11; ((with_reducible refine (H2 _ _ _ hsz).out.mono ?_); rintro e wd ⟨rfl, hd⟩; have hbd := hb2.trans (hd.mono hb2.size))) | (go_at_call 11; ((with_reducible refine (H3 _).out.mono ?_); rintro e we ⟨rfl, he⟩; have hbe := (hbd.alloc hbd.size _).trans (he.mono (by have := hbd.size; simp; omega)))) | (go_at_call 15; ((with_reducible refine (H4 _).out.mono ?_); rintro e wf ⟨rfl, hf⟩; have hbf := hbe.trans (hf.mono hbe.size))))
    go_ret
    exact ⟨rfl, hbf⟩
  · have hd : 3000 < x0.length := by omega
    go_enter Try.func8, Try.ntmps8
    go_wp2_with (go_at_call 10; refine HA.out.mono ?_; rintro e wa ⟨rfl, hba⟩)
    go_ret
    exact ⟨rfl, hba⟩

theorem own : ownKnob Try.prog.godebug = none := by kernel_rfl
theorem laidOut : laidOutB Try.prog = true := by kernel_rfl

set_option maxRecDepth 100000 in
theorem lifted (os : Os) (started : os.Started) (H : Type) (enc : TypeId × Value → H) :
    ReturnsInHanded {} Try.checked os 8 .any (Rows.adlerZerosSpec.pre6 enc Try.prog Try.f8 Rows.adlerZerosRow.domain false) (Rows.adlerZerosSpec.post enc Try.prog Try.f8 false true false false) := by
  refine returnsInHanded_of_change (C := Try.checked) own started (by kernel_rfl) Try.func8
    (ChangeSpec.witness6 (enc := enc) (C := Try.checked) false ⟨#[], #[.slice none 0 0, .int .u8 0], []⟩ 8 (by kernel_rfl) (by kernel_rfl) (by kernel_rfl) (by kernel_rfl)) ?_
  intro W base args ds gs before hval0 hW hcnd _
  have hval : ∀ (j : Nat) t v, Try.f8.params[j]? = some t → args[j]? = some v → Value.okWide Try.prog W .any base t v := hval0
  have hW' := hW
  obtain ⟨p, q, hA0, hV, rfl, hfz, hnd⟩ := hW
  have hA : DataW.TrodAll enc Try.prog W 0 (fun _ => true) true Try.f8.params.toList args.toList ds p := hA0
  rw [Try.params8] at hA hval
  obtain ⟨v0, vs0, d0, ds0, p0, q0, hargs, rfl, rfl, h0, r0⟩ := trodAll_cons hA
  obtain ⟨v1, vs1, d1, ds1, p1, q1, rfl, rfl, rfl, h1, r1⟩ := trodAll_cons r0
  obtain ⟨rfl, rfl, rfl⟩ := trodAll_nil r1
  obtain rfl : args = #[v0, v1] := by cases args; simp_all
  obtain ⟨rfl, rfl⟩ := trodVars_none hV
  obtain ⟨A0, len0, c0, rfl⟩ := okWide_slice Try.underlying22 (hval 0 22 v0 rfl rfl)
  have k0 := h0
  have lt0 : ∀ x ∈ p0, x.block < W.heap.size := by obtain ⟨m, hm⟩ := k0; exact DataW.trod_lt m _ _ _ hm
  obtain ⟨x0, e0, s0, m0, b0⟩ : ∃ xs : List Int, xs.length = len0 ∧ Sl W W.heap.size .u8 A0 xs ∧ len0 ≤ c0 ∧ ∀ n ∈ xs, (Lit.int .u8 n).wf = true := by
    obtain ⟨fuel, hf⟩ := h0
    rcases open_ints Try.underlying22 Try.underlying5 (by kernel_rfl) hf with ⟨hcs, _⟩ | ⟨x, l, c, zs, hcs, _, hl, hm, hz, _, hcell, hwz⟩
    · simp [Value.cells] at hcs
      obtain ⟨rfl, rfl, rfl⟩ := hcs
      exact ⟨[], rfl, Sl.nil, Nat.le_refl _, fun n hn => by cases hn⟩
    · simp [Value.cells] at hcs
      obtain ⟨rfl, rfl, rfl⟩ := hcs
      have hz' : zs.length = c0 := by simpa using hz
      exact ⟨zs.take _, by simp only [List.length_take]; omega, sl_of_cells hl hz' hcell, hl, fun n hn => hwz n (List.mem_of_mem_take hn)⟩
  subst e0
  obtain ⟨a1, rfl, rfl, rfl, w1⟩ := open_int Try.underlying5 (hval 1 5 v1 rfl rfl) h1
  clear hA0 hval0
  refine (walk A0 c0 x0 a1 W s0 b0 w1).mono fun e W' ⟨he, bel⟩ => ?_
  subst he
  exact ⟨_, rfl, _, _, _, [], _, [], hW', trodAll_mk1 (shut_bool Try.underlying4 _), (trodAll_cons_mk (Below.trod laidOut (by kernel_rfl) (of_decide_eq_true (by kernel_rfl)) k0 bel lt0) (trodAll_cons_mk (shut_int Try.underlying5 w1) trodAll_mk0)), rfl, bel.frame _, fun h => by cases h⟩

theorem over : Rows.adlerZerosRow.holds Try.pinned (OpenSpec.ofChange Rows.adlerZerosSpec) :=
  OpenClaim.holds_of_wide 8 Try.f8 rfl rfl rfl rfl rfl rfl rfl ⟨rfl, rfl, rfl, rfl, rfl⟩ rfl rfl rfl rfl rfl (by kernel_rfl) Try.func8 (by kernel_rfl)
    (of_decide_eq_true (by kernel_rfl)) (by unfold Func.isWrapper; first | (rw [if_pos (by decide +kernel)]; kernel_rfl) | (rw [if_neg (by decide +kernel)]; exact ⟨rfl, rfl⟩))
    (fun os started H enc _ => lifted os started H enc)

theorem proved : Rows.AdlerZerosSaid := over
#print axioms proved
end Go.Proofs.Ytaijfnjlhpfbpaa.adlerZeros
