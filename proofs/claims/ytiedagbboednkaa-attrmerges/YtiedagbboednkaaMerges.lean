/-
  What any attributes are together is what the document says: AttrMerges answers true whatever the attributes; they read as they did. Conditions: none.
-/
import Derived.Test.YtiedagbboednkaaOpen
import Derived.Test.YtiedagbboednkaaRall
import Derived.Deep.RegionLaw
import Derived.Deep.AppendLies
namespace Go.Proofs.Ytiedagbboednkaa.attrMerges
open Go.ChangeShapes Go.WideShapes Go.ChangeAt Go.RowKit
set_option linter.unusedVariables false
set_option linter.unusedSimpArgs false

theorem long (A0 : Option Addr) (c0 : Nat) (x0 : List (Int × List Int)) (w : World) (hl : (20 : Int) < (x0.length : Int)) : Calls Try.prog 4 #[.slice A0 x0.length c0] w (UpPost w) := by
  go_enter Try.func4, Try.ntmps4
  go_wp2_with fail
  refine (awake_any w).mono ?_
  rintro e w1 ⟨rfl, B1⟩
  go_wp2
  go_ret
  exact ⟨rfl, B1⟩

theorem take_bd {l : List (Int × List Int)} {k : Nat} (h : k < l.length) (ha : ∀ r ∈ l.take k, r.2.length ≤ 50) (hk : (l[k]).2.length ≤ 50) : ∀ r ∈ l.take (k + 1), r.2.length ≤ 50 := by
  intro r hr
  rw [List.take_succ_eq_append_getElem h, List.mem_append] at hr
  rcases hr with hr | hr
  · exact ha r hr
  · simp at hr; subst hr; exact hk

set_option maxHeartbeats 1600000 in
theorem rest (A0 : Option Addr) (c0 : Nat) (x0 : List (Int × List Int)) (w : World) (s0 : Rc w w.heap.size A0 x0) (hl : ¬ (20 : Int) < (x0.length : Int)) : Calls Try.prog 4 #[.slice A0 x0.length c0] w (UpPost w) := by
  go_enter Try.func4, Try.ntmps4
  go_wp2_with fail
  refine (awake_any w).mono ?_
  rintro e w1 ⟨rfl, B1⟩
  have q1 := B1.size
  have RC := (s0.below B1).mono q1
  have hl' : x0.length ≤ 20 := by omega
  go_wp2_with fail
  go_loopw [4] (fun i wr => ∃ k : Nat, k ≤ x0.length ∧ i = .int .i64 (k : Int) ∧ (∀ r ∈ x0.take k, r.2.length ≤ 50) ∧ Below w1.heap.size w1 wr) (fun i _ => x0.length - (intOf i).toNat)
  case atStart => exact ⟨0, Nat.zero_le _, rfl, fun r hr => by simp at hr, Below.refl _ _⟩
  case round =>
    obtain ⟨k, hk, rfl, hall, hbel⟩ := hrel
    have HA := Lib.hid hall
    clear hall
    have hsz := hbel.size
    have BE := B1.trans (hbel.mono q1)
    by_cases hlt : k < x0.length
    · obtain ⟨b, off, A', c', rfl, hb, g0, g1, _⟩ := (RC.below hbel).at_ hlt
      have hki : (k : Int) < (x0.length : Int) := by omega
      have HT := Lib.hid (take_bd hlt HA.out)
      generalize x0[k] = r at *
      obtain ⟨a, xs⟩ := r
      simp only at g0 g1 HT
      have HF : Hid (Calls Try.prog 10 #[.agg #[.int .i64 a, .slice A' xs.length c']] wr (BoolPost wr (decide ((xs.length : Int) ≤ 50)))) := few_any a A' xs.length c' wr
      rcases hf : decide ((xs.length : Int) ≤ 50) with _ | _
      · rw [hf] at HF
        clear hf
        go_wp2_with fail
        refine HF.out.mono ?_
        rintro e w2 ⟨rfl, B2⟩
        go_wp2
        go_ret
        exact ⟨rfl, BE.trans (B2.mono (by omega))⟩
      · rw [hf] at HF
        have HT' := Lib.hid (HT.out (by have := of_decide_eq_true hf; omega))
        clear hf HT HA
        go_wp2_with fail
        refine HF.out.mono ?_
        rintro e w2 ⟨rfl, B2⟩
        have B3 := hbel.trans (B2.mono hsz)
        go_wp2
        go_roundw
        case rel => exact ⟨k + 1, by omega, by go_num, HT'.out, B3⟩
        case measure => simp [intOf]; omega
    · obtain rfl : k = x0.length := by omega
      have hall := HA.out
      rw [List.take_length] at hall
      have hlg : lg x0 ≤ 1000 := Nat.le_trans (lg_bd x0 hall) (by decide)
      have H1 : Hid (Calls Try.prog 19 #[.slice A0 x0.length c0] wr (AtPost wr (sq x0) (mg x0))) := merge_any A0 c0 x0 wr (by omega) hlg ((RC.below hbel).mono hsz)
      have H2 : ∀ W, Below wr.heap.size wr W → Hid (Calls Try.prog 20 #[.slice A0 x0.length c0] W (AtPost W (sq x0) (mg x0))) := fun W hW => rall_any A0 c0 x0 W (by omega) hlg ((((RC.below hbel).mono hsz).below hW).mono hW.size)
      have hml : (mg x0).length ≤ 4611686018427387904 := by rw [mg_len]; omega
      have H3 : ∀ A A' c c' W, Sl W W.heap.size .i64 A (mg x0) → Sl W W.heap.size .i64 A' (mg x0) → Hid (Calls Try.prog 21 #[.slice A (mg x0).length c, .slice A' (mg x0).length c'] W (UpPost W)) := fun A A' c c' W e1 e2 => eq_any A A' c c' (mg x0) W hml e1 e2
      clear hall HA hlg hml RC s0
      generalize sq x0 = s at *
      generalize mg x0 = ms at *
      go_wp2_with fail
      refine H1.out.mono ?_
      rintro e w2 ⟨A2, c2, rfl, S2, B2⟩
      have q2 := B2.size
      have BN := (Below.refl w2.heap.size w2).alloc (Nat.le_refl _) (.cells #[.int .i64 s, .slice A2 ms.length c2] 24)
      have R2 := rb_new w2 s A2 ms.length c2
      have S3 := S2.up BN
      have B3 := B2.trans (BN.mono q2)
      have H2' := H2 _ B3
      have BE3 := BE.trans (B3.mono BE.size)
      have z2 : w2.heap.size < (w2.alloc (.cells #[.int .i64 s, .slice A2 ms.length c2] 24)).heap.size := by simp
      clear H1 H2 B2 BN S2
      go_wp2_with fail
      generalize w2.alloc (.cells #[.int .i64 s, .slice A2 ms.length c2] 24) = W3 at *
      refine H2'.out.mono ?_
      rintro e w4 ⟨A4, c4, rfl, S4, B4⟩
      have q4 := B4.size
      have BN := (Below.refl w4.heap.size w4).alloc (Nat.le_refl _) (.cells #[.int .i64 s, .slice A4 ms.length c4] 24)
      have R4 := rb_new w4 s A4 ms.length c4
      have S5 := S4.up BN
      have B5 := B4.trans (BN.mono q4)
      have S6 := S3.up B5
      have R5 := R2.on B5 z2
      have H3' := H3 A2 A4 c2 c4 _ S6 S5
      have BE5 := BE3.trans (B5.mono BE3.size)
      have z4 : w4.heap.size < (w4.alloc (.cells #[.int .i64 s, .slice A4 ms.length c4] 24)).heap.size := by simp
      clear H3 S3 S4 S5 S6 H2' B4 BN R2
      obtain ⟨p0, p1⟩ := id R5
      obtain ⟨r0, r1⟩ := id R4
      go_wp2_with fail
      generalize w4.alloc (.cells #[.int .i64 s, .slice A4 ms.length c4] 24) = W5 at *
      clear p0 p1 r0 r1
      refine H3'.out.mono ?_
      rintro e w6 ⟨rfl, B6⟩
      have z5 : w2.heap.size < W5.heap.size := by have := B5.size; omega
      obtain ⟨p0, p1⟩ := R5.on B6 z5
      obtain ⟨r0, r1⟩ := R4.on B6 z4
      have BE6 := BE5.trans (B6.mono BE5.size)
      go_wp2
      go_ret
      exact ⟨rfl, BE6⟩

theorem walk (A0 : Option Addr) (c0 : Nat) (x0 : List (Int × List Int)) (w : World) (s0 : Rc w w.heap.size A0 x0) : Calls Try.prog 4 #[.slice A0 x0.length c0] w (UpPost w) := by
  by_cases hl : (20 : Int) < (x0.length : Int)
  · exact long A0 c0 x0 w hl
  · exact rest A0 c0 x0 w s0 hl

theorem own : ownKnob Try.prog.godebug = none := by kernel_rfl
theorem laidOut : laidOutB Try.prog = true := by kernel_rfl

set_option maxRecDepth 100000 in
theorem lifted (os : Os) (started : os.Started) (H : Type) (enc : TypeId × Value → H) :
    ReturnsInHanded {} Try.checked os 4 .any (Rows.attrMergesSpec.pre6 enc Try.prog Try.f4 Rows.attrMergesRow.domain false) (Rows.attrMergesSpec.post enc Try.prog Try.f4 false true false false) := by
  refine returnsInHanded_of_change (C := Try.checked) own started (by kernel_rfl) Try.func4
    (ChangeSpec.witness6 (enc := enc) (C := Try.checked) false ⟨#[], #[.slice none 0 0], []⟩ 8 (by kernel_rfl) (by kernel_rfl) (by kernel_rfl) (by kernel_rfl)) ?_
  intro W base args ds gs before hval0 hW hcnd _
  have hval : ∀ (j : Nat) t v, Try.f4.params[j]? = some t → args[j]? = some v → Value.okWide Try.prog W .any base t v := hval0
  have hW' := hW
  obtain ⟨p, q, hA, hV, rfl, hfz, hnd⟩ := hW
  have hA : DataW.TrodAll enc Try.prog W 0 (fun _ => true) true Try.f4.params.toList args.toList ds p := hA
  rw [Try.params4] at hA hval
  obtain ⟨v0, vs0, d0, ds0, p0, q0, hargs, rfl, rfl, h0, r0⟩ := trodAll_cons hA
  obtain ⟨rfl, rfl, rfl⟩ := trodAll_nil r0
  obtain rfl : args = #[v0] := by cases args; simp_all
  obtain ⟨rfl, rfl⟩ := trodVars_none hV
  have k0 := h0
  have lt0 : ∀ x ∈ p0, x.block < W.heap.size := by obtain ⟨m, hm⟩ := k0; exact DataW.trod_lt m _ _ _ hm
  obtain ⟨A0, c0, x0, rfl, s0⟩ := open_attrs (hval 0 33 v0 rfl rfl) h0
  clear hval0
  refine (walk A0 c0 x0 W s0).mono fun e W' ⟨he, bel⟩ => ?_
  subst he
  exact ⟨_, rfl, _, _, _, [], _, [], hW', trodAll_mk1 (shut_bool Try.underlying4 _), (trodAll_cons_mk (Below.trod laidOut (by kernel_rfl) (of_decide_eq_true (by kernel_rfl)) k0 bel lt0) trodAll_mk0), rfl, bel.frame _, fun h => by cases h⟩

theorem over : Rows.attrMergesRow.holds Try.pinned (OpenSpec.ofChange Rows.attrMergesSpec) :=
  OpenClaim.holds_of_wide 4 Try.f4 rfl rfl rfl rfl rfl rfl rfl ⟨rfl, rfl, rfl, rfl, rfl⟩ rfl rfl rfl rfl rfl (by kernel_rfl) Try.func4 (by kernel_rfl)
    (of_decide_eq_true (by kernel_rfl)) (by unfold Func.isWrapper; first | (rw [if_pos (by decide +kernel)]; kernel_rfl) | (rw [if_neg (by decide +kernel)]; exact ⟨rfl, rfl⟩))
    (fun os started H enc _ => lifted os started H enc)

theorem proved : Rows.AttrMergesSaid := over
#print axioms proved
end Go.Proofs.Ytiedagbboednkaa.attrMerges
