/-
  ScoreSorts, for every input: what is sorted is all there was, each no less than the one ahead of it; to sort it once more changes nothing: the law answers true, and its arguments read as they did. No conditions.
-/
import Derived.Test.YtjcmlelfmnonkaaRs
import Derived.Test.YtjcmlelfmnonkaaVl
import Derived.ProofKit
import Derived.ShutString
import Derived.ChangeOld
namespace Go.Proofs.Ytjcmlelfmnonkaa.scoreSorts
open Go.ChangeShapes Go.WideShapes Go.ChangeAt Go.RowKit Go.Proofs.Ytjcmlelfmnonkaa.Fl
set_option linter.unusedVariables false
set_option maxRecDepth 100000

theorem count_next {l : List Nat} {i : Nat} (h : i < l.length) (x : Nat) : (l.take (i + 1)).count x = (l.take i).count x + (if l[i] = x then 1 else 0) := by
  rw [List.take_succ_eq_append_getElem h, List.count_append, List.count_singleton]
  congr 1
  by_cases c : l[i] = x
  · simp [c]
  · simp [c]
set_option maxHeartbeats 1600000 in
theorem walk (A0 : Option Addr) (c0 : Nat) (x0 : List Int) (a1 : Int) (w : World) (s0 : Sl w w.heap.size .u64 A0 x0) (b0 : ∀ n ∈ x0, (Lit.int .u64 n).wf = true) (w1 : (Lit.int .u64 a1).wf = true) :
    Calls Try.prog 9 #[.slice A0 x0.length c0, .int .u64 a1] w (UpPost w) := by
  have HA := awake_any w
  obtain ⟨x, rfl, hx⟩ := word_of w1
  obtain ⟨l, rfl, hl⟩ := zs_of b0
  rw [zs_len]
  clear w1 b0
  by_cases h60 : l.length ≤ 60
  · have H3 : ∀ W, Below w.heap.size w W → Hid (Calls Try.prog 20 #[.slice A0 l.length c0] W (SoPost W l)) := fun W hb => sort_any A0 c0 l h60 hl W ((s0.below hb).mono hb.size)
    have HS0 := Lib.hid s0
    clear s0
    go_enter Try.func9, Try.ntmps9
    go_wp2_with fail
    refine HA.out.mono ?_
    rintro e wa ⟨rfl, qa, rfl⟩
    have ba := below_drewN w qa
    generalize w.drewN qa = Wa at *
    go_wp2_with fail
    refine (H3 _ ba).out.mono ?_
    rintro e W2 ⟨Ab, cb, o, rfl, d1, x1, l1, m1, sl1, bb⟩
    have HB2 := Lib.hid (ba.trans (bb.mono ba.size))
    have HD := Lib.hid d1
    have HXO := Lib.hid x1
    have HSL := Lib.hid sl1
    have HLO := Lib.hid l1
    have hb2s := HB2.out.size
    clear d1 x1 sl1 H3 hl ba bb HA
    go_wp2
    go_loopw [7, 8, 9] (fun u v t wr => ∃ i p q : Nat, u = .int .i64 (p : Int) ∧ v = .int .i64 (q : Int) ∧ t = .int .i64 (i : Int) ∧ i ≤ l.length ∧ p ≤ i ∧ q ≤ i ∧ Hid (p = (l.take i).count x) ∧ Hid (q = (o.take i).count x) ∧ Hid (Below W2.heap.size W2 wr)) (fun _ _ t _ => 61 - (intOf t).toNat)
    case atStart => exact ⟨0, 0, 0, rfl, rfl, rfl, by omega, by omega, by omega, Lib.hid (by simp), Lib.hid (by simp), Lib.hid (Below.refl _ _)⟩
    case round =>
      obtain ⟨i, p, q, rfl, rfl, rfl, hi, hp, hq, HP, HQ, HB⟩ := hrel
      rename World => W3
      by_cases hlt : i < l.length
      · have hlo : i < o.length := by omega
        obtain ⟨b, off, rfl, hb, hcell⟩ := ((HS0.out.below HB2.out)).at_ (j := i) (by rw [zs_len]; exact hlt)
        rw [zs_get hlt] at hcell
        obtain ⟨b2, off2, rfl, hb2, hcell2⟩ := HSL.out.at_ (j := i) (by rw [zs_len]; exact hlo)
        rw [zs_get hlo] at hcell2
        have hc1 : ∀ V, Hid (Below W2.heap.size W2 V) → V.cell? ⟨b, off + i, none⟩ = some (.int .u64 (l[i] : Int)) := fun V hv => (hv.out.cell (p := ⟨b, off + i, none⟩) (by show b < W2.heap.size; omega)).trans hcell
        have hc2 : ∀ V, Hid (Below W2.heap.size W2 V) → V.cell? ⟨b2, off2 + i, none⟩ = some (.int .u64 (o[i] : Int)) := fun V hv => (hv.out.cell (p := ⟨b2, off2 + i, none⟩) hb2).trans hcell2
        have HN1 := Lib.hid (count_next hlt x)
        have HN2 := Lib.hid (count_next hlo x)
        have HXI : Hid (o[i] < 18446744073709551616) := Lib.hid (HXO.out _ (List.getElem_mem _))
        have HBQ : ∀ q, Hid (Below W2.heap.size W2 (W3.drewN q)) := fun q => Lib.hid (below_q HB.out q)
        have f1 := hc1 W3 HB
        have f2 := hc2 W3 HB
        have hpo := List.pairwise_iff_getElem.1 HD.out.1
        by_cases hi0 : 0 < i
        · obtain ⟨b3, off3, h3, -, hcell3⟩ := HSL.out.at_ (j := i - 1) (by rw [zs_len]; omega)
          cases h3
          rw [zs_get (by omega : i - 1 < o.length)] at hcell3
          have f3 : W3.cell? ⟨b2, off2 + (i - 1), none⟩ = some (.int .u64 (o[i - 1] : Int)) := (HB.out.cell (p := ⟨b2, off2 + (i - 1), none⟩) hb2).trans hcell3
          have HXK : Hid (o[i - 1] < 18446744073709551616) := Lib.hid (HXO.out _ (List.getElem_mem _))
          have hle : cmp o[i - 1] o[i] ≤ 0 := cmp_le (hpo (i - 1) i (by omega) hlo (by omega))
          have HC : ∀ V, Hid (Calls Try.prog 22 #[.int .u64 (o[i - 1] : Int), .int .u64 (o[i] : Int)] V fun e w1 => e = .returned (.int .i64 (cmp o[i - 1] o[i])) ∧ w1 = V) := fun V => cmp_any o[i - 1] o[i] HXK.out HXI.out V
          have hk1 : ((i - 1 : Nat) : Int) = (i : Int) - 1 := by omega
          have hk0' : decide ((0 : Int) < (i : Int)) = true := decide_eq_true (by omega)
          have hcb : decide (0 < cmp o[i - 1] o[i]) = false := decide_eq_false (by omega)
          clear hle hcell3 hpo
          generalize cmp o[i - 1] o[i] = C at *
          generalize o[i - 1] = z at f3 HC
          generalize l[i] = u at *
          generalize o[i] = v at *
          go_wp2
          go_quiet (((first | (go_at_call 22; with_reducible refine Calls.quiet_of_same (HC _).out))))
          have HB4 := HBQ nq
          generalize W3.drewN nq = W4 at *
          have g1 := hc1 W4 HB4
          have g2 := hc2 W4 HB4
          clear f1 f2 f3 hcell hcell2 hc1 hc2 HBQ
          by_cases e1 : u = x
          · rw [if_pos e1] at HN1
            by_cases e2 : v = x
            · rw [if_pos e2] at HN2
              subst e1
              subst e2
              clear HB
              go_wp2
              go_roundw
              case rel => exact ⟨i + 1, p + 1, q + 1, by go_num, by go_num, by go_num, by omega, by omega, by omega, Lib.hid (by have n1 := HN1.out; have n2 := HP.out; omega), Lib.hid (by have n1 := HN2.out; have n2 := HQ.out; omega), HB4⟩
              case measure => simp [intOf]; omega
            · rw [if_neg e2] at HN2
              subst e1
              have e3 : ((v : Int) == (u : Int)) = false := by rw [beq_eq_false_iff_ne]; omega
              clear HB
              go_wp2
              go_roundw
              case rel => exact ⟨i + 1, p + 1, q, by go_num, by go_num, by go_num, by omega, by omega, by omega, Lib.hid (by have n1 := HN1.out; have n2 := HP.out; omega), Lib.hid (by have n1 := HN2.out; have n2 := HQ.out; omega), HB4⟩
              case measure => simp [intOf]; omega
          · rw [if_neg e1] at HN1
            have e4 : ((u : Int) == (x : Int)) = false := by rw [beq_eq_false_iff_ne]; omega
            by_cases e2 : v = x
            · rw [if_pos e2] at HN2
              subst e2
              clear HB
              go_wp2
              go_roundw
              case rel => exact ⟨i + 1, p, q + 1, by go_num, by go_num, by go_num, by omega, by omega, by omega, Lib.hid (by have n1 := HN1.out; have n2 := HP.out; omega), Lib.hid (by have n1 := HN2.out; have n2 := HQ.out; omega), HB4⟩
              case measure => simp [intOf]; omega
            · rw [if_neg e2] at HN2
              have e3 : ((v : Int) == (x : Int)) = false := by rw [beq_eq_false_iff_ne]; omega
              clear HB
              go_wp2
              go_roundw
              case rel => exact ⟨i + 1, p, q, by go_num, by go_num, by go_num, by omega, by omega, by omega, Lib.hid (by have n1 := HN1.out; have n2 := HP.out; omega), Lib.hid (by have n1 := HN2.out; have n2 := HQ.out; omega), HB4⟩
              case measure => simp [intOf]; omega
        · have hk0' : decide ((0 : Int) < (i : Int)) = false := decide_eq_false (by omega)
          clear hpo
          generalize l[i] = u at *
          generalize o[i] = v at *
          go_wp2
          go_quiet (fail)
          have HB4 := HBQ nq
          generalize W3.drewN nq = W4 at *
          have g1 := hc1 W4 HB4
          have g2 := hc2 W4 HB4
          clear f1 f2 hcell hcell2 hc1 hc2 HBQ
          by_cases e1 : u = x
          · rw [if_pos e1] at HN1
            by_cases e2 : v = x
            · rw [if_pos e2] at HN2
              subst e1
              subst e2
              clear HB
              go_wp2
              go_roundw
              case rel => exact ⟨i + 1, p + 1, q + 1, by go_num, by go_num, by go_num, by omega, by omega, by omega, Lib.hid (by have n1 := HN1.out; have n2 := HP.out; omega), Lib.hid (by have n1 := HN2.out; have n2 := HQ.out; omega), HB4⟩
              case measure => simp [intOf]; omega
            · rw [if_neg e2] at HN2
              subst e1
              have e3 : ((v : Int) == (u : Int)) = false := by rw [beq_eq_false_iff_ne]; omega
              clear HB
              go_wp2
              go_roundw
              case rel => exact ⟨i + 1, p + 1, q, by go_num, by go_num, by go_num, by omega, by omega, by omega, Lib.hid (by have n1 := HN1.out; have n2 := HP.out; omega), Lib.hid (by have n1 := HN2.out; have n2 := HQ.out; omega), HB4⟩
              case measure => simp [intOf]; omega
          · rw [if_neg e1] at HN1
            have e4 : ((u : Int) == (x : Int)) = false := by rw [beq_eq_false_iff_ne]; omega
            by_cases e2 : v = x
            · rw [if_pos e2] at HN2
              subst e2
              clear HB
              go_wp2
              go_roundw
              case rel => exact ⟨i + 1, p, q + 1, by go_num, by go_num, by go_num, by omega, by omega, by omega, Lib.hid (by have n1 := HN1.out; have n2 := HP.out; omega), Lib.hid (by have n1 := HN2.out; have n2 := HQ.out; omega), HB4⟩
              case measure => simp [intOf]; omega
            · rw [if_neg e2] at HN2
              have e3 : ((v : Int) == (x : Int)) = false := by rw [beq_eq_false_iff_ne]; omega
              clear HB
              go_wp2
              go_roundw
              case rel => exact ⟨i + 1, p, q, by go_num, by go_num, by go_num, by omega, by omega, by omega, Lib.hid (by have n1 := HN1.out; have n2 := HP.out; omega), Lib.hid (by have n1 := HN2.out; have n2 := HQ.out; omega), HB4⟩
              case measure => simp [intOf]; omega
      · have hii : i = l.length := by omega
        have hpq : p = q := by
          have h1 := HP.out
          have h2 := HQ.out
          rw [hii, List.take_length] at h1
          rw [hii, ← l1, List.take_length, sd_count HD.out] at h2
          rw [h1, h2]
        have HR : Hid (Calls Try.prog 20 #[.slice Ab l.length cb] W3 (SoPost W3 o)) := by
          rw [← l1]
          exact sort_any Ab cb o (by omega) HXO.out W3 ((HSL.out.below HB.out).mono HB.out.size)
        clear HP HQ
        subst hpq
        go_wp2_with fail
        with_reducible refine HR.out.mono ?_
        rintro e W4 ⟨A4, c4, o4, rfl, d4, x4, l4, m4, sl4, b4⟩
        have eo : o4 = o := sd_one d4 (sd_self HD.out)
        subst eo
        have b24 := HB.out.trans (b4.mono HB.out.size)
        have HSM : Hid (Calls Try.prog 19 #[.slice A4 l.length c4, .slice Ab l.length cb] W4 (BPost W4)) := by
          rw [← l1]
          exact same_any A4 Ab c4 cb o4 W4 (by omega) sl4 ((HSL.out.below b24).mono b24.size)
        clear d4 x4 sl4 HR
        go_wp2_with fail
        with_reducible refine HSM.out.mono ?_
        rintro e W5 ⟨rfl, b5⟩
        go_wp2
        go_ret
        exact ⟨rfl, (HB2.out.trans (b24.mono hb2s)).trans (b5.mono (by have := b24.size; omega))⟩
  · clear hl s0 hx
    go_enter Try.func9, Try.ntmps9
    go_wp2_with fail
    refine HA.out.mono ?_
    rintro e wa ⟨rfl, qa, rfl⟩
    go_wp2
    all_goals first | (exfalso; omega) | (go_ret; exact ⟨rfl, below_drewN w _⟩)

theorem own : ownKnob Try.prog.godebug = none := by kernel_rfl
theorem laidOut : laidOutB Try.prog = true := by kernel_rfl

set_option maxRecDepth 100000 in
theorem lifted (os : Os) (started : os.Started) (H : Type) (enc : TypeId × Value → H) :
    ReturnsInHanded {} Try.checked os 9 .any (Rows.scoreSortsSpec.pre6 enc Try.prog Try.f9 Rows.scoreSortsRow.domain false) (Rows.scoreSortsSpec.post enc Try.prog Try.f9 false true false false) := by
  refine returnsInHanded_of_change (C := Try.checked) own started (by kernel_rfl) Try.func9
    (ChangeSpec.witness6 (enc := enc) (C := Try.checked) false ⟨#[], #[.slice none 0 0, .int .u64 0], []⟩ 8 (by kernel_rfl) (by kernel_rfl) (by kernel_rfl) (by kernel_rfl)) ?_
  intro W base args ds gs before hval0 hW hcnd _
  have hval : ∀ (j : Nat) t v, Try.f9.params[j]? = some t → args[j]? = some v → Value.okWide Try.prog W .any base t v := hval0
  have hW' := hW
  obtain ⟨p, q, hA0, hV, rfl, hfz, hnd⟩ := hW
  have hA : DataW.TrodAll enc Try.prog W 0 (fun _ => true) true Try.f9.params.toList args.toList ds p := hA0
  rw [Try.params9] at hA hval
  obtain ⟨v0, vs0, d0, ds0, p0, q0, hargs, rfl, rfl, h0, r0⟩ := trodAll_cons hA
  obtain ⟨v1, vs1, d1, ds1, p1, q1, rfl, rfl, rfl, h1, r1⟩ := trodAll_cons r0
  obtain ⟨rfl, rfl, rfl⟩ := trodAll_nil r1
  obtain rfl : args = #[v0, v1] := by cases args; simp_all
  obtain ⟨rfl, rfl⟩ := trodVars_none hV
  obtain ⟨A0, len0, c0, rfl⟩ := okWide_slice Try.underlying27 (hval 0 27 v0 rfl rfl)
  have k0 := h0
  have lt0 : ∀ x ∈ p0, x.block < W.heap.size := by obtain ⟨m, hm⟩ := k0; exact DataW.trod_lt m _ _ _ hm
  obtain ⟨x0, e0, s0, m0, b0⟩ : ∃ xs : List Int, xs.length = len0 ∧ Sl W W.heap.size .u64 A0 xs ∧ len0 ≤ c0 ∧ ∀ n ∈ xs, (Lit.int .u64 n).wf = true := by
    obtain ⟨fuel, hf⟩ := h0
    rcases open_ints Try.underlying27 Try.underlying23 (by kernel_rfl) hf with ⟨hcs, _⟩ | ⟨x, l, c, zs, hcs, _, hl, hm, hz, _, hcell, hwz⟩
    · simp [Value.cells] at hcs
      obtain ⟨rfl, rfl, rfl⟩ := hcs
      exact ⟨[], rfl, Sl.nil, Nat.le_refl _, fun n hn => by cases hn⟩
    · simp [Value.cells] at hcs
      obtain ⟨rfl, rfl, rfl⟩ := hcs
      have hz' : zs.length = c0 := by simpa using hz
      exact ⟨zs.take _, by simp only [List.length_take]; omega, sl_of_cells hl hz' hcell, hl, fun n hn => hwz n (List.mem_of_mem_take hn)⟩
  subst e0
  obtain ⟨a1, rfl, rfl, rfl, w1⟩ := open_int Try.underlying23 (hval 1 23 v1 rfl rfl) h1
  clear hA0 hval0
  refine (walk A0 c0 x0 a1 W s0 b0 w1).mono fun e W' ⟨he, bel⟩ => ?_
  subst he
  exact ⟨_, rfl, _, _, _, [], _, [], hW', trodAll_mk1 (shut_bool Try.underlying4 _), (trodAll_cons_mk (Below.trod laidOut (by kernel_rfl) (of_decide_eq_true (by kernel_rfl)) k0 bel lt0) (trodAll_cons_mk (shut_int Try.underlying23 w1) trodAll_mk0)), rfl, bel.frame _, fun h => by cases h⟩

theorem over : Rows.scoreSortsRow.holds Try.pinned (OpenSpec.ofChange Rows.scoreSortsSpec) :=
  OpenClaim.holds_of_wide 9 Try.f9 rfl rfl rfl rfl rfl rfl rfl ⟨rfl, rfl, rfl, rfl, rfl⟩ rfl rfl rfl rfl rfl (by kernel_rfl) Try.func9 (by kernel_rfl)
    (of_decide_eq_true (by kernel_rfl)) (by unfold Func.isWrapper; first | (rw [if_pos (by decide +kernel)]; kernel_rfl) | (rw [if_neg (by decide +kernel)]; exact ⟨rfl, rfl⟩))
    (fun os started H enc _ => lifted os started H enc)

theorem proved : Rows.ScoreSortsSaid := over
#print axioms proved
end Go.Proofs.Ytjcmlelfmnonkaa.scoreSorts
