/-
  None of some is greater than the greatest one, and that is one of them: BallotMost answers true whatever the slice of ballots; it reads as it did. Conditions: none.
-/
import Derived.Test.YtnlpfapfijckiaaOpen
import Derived.Deep.RegionLaw
import Derived.Deep.AppendLies
namespace Go.Proofs.Ytnlpfapfijckiaa.ballotMost
open Go.ChangeShapes Go.WideShapes Go.ChangeAt Go.RowKit
set_option linter.unusedVariables false
set_option linter.unusedSimpArgs false
attribute [local go_sem ↓ high] eq23 guard23 neq23 guard23n

theorem below_drewN {B : Nat} {w v : World} (h : Below B w v) (n : Nat) : Below B w (v.drewN n) := ⟨h.os, h.tape, h.output, h.size, h.block⟩

theorem long (A0 : Option Addr) (c0 : Nat) (x0 : List (Int × Int)) (w : World) (s0 : Bs w w.heap.size A0 x0) (m0 : x0.length ≤ c0) (hl : (100 : Int) < (x0.length : Int)) : Calls Try.prog 6 #[.slice A0 x0.length c0] w (UpPost w) := by
  go_enter Try.func6, Try.ntmps6
  go_wp2_with fail
  refine (awake_any w).mono ?_
  rintro e w1 ⟨rfl, B1⟩
  go_wp2
  go_ret
  exact ⟨rfl, B1⟩

theorem none_ (A0 : Option Addr) (c0 : Nat) (w : World) : Calls Try.prog 6 #[.slice A0 0 c0] w (UpPost w) := by
  go_enter Try.func6, Try.ntmps6
  go_wp2_with fail
  refine (awake_any w).mono ?_
  rintro e w1 ⟨rfl, B1⟩
  go_wp2
  go_ret
  exact ⟨rfl, B1⟩

theorem flag_next {l : List (Int × Int)} {k : Nat} (hk : k < l.length) {m : Int × Int} (h : m ∉ l.take k) (hn : ¬ l[k] = m) : m ∉ l.take (k + 1) := by
  rw [List.take_succ_eq_append_getElem hk, List.mem_append]
  rintro (h' | h')
  · exact h h'
  · simp at h'; exact hn h'.symm

set_option maxHeartbeats 4000000 in
theorem rest (mx my : Int) (A0 : Option Addr) (c0 : Nat) (x0 : List (Int × Int)) (w : World) (s0 : Bs w w.heap.size A0 x0) (m0 : x0.length ≤ c0) (hl : ¬ (100 : Int) < (x0.length : Int)) (h0 : 0 < x0.length) (hm : (mx, my) ∈ x0) (hle : ∀ r ∈ x0, le r (mx, my))
    (HO : ∀ W, Bs W W.heap.size A0 x0 → Hid (Calls Try.prog 15 #[.slice A0 x0.length c0] W (BalPost W mx my))) : Calls Try.prog 6 #[.slice A0 x0.length c0] w (UpPost w) := by
  have hn0 : ((x0.length : Int) == 0) = false := by rw [beq_eq_false_iff_ne]; omega
  have hl' : x0.length ≤ 100 := by omega
  have HM := Lib.hid hm
  have HLE := Lib.hid hle
  clear hm hle
  go_enter Try.func6, Try.ntmps6
  go_wp2_with fail
  refine (awake_any w).mono ?_
  rintro e w1 ⟨rfl, B1⟩
  have q1 := B1.size
  have Y1 := s0.up B1
  go_wp2_with fail
  refine (HO _ Y1).out.mono ?_
  rintro e w2 ⟨rfl, B2⟩
  have q2 := B2.size
  have CM := (bx_new w2 mx my).bb
  have N2 := one_below w2 mx my
  have B3 := B2.trans (N2.mono q2)
  have Y3 := Y1.up B3
  have BE := B1.trans (B3.mono q1)
  have zM := CM.lt
  clear HO s0 Y1 B1 B2 N2 B3 q1 q2
  go_wp2_with fail
  generalize w2.alloc (.cells #[.int .i64 mx, .int .i64 my] 23) = W3 at *
  generalize w2.heap.size = M at *
  go_loopw [5, 6] (fun f i wr => ∃ (k : Nat) (b : Bool), k ≤ x0.length ∧ f = .bool b ∧ i = .int .i64 (k : Int) ∧ (b = false → (mx, my) ∉ x0.take k) ∧ Below W3.heap.size W3 wr) (fun _ i _ => x0.length - (intOf i).toNat)
  case atStart => exact ⟨0, false, Nat.zero_le _, rfl, rfl, fun _ => by simp, Below.refl _ _⟩
  case round =>
    obtain ⟨k, f, hk, rfl, rfl, hf, hbel⟩ := hrel
    have HF := Lib.hid hf
    clear hf
    have hsz := hbel.size
    have C1 := CM.on hbel zM
    have BX := BE.trans (hbel.mono BE.size)
    by_cases hlt : k < x0.length
    · obtain ⟨b, off, rfl, hb, g0, g1⟩ := (Y3.below hbel).at_ hlt
      have hki : (k : Int) < (x0.length : Int) := by omega
      have HT := Lib.hid (flag_next (m := (mx, my)) hlt)
      have HL := HLE.out x0[k] (List.getElem_mem hlt)
      generalize x0[k] = r at *
      obtain ⟨u, v⟩ := r
      simp only at g0 g1
      have HC : ∀ W, Hid (Calls Try.prog 13 #[.agg #[.int .i64 u, .int .i64 v], .agg #[.int .i64 mx, .int .i64 my]] W (IntPost W (cm u v mx my))) := fun W => cmp_any u v mx my W
      have hc : cm u v mx my ≤ 0 := cm_le HL
      clear HL HLE HM
      generalize cm u v mx my = d at *
      have hbw : b < wr.heap.size := by omega
      have zw : M < wr.heap.size := by omega
      have KB : ∀ p q, Below wr.heap.size p q → (Bb p M mx my ∧ (p.cell? ⟨b, off + k * 2, none⟩ = some (.int .i64 u) ∧ p.cell? ⟨b, off + k * 2 + 1, none⟩ = some (.int .i64 v)) ∧ Below wr.heap.size wr p) → (Bb q M mx my ∧ (q.cell? ⟨b, off + k * 2, none⟩ = some (.int .i64 u) ∧ q.cell? ⟨b, off + k * 2 + 1, none⟩ = some (.int .i64 v)) ∧ Below wr.heap.size wr q) := fun p q hb hS => ⟨hS.1.on hb zw, ⟨(hb.cell (p := ⟨b, off + k * 2, none⟩) hbw).trans hS.2.1.1, (hb.cell (p := ⟨b, off + k * 2 + 1, none⟩) hbw).trans hS.2.1.2⟩, hS.2.2.trans hb⟩
      have KN : Hid (∀ n, (Bb (wr.drewN n) M mx my ∧ ((wr.drewN n).cell? ⟨b, off + k * 2, none⟩ = some (.int .i64 u) ∧ (wr.drewN n).cell? ⟨b, off + k * 2 + 1, none⟩ = some (.int .i64 v)) ∧ Below wr.heap.size wr (wr.drewN n))) := fun n => KB _ _ (below_drewN (Below.refl _ _) n) ⟨C1, ⟨g0, g1⟩, Below.refl _ _⟩
      have KD : Hid (∀ p, (Bb p M mx my ∧ (p.cell? ⟨b, off + k * 2, none⟩ = some (.int .i64 u) ∧ p.cell? ⟨b, off + k * 2 + 1, none⟩ = some (.int .i64 v)) ∧ Below wr.heap.size wr p) → (Bb p.drew M mx my ∧ (p.drew.cell? ⟨b, off + k * 2, none⟩ = some (.int .i64 u) ∧ p.drew.cell? ⟨b, off + k * 2 + 1, none⟩ = some (.int .i64 v)) ∧ Below wr.heap.size wr p.drew)) := fun p hS => KB _ _ (Below.refl _ _).drew hS
      have KS : Hid (∀ p q, Below p.heap.size p q → (Bb p M mx my ∧ (p.cell? ⟨b, off + k * 2, none⟩ = some (.int .i64 u) ∧ p.cell? ⟨b, off + k * 2 + 1, none⟩ = some (.int .i64 v)) ∧ Below wr.heap.size wr p) → (Bb q M mx my ∧ (q.cell? ⟨b, off + k * 2, none⟩ = some (.int .i64 u) ∧ q.cell? ⟨b, off + k * 2 + 1, none⟩ = some (.int .i64 v)) ∧ Below wr.heap.size wr q)) := fun p q hb hS => KB _ _ (hb.mono hS.2.2.size) hS
      clear KB
      have hq0 : Hid (((u == mx) && (v == my)) = false → ¬ (u, v) = (mx, my)) := fun h e => by
        simp only [Prod.mk.injEq] at e
        obtain ⟨rfl, rfl⟩ := e
        simp at h
      obtain ⟨p0, p1⟩ := id C1
      cases f
      · generalize hq : ((u == mx) && (v == my)) = q at *
        have HQ := Lib.hid (fun h : q = false => HT.out (HF.out rfl) (hq0.out h))
        clear HT HF hq0
        go_wp2_with fail
        go_quiet (fail)
        clear p0 p1 g0 g1 C1
        generalize hV : wr.drewN _ = V at *
        have S0 : (Bb V M mx my ∧ (V.cell? ⟨b, off + k * 2, none⟩ = some (.int .i64 u) ∧ V.cell? ⟨b, off + k * 2 + 1, none⟩ = some (.int .i64 v)) ∧ Below wr.heap.size wr V) := by rw [← hV]; exact KN.out _
        clear KN hV
        obtain ⟨p0, p1⟩ := id S0.1
        obtain ⟨g0, g1⟩ := id S0.2.1
        go_wp2_with fail
        go_region_held3 (fun p => (p.cell? ⟨M, 0, none⟩ = some (.int .i64 mx) ∧ p.cell? ⟨M, 1, none⟩ = some (.int .i64 my)) ∧ (p.cell? ⟨b, off + k * 2, none⟩ = some (.int .i64 u) ∧ p.cell? ⟨b, off + k * 2 + 1, none⟩ = some (.int .i64 v)) ∧ Below wr.heap.size wr p)
          (first | (exact S0) | (exact KD.out _ S0) | (refine KS.out _ _ hbm ?_; first | assumption | exact KD.out _ S0) | (refine KD.out _ ?_; assumption))
          (first | (go_at_call 13; (with_reducible refine (HC _).out.mono ?_); rintro e wm ⟨rfl, hbm⟩))
        all_goals (
          rename_i hSx
          have B9 := hbel.trans (hSx.2.2.mono hsz)
          clear KD KS S0 p0 p1 g0 g1 HC hSx
          go_wp2
          go_roundw
          case rel => exact ⟨k + 1, _, by omega, rfl, by go_num, HQ.out, B9⟩
          case measure => simp [intOf]; omega)
      · clear hq0 HT HF
        go_wp2_with fail
        go_quiet (fail)
        clear p0 p1 g0 g1 C1
        generalize hV : wr.drewN _ = V at *
        have S0 : (Bb V M mx my ∧ (V.cell? ⟨b, off + k * 2, none⟩ = some (.int .i64 u) ∧ V.cell? ⟨b, off + k * 2 + 1, none⟩ = some (.int .i64 v)) ∧ Below wr.heap.size wr V) := by rw [← hV]; exact KN.out _
        clear KN hV
        obtain ⟨p0, p1⟩ := id S0.1
        obtain ⟨g0, g1⟩ := id S0.2.1
        go_wp2_with fail
        go_region_held3 (fun p => (p.cell? ⟨M, 0, none⟩ = some (.int .i64 mx) ∧ p.cell? ⟨M, 1, none⟩ = some (.int .i64 my)) ∧ (p.cell? ⟨b, off + k * 2, none⟩ = some (.int .i64 u) ∧ p.cell? ⟨b, off + k * 2 + 1, none⟩ = some (.int .i64 v)) ∧ Below wr.heap.size wr p)
          (first | (exact S0) | (exact KD.out _ S0) | (refine KS.out _ _ hbm ?_; first | assumption | exact KD.out _ S0) | (refine KD.out _ ?_; assumption))
          (first | (go_at_call 13; (with_reducible refine (HC _).out.mono ?_); rintro e wm ⟨rfl, hbm⟩))
        all_goals (
          rename_i hSx
          have B9 := hbel.trans (hSx.2.2.mono hsz)
          clear KD KS S0 p0 p1 g0 g1 HC hSx
          go_wp2
          go_roundw
          case rel => exact ⟨k + 1, _, by omega, rfl, by go_num, (fun h => by cases h), B9⟩
          case measure => simp [intOf]; omega)
    · obtain rfl : k = x0.length := by omega
      have h1 := HF.out
      rw [List.take_length] at h1
      cases f
      · exact absurd HM.out (h1 rfl)
      · clear h1 HF HM HLE
        go_wp2
        go_ret
        exact ⟨rfl, BX⟩

theorem walk (A0 : Option Addr) (c0 : Nat) (x0 : List (Int × Int)) (w : World) (s0 : Bs w w.heap.size A0 x0) (m0 : x0.length ≤ c0) : Calls Try.prog 6 #[.slice A0 x0.length c0] w (UpPost w) := by
  by_cases hl : (100 : Int) < (x0.length : Int)
  · exact long A0 c0 x0 w s0 m0 hl
  · rcases Nat.eq_zero_or_pos x0.length with h0 | h0
    · rw [h0]
      exact none_ A0 c0 w
    · exact rest (ms x0).1 (ms x0).2 A0 c0 x0 w s0 m0 hl h0 (mem_ms h0) (fun r hr => le_ms hr) (fun W h => most_any A0 c0 x0 W (by omega) m0 h)

theorem own : ownKnob Try.prog.godebug = none := by kernel_rfl
theorem laidOut : laidOutB Try.prog = true := by kernel_rfl

set_option maxRecDepth 100000 in
theorem lifted (os : Os) (started : os.Started) (H : Type) (enc : TypeId × Value → H) :
    ReturnsInHanded {} Try.checked os 6 .any (Rows.ballotMostSpec.pre6 enc Try.prog Try.f6 Rows.ballotMostRow.domain false) (Rows.ballotMostSpec.post enc Try.prog Try.f6 false true false false) := by
  refine returnsInHanded_of_change (C := Try.checked) own started (by kernel_rfl) Try.func6
    (ChangeSpec.witness6 (enc := enc) (C := Try.checked) false ⟨#[], #[.slice none 0 0], []⟩ 8 (by kernel_rfl) (by kernel_rfl) (by kernel_rfl) (by kernel_rfl)) ?_
  intro W base args ds gs before hval0 hW hcnd _
  have hval : ∀ (j : Nat) t v, Try.f6.params[j]? = some t → args[j]? = some v → Value.okWide Try.prog W .any base t v := hval0
  have hW' := hW
  obtain ⟨p, q, hA, hV, rfl, hfz, hnd⟩ := hW
  have hA : DataW.TrodAll enc Try.prog W 0 (fun _ => true) true Try.f6.params.toList args.toList ds p := hA
  rw [Try.params6] at hA hval
  obtain ⟨v0, vs0, d0, ds0, p0, q0, hargs, rfl, rfl, h0, r0⟩ := trodAll_cons hA
  obtain ⟨rfl, rfl, rfl⟩ := trodAll_nil r0
  obtain rfl : args = #[v0] := by cases args; simp_all
  obtain ⟨rfl, rfl⟩ := trodVars_none hV
  have k0 := h0
  have lt0 : ∀ x ∈ p0, x.block < W.heap.size := by obtain ⟨m, hm⟩ := k0; exact DataW.trod_lt m _ _ _ hm
  obtain ⟨A0, c0, x0, rfl, s0, m0⟩ := open_bals (hval 0 24 v0 rfl rfl) h0
  clear hval0
  refine (walk A0 c0 x0 W s0 m0).mono fun e W' ⟨he, bel⟩ => ?_
  subst he
  exact ⟨_, rfl, _, _, _, [], _, [], hW', trodAll_mk1 (shut_bool Try.underlying4 _), (trodAll_cons_mk (Below.trod laidOut (by kernel_rfl) (of_decide_eq_true (by kernel_rfl)) k0 bel lt0) trodAll_mk0), rfl, bel.frame _, fun h => by cases h⟩

theorem over : Rows.ballotMostRow.holds Try.pinned (OpenSpec.ofChange Rows.ballotMostSpec) :=
  OpenClaim.holds_of_wide 6 Try.f6 rfl rfl rfl rfl rfl rfl rfl ⟨rfl, rfl, rfl, rfl, rfl⟩ rfl rfl rfl rfl rfl (by kernel_rfl) Try.func6 (by kernel_rfl)
    (of_decide_eq_true (by kernel_rfl)) (by unfold Func.isWrapper; first | (rw [if_pos (by decide +kernel)]; kernel_rfl) | (rw [if_neg (by decide +kernel)]; exact ⟨rfl, rfl⟩))
    (fun os started H enc _ => lifted os started H enc)

theorem proved : Rows.BallotMostSaid := over
#print axioms proved
end Go.Proofs.Ytnlpfapfijckiaa.ballotMost
