/-
  The statement AdlerDrops is proved: the sum of bytes without the first one is told by theirs. For every slice of bytes; no condition.
-/
import Derived.Test.YtaijfnjlhpfbpaaApp
import Derived.Deep.RegionHeld3
import Derived.Deep.DrawnRows
import Derived.OpenShut
import Derived.ShutString
import Derived.ChangeOld
namespace Go.Proofs.Ytaijfnjlhpfbpaa.adlerDrops
open Go.ChangeShapes Go.WideShapes Go.ChangeAt Go.RowKit
set_option linter.unusedVariables false

attribute [local go_sem ↓] Go.wp_at_zero Go.wp_at_succ

theorem keepS {w v v' : World} {p : Addr} {x : Value} (hp : p.block < w.heap.size) (h : v.cell? p = some x ∧ Below w.heap.size w v) (hb : Below v.heap.size v v') : v'.cell? p = some x ∧ Below w.heap.size w v' :=
  ⟨(hb.cell (Nat.lt_of_lt_of_le hp h.2.size)).trans h.1, h.2.trans (hb.mono h.2.size)⟩
theorem keepD {w v : World} {p : Addr} {x : Value} (h : v.cell? p = some x ∧ Below w.heap.size w v) : v.drew.cell? p = some x ∧ Below w.heap.size w v.drew := ⟨h.1, h.2.drew⟩

set_option maxHeartbeats 1000000 in
theorem walk (A0 : Option Addr) (c0 : Nat) (x0 : List Int) (w : World) (s0 : Sl w w.heap.size .u8 A0 x0) (m0 : x0.length ≤ c0) (b0 : ∀ n ∈ x0, (Lit.int .u8 n).wf = true) :
    Calls Try.prog 6 #[.slice A0 x0.length c0] w (UpPost w) := by
  have HA := Lib.hid (awake_any w)
  have HB := Lib.hid fun n hn => byte_of (b0 n hn)
  clear b0
  by_cases hl : x0.length ≤ 6000
  · by_cases hz : x0.length = 0
    · have hz' : ((x0.length : Int) == 0) = true := by simp [hz]
      clear hz
      go_enter Try.func6, Try.ntmps6
      go_wp2_with (go_at_call 10; refine HA.out.mono ?_; rintro e wa ⟨rfl, hba⟩)
      go_ret
      exact ⟨rfl, hba⟩
    · have hz' : ((x0.length : Int) == 0) = false := by rw [beq_eq_false_iff_ne]; omega
      have hpos : 0 < x0.length := by omega
      obtain ⟨A', hr1, hr2, hsl⟩ := tail_run s0 c0 1 1 rfl (by omega) m0
      have HR := Lib.hid hr2
      obtain ⟨b, off, rfl, hb, hcell⟩ := s0.at_ hpos
      rw [Nat.add_zero] at hcell
      obtain ⟨f0, f1⟩ := HB.out (x0.getD 0 0) (by simp [List.getD, hpos])
      obtain ⟨m1, m2⟩ := sm_bd x0
      have HD : dr (sm x0) (x0.getD 0 0) ((x0.length : Int) - 1) = sm (x0.drop 1) := by
        obtain ⟨f, r, rfl⟩ : ∃ f r, x0 = f :: r := by
          cases x0 with
          | nil => simp at hpos
          | cons f r => exact ⟨f, r, rfl⟩
        have := dr_sm f r
        simpa using this
      have H1 : ∀ W, (W.cell? ⟨b, off, none⟩ = some (.int .u8 (x0.getD 0 0)) ∧ Below w.heap.size w W) → Hid (Calls Try.prog 11 #[.slice (some ⟨b, off, none⟩) x0.length c0] W (U32Post W (sm x0))) := fun W hb => sum_any _ c0 x0 W (by omega) ((s0.below hb.2).mono hb.2.size) HB.out
      have H2 : ∀ W, (W.cell? ⟨b, off, none⟩ = some (.int .u8 (x0.getD 0 0)) ∧ Below w.heap.size w W) → Hid (Calls Try.prog 11 #[.slice A' (x0.length - 1) (c0 - 1)] W (U32Post W (sm (x0.drop 1)))) := fun W hb => by
        have := sum_any A' (c0 - 1) (x0.drop 1) W (by simp; omega) ((hsl.below hb.2).mono hb.2.size) (fun x hx => HB.out x (List.mem_of_mem_drop hx))
        rw [List.length_drop] at this
        exact this
      have H3 : ∀ W, Hid (Calls Try.prog 17 #[.int .u32 (sm x0), .int .u8 (x0.getD 0 0), .int .i64 ((x0.length : Int) - 1)] W (U32Post W (sm (x0.drop 1)))) := fun W => by
        rw [← HD]; exact drop_any _ _ _ W m1 m2 f0 f1 (by omega) (by omega)
      have HS := Lib.hid hsl
      have HR1 := Lib.hid hr1
      have Q1 := Lib.hid (IntWalk.i64_in ((x0.length : Int) - 1) (by omega))
      clear HD hsl hr1 hr2 s0 HB hz
      generalize x0.getD 0 0 = f at *
      generalize sm (x0.drop 1) = z at *
      generalize sm x0 = y at *
      go_enter Try.func6, Try.ntmps6
      go_wp2_with (go_at_call 10; refine HA.out.mono ?_; rintro e wa ⟨rfl, hba⟩)
      have hr1 := HR1.out
      have hr2 := HR.out
      have q1 := Q1.out
      have hca : wa.cell? ⟨b, off, none⟩ = some (.int .u8 f) := (hba.cell hb).trans hcell
      go_region_held3 (fun v => v.cell? ⟨b, off, none⟩ = some (.int .u8 f) ∧ Below w.heap.size w v) (first | (exact ⟨hca, hba⟩) | (exact ⟨hca, hba.drew⟩) | (exact keepD (by assumption)) | (exact keepS hb (by assumption) (by assumption)))
        (first | (go_at_call 17; (with_reducible refine (H3 _).out.mono ?_); rintro e w' ⟨rfl, hb'⟩) | (go_at_call 11; (with_reducible refine (H1 _ ?_).out.mono ?_); (focus assumption); rintro e w' ⟨rfl, hb'⟩) | (go_at_call 11; (with_reducible refine (H2 _ ?_).out.mono ?_); (focus assumption); rintro e w' ⟨rfl, hb'⟩))
      clear q1 hr1 hr2
      go_wp2
      go_ret
      exact ⟨rfl, And.right (by assumption)⟩
  · have hd : 6000 < x0.length := by omega
    go_enter Try.func6, Try.ntmps6
    go_wp2_with (go_at_call 10; refine HA.out.mono ?_; rintro e wa ⟨rfl, hba⟩)
    go_ret
    exact ⟨rfl, hba⟩

theorem own : ownKnob Try.prog.godebug = none := by kernel_rfl
theorem laidOut : laidOutB Try.prog = true := by kernel_rfl

set_option maxRecDepth 100000 in
theorem lifted (os : Os) (started : os.Started) (H : Type) (enc : TypeId × Value → H) :
    ReturnsInHanded {} Try.checked os 6 .any (Rows.adlerDropsSpec.pre6 enc Try.prog Try.f6 Rows.adlerDropsRow.domain false) (Rows.adlerDropsSpec.post enc Try.prog Try.f6 false true false false) := by
  refine returnsInHanded_of_change (C := Try.checked) own started (by kernel_rfl) Try.func6
    (ChangeSpec.witness6 (enc := enc) (C := Try.checked) false ⟨#[], #[.slice none 0 0], []⟩ 8 (by kernel_rfl) (by kernel_rfl) (by kernel_rfl) (by kernel_rfl)) ?_
  intro W base args ds gs before hval0 hW hcnd _
  have hval : ∀ (j : Nat) t v, Try.f6.params[j]? = some t → args[j]? = some v → Value.okWide Try.prog W .any base t v := hval0
  have hW' := hW
  obtain ⟨p, q, hA0, hV, rfl, hfz, hnd⟩ := hW
  have hA : DataW.TrodAll enc Try.prog W 0 (fun _ => true) true Try.f6.params.toList args.toList ds p := hA0
  rw [Try.params6] at hA hval
  obtain ⟨v0, vs0, d0, ds0, p0, q0, hargs, rfl, rfl, h0, r0⟩ := trodAll_cons hA
  obtain ⟨rfl, rfl, rfl⟩ := trodAll_nil r0
  obtain rfl : args = #[v0] := by cases args; simp_all
  obtain ⟨rfl, rfl⟩ := trodVars_none hV
  obtain ⟨A0, len0, c0, rfl⟩ := okWide_slice Try.underlying22 (hval 0 22 v0 rfl rfl)
  have k0 := h0
  have lt0 : ∀ x ∈ p0, x.block < W.heap.size := by obtain ⟨m, hm⟩ := k0; exact DataW.trod_lt m _ _ _ hm
  obtain ⟨x0, e0, s0, m0, b0⟩ : ∃ xs : List Int, xs.length = len0 ∧ Sl W W.heap.size .u8 A0 xs ∧ len0 ≤ c0 ∧ ∀ n ∈ xs, (Lit.int .u8 n).wf = true := by
    obtain ⟨fuel, hf⟩ := h0
    rcases open_ints Try.underlying22 Try.underlying5 (by kernel_rfl) hf with ⟨hcs, _⟩ | ⟨x, l, c, zs, hcs, _, hl, hm, hz, _, hcell, hwz⟩
    · simp [Value.cells] at hcs
      obtain ⟨rfl, rfl, rfl⟩ := hcs
      exact ⟨[], rfl, Sl.nil, Nat.le_refl _, fun n hn => by cases hn⟩
    · simp [Value.cells] at hcs
      obtain ⟨rfl, rfl, rfl⟩ := hcs
      have hz' : zs.length = c0 := by simpa using hz
      exact ⟨zs.take _, by simp only [List.length_take]; omega, sl_of_cells hl hz' hcell, hl, fun n hn => hwz n (List.mem_of_mem_take hn)⟩
  subst e0
  clear hA0 hval0
  refine (walk A0 c0 x0 W s0 m0 b0).mono fun e W' ⟨he, bel⟩ => ?_
  subst he
  exact ⟨_, rfl, _, _, _, [], _, [], hW', trodAll_mk1 (shut_bool Try.underlying4 _), (trodAll_cons_mk (Below.trod laidOut (by kernel_rfl) (of_decide_eq_true (by kernel_rfl)) k0 bel lt0) trodAll_mk0), rfl, bel.frame _, fun h => by cases h⟩

theorem over : Rows.adlerDropsRow.holds Try.pinned (OpenSpec.ofChange Rows.adlerDropsSpec) :=
  OpenClaim.holds_of_wide 6 Try.f6 rfl rfl rfl rfl rfl rfl rfl ⟨rfl, rfl, rfl, rfl, rfl⟩ rfl rfl rfl rfl rfl (by kernel_rfl) Try.func6 (by kernel_rfl)
    (of_decide_eq_true (by kernel_rfl)) (by unfold Func.isWrapper; first | (rw [if_pos (by decide +kernel)]; kernel_rfl) | (rw [if_neg (by decide +kernel)]; exact ⟨rfl, rfl⟩))
    (fun os started H enc _ => lifted os started H enc)

theorem proved : Rows.AdlerDropsSaid := over
#print axioms proved
end Go.Proofs.Ytaijfnjlhpfbpaa.adlerDrops
