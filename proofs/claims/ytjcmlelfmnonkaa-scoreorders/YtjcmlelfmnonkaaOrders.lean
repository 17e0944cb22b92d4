/-
  ScoreOrders, for every input: the whole number that is not above any bits, how any two compare, and any ones in order, are what the document says: the law answers true, and its arguments read as they did. No conditions.
-/
import Derived.Test.YtjcmlelfmnonkaaRs
import Derived.ProofKit
import Derived.ShutString
import Derived.ChangeOld
namespace Go.Proofs.Ytjcmlelfmnonkaa.scoreOrders
open Go.ChangeShapes Go.WideShapes Go.ChangeAt Go.RowKit Go.Proofs.Ytjcmlelfmnonkaa.Fl
set_option linter.unusedVariables false
set_option maxRecDepth 100000

set_option maxHeartbeats 1600000 in
theorem walk (a0 a1 : Int) (A2 : Option Addr) (c2 : Nat) (x2 : List Int) (w : World) (w0 : (Lit.int .u64 a0).wf = true) (w1 : (Lit.int .u64 a1).wf = true) (s2 : Sl w w.heap.size .u64 A2 x2) (b2 : ∀ n ∈ x2, (Lit.int .u64 n).wf = true) :
    Calls Try.prog 4 #[.int .u64 a0, .int .u64 a1, .slice A2 x2.length c2] w (UpPost w) := by
  have HA := awake_any w
  obtain ⟨x, rfl, hx⟩ := word_of w0
  obtain ⟨y, rfl, hy⟩ := word_of w1
  obtain ⟨l, rfl, hl⟩ := zs_of b2
  rw [zs_len]
  clear w0 w1 b2
  by_cases h60 : l.length ≤ 60
  · have H1 : ∀ W, Hid _ := fun W => floor_any x hx W
    have H2 : ∀ W, Hid _ := fun W => rfloor_any x hx W
    have H3 : ∀ W, Below w.heap.size w W → Hid (Calls Try.prog 20 #[.slice A2 l.length c2] W (SoPost W l)) := fun W hb => sort_any A2 c2 l h60 hl W ((s2.below hb).mono hb.size)
    have H4 : ∀ W, Below w.heap.size w W → Hid (Calls Try.prog 21 #[.slice A2 l.length c2] W (SoPost W l)) := fun W hb => rsort_any A2 c2 l h60 hl W ((s2.below hb).mono hb.size)
    have H5 : ∀ W, Hid _ := fun W => cmp_any x y hx hy W
    have H6 : ∀ W, Hid _ := fun W => rcmp_any x y hx hy W
    generalize cmp x y = C at *
    generalize fv x = F at *
    generalize fi x = G at *
    clear hl s2
    generalize (x : Int) = X at *
    generalize (y : Int) = Y at *
    clear hx hy
    go_enter Try.func4, Try.ntmps4
    go_wp2_with fail
    refine HA.out.mono ?_
    rintro e wa ⟨rfl, qa, rfl⟩
    have ba := below_drewN w qa
    generalize w.drewN qa = Wa at *
    go_wp2_with fail
    refine (H1 _).out.mono ?_
    rintro e wr ⟨rfl, rfl⟩
    go_wp2_with fail
    refine (H2 _).out.mono ?_
    rintro e wr ⟨rfl, rfl⟩
    go_wp2_with fail
    refine (H3 _ ba).out.mono ?_
    rintro e wb ⟨Ab, cb, o1, rfl, d1, x1, l1, m1, sl1, bb⟩
    have bb2 := ba.trans (bb.mono ba.size)
    go_wp2_with fail
    refine (H4 _ bb2).out.mono ?_
    rintro e wc ⟨Ac, cc, o2, rfl, d2, x2, l2, m2, sl2, bc⟩
    have bc2 := bb2.trans (bc.mono bb2.size)
    have eo : o2 = o1 := sd_one d2 d1
    subst eo
    have HS : Hid (Calls Try.prog 19 #[.slice Ab l.length cb, .slice Ac l.length cc] wc (BPost wc)) := by
      rw [← l2]
      exact same_any Ab Ac cb cc o2 wc (by omega) ((sl1.below bc).mono bc.size) sl2
    clear d1 d2 x1 x2 sl1 sl2
    go_wp2_with fail
    with_reducible refine HS.out.mono ?_
    rintro e wd ⟨rfl, bd⟩
    have bd2 := bc2.trans (bd.mono bc2.size)
    clear HS
    go_wp2_with fail
    refine (H5 _).out.mono ?_
    rintro e wr ⟨rfl, rfl⟩
    go_wp2_with fail
    refine (H6 _).out.mono ?_
    rintro e wr ⟨rfl, rfl⟩
    go_wp2
    go_ret
    exact ⟨rfl, bd2⟩
  · clear hl s2 hx hy
    go_enter Try.func4, Try.ntmps4
    go_wp2_with fail
    refine HA.out.mono ?_
    rintro e wa ⟨rfl, qa, rfl⟩
    go_wp2
    all_goals first | (exfalso; omega) | (go_ret; exact ⟨rfl, below_drewN w _⟩)

theorem own : ownKnob Try.prog.godebug = none := by kernel_rfl
theorem laidOut : laidOutB Try.prog = true := by kernel_rfl

set_option maxRecDepth 100000 in
theorem lifted (os : Os) (started : os.Started) (H : Type) (enc : TypeId × Value → H) :
    ReturnsInHanded {} Try.checked os 4 .any (Rows.scoreOrdersSpec.pre6 enc Try.prog Try.f4 Rows.scoreOrdersRow.domain false) (Rows.scoreOrdersSpec.post enc Try.prog Try.f4 false true false false) := by
  refine returnsInHanded_of_change (C := Try.checked) own started (by kernel_rfl) Try.func4
    (ChangeSpec.witness6 (enc := enc) (C := Try.checked) false ⟨#[], #[.int .u64 0, .int .u64 0, .slice none 0 0], []⟩ 8 (by kernel_rfl) (by kernel_rfl) (by kernel_rfl) (by kernel_rfl)) ?_
  intro W base args ds gs before hval0 hW hcnd _
  have hval : ∀ (j : Nat) t v, Try.f4.params[j]? = some t → args[j]? = some v → Value.okWide Try.prog W .any base t v := hval0
  have hW' := hW
  obtain ⟨p, q, hA0, hV, rfl, hfz, hnd⟩ := hW
  have hA : DataW.TrodAll enc Try.prog W 0 (fun _ => true) true Try.f4.params.toList args.toList ds p := hA0
  rw [Try.params4] at hA hval
  obtain ⟨v0, vs0, d0, ds0, p0, q0, hargs, rfl, rfl, h0, r0⟩ := trodAll_cons hA
  obtain ⟨v1, vs1, d1, ds1, p1, q1, rfl, rfl, rfl, h1, r1⟩ := trodAll_cons r0
  obtain ⟨v2, vs2, d2, ds2, p2, q2, rfl, rfl, rfl, h2, r2⟩ := trodAll_cons r1
  obtain ⟨rfl, rfl, rfl⟩ := trodAll_nil r2
  obtain rfl : args = #[v0, v1, v2] := by cases args; simp_all
  obtain ⟨rfl, rfl⟩ := trodVars_none hV
  obtain ⟨a0, rfl, rfl, rfl, w0⟩ := open_int Try.underlying23 (hval 0 23 v0 rfl rfl) h0
  obtain ⟨a1, rfl, rfl, rfl, w1⟩ := open_int Try.underlying23 (hval 1 23 v1 rfl rfl) h1
  obtain ⟨A2, len2, c2, rfl⟩ := okWide_slice Try.underlying27 (hval 2 27 v2 rfl rfl)
  have k2 := h2
  have lt2 : ∀ x ∈ p2, x.block < W.heap.size := by obtain ⟨m, hm⟩ := k2; exact DataW.trod_lt m _ _ _ hm
  obtain ⟨x2, e2, s2, m2, b2⟩ : ∃ xs : List Int, xs.length = len2 ∧ Sl W W.heap.size .u64 A2 xs ∧ len2 ≤ c2 ∧ ∀ n ∈ xs, (Lit.int .u64 n).wf = true := by
    obtain ⟨fuel, hf⟩ := h2
    rcases open_ints Try.underlying27 Try.underlying23 (by kernel_rfl) hf with ⟨hcs, _⟩ | ⟨x, l, c, zs, hcs, _, hl, hm, hz, _, hcell, hwz⟩
    · simp [Value.cells] at hcs
      obtain ⟨rfl, rfl, rfl⟩ := hcs
      exact ⟨[], rfl, Sl.nil, Nat.le_refl _, fun n hn => by cases hn⟩
    · simp [Value.cells] at hcs
      obtain ⟨rfl, rfl, rfl⟩ := hcs
      have hz' : zs.length = c2 := by simpa using hz
      exact ⟨zs.take _, by simp only [List.length_take]; omega, sl_of_cells hl hz' hcell, hl, fun n hn => hwz n (List.mem_of_mem_take hn)⟩
  subst e2
  clear hA0 hval0
  refine (walk a0 a1 A2 c2 x2 W w0 w1 s2 b2).mono fun e W' ⟨he, bel⟩ => ?_
  subst he
  exact ⟨_, rfl, _, _, _, [], _, [], hW', trodAll_mk1 (shut_bool Try.underlying4 _), (trodAll_cons_mk (shut_int Try.underlying23 w0) (trodAll_cons_mk (shut_int Try.underlying23 w1) (trodAll_cons_mk (Below.trod laidOut (by kernel_rfl) (of_decide_eq_true (by kernel_rfl)) k2 bel lt2) trodAll_mk0))), rfl, bel.frame _, fun h => by cases h⟩

theorem over : Rows.scoreOrdersRow.holds Try.pinned (OpenSpec.ofChange Rows.scoreOrdersSpec) :=
  OpenClaim.holds_of_wide 4 Try.f4 rfl rfl rfl rfl rfl rfl rfl ⟨rfl, rfl, rfl, rfl, rfl⟩ rfl rfl rfl rfl rfl (by kernel_rfl) Try.func4 (by kernel_rfl)
    (of_decide_eq_true (by kernel_rfl)) (by unfold Func.isWrapper; first | (rw [if_pos (by decide +kernel)]; kernel_rfl) | (rw [if_neg (by decide +kernel)]; exact ⟨rfl, rfl⟩))
    (fun os started H enc _ => lifted os started H enc)

theorem proved : Rows.ScoreOrdersSaid := over
#print axioms proved
end Go.Proofs.Ytjcmlelfmnonkaa.scoreOrders
