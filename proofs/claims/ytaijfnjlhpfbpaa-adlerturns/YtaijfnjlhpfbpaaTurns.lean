/-
  The statement AdlerTurns is proved: one byte that is another one, and two different neighbours that change their places, make another sum. For every slice of bytes, every int and every byte; no condition.
-/
import Derived.Test.YtaijfnjlhpfbpaaSwap
import Derived.Deep.QuietTactic
import Derived.BigQuiet
import Derived.WalkSmall
import Derived.OpenShut
import Derived.ShutString
import Derived.ChangeOld
namespace Go.Proofs.Ytaijfnjlhpfbpaa.adlerTurns
open Go.ChangeShapes Go.WideShapes Go.ChangeAt Go.RowKit
set_option linter.unusedVariables false

theorem at_cell {w : World} {B b off : Nat} {xs : List Int} (h : Sl w B .u8 (some ⟨b, off, none⟩) xs) {j : Nat} (hj : j < xs.length) : w.cell? ⟨b, off + j, none⟩ = some (.int .u8 (xs.getD j 0)) := by
  obtain ⟨b', off', hA, _, hc⟩ := h.at_ hj
  obtain ⟨rfl, rfl⟩ : b = b' ∧ off = off' := by simpa using hA
  exact hc
theorem getD_mem {xs : List Int} {j : Nat} (hj : j < xs.length) : xs.getD j 0 ∈ xs := by simp [List.getD, hj]
theorem set_bd {xs : List Int} (h : ∀ x ∈ xs, 0 ≤ x ∧ x ≤ 255) {k : Nat} {a : Int} (h0 : 0 ≤ a) (h1 : a ≤ 255) : ∀ x ∈ xs.set k a, 0 ≤ x ∧ x ≤ 255 := fun x hx => by
  rcases List.mem_or_eq_of_mem_set hx with q | q
  · exact h x q
  · subst q; exact ⟨h0, h1⟩

set_option maxHeartbeats 1000000 in
set_option maxRecDepth 100000 in
theorem main_tt (b off c0 j : Nat) (x0 : List Int) (a2 : Int) (w : World) (hb : b < w.heap.size) (s0 : Sl w w.heap.size .u8 (some ⟨b, off, none⟩) x0) (HB : Hid (∀ x ∈ x0, 0 ≤ x ∧ x ≤ 255)) (p0 : 0 ≤ a2) (p1 : a2 ≤ 255)
    (hl : x0.length ≤ 6000) (hj : j + 1 < x0.length) (hx : (a2 != x0.getD (j + 1) 0) = true) (hn : (x0.getD (j + 1) 0 == x0.getD j 0) = false) :
    Calls Try.prog 7 #[.slice (some ⟨b, off, none⟩) x0.length c0, .int .i64 ((j : Int) + 1), .int .u8 a2] w (UpPost w) := by
  have HA := Lib.hid (awake_any w)
  obtain ⟨i0, hi, hz0, hz1, hz2⟩ := info_parts info5
  have hcellK := at_cell s0 (j := j + 1) hj
  have hcellJ := at_cell s0 (j := j) (by omega)
  have H0 : ∀ W, Below w.heap.size w W → Hid (Calls Try.prog 11 #[.slice (some ⟨b, off, none⟩) x0.length c0] W (U32Post W (sm x0))) := fun W hb => sum_any _ c0 x0 W (by omega) ((s0.below hb).mono hb.size) HB.out
  have HC : ∀ (W : World) (g c : Nat), Sl W W.heap.size .u8 (some ⟨g, 0, none⟩) (x0.set (j + 1) a2) → Hid (Calls Try.prog 11 #[.slice (some ⟨g, 0, none⟩) x0.length c] W (U32Post W (sm (x0.set (j + 1) a2)))) := fun W g c hs => by
    have := sum_any _ c (x0.set (j + 1) a2) W (by rw [List.length_set]; omega) hs (set_bd HB.out p0 p1)
    rw [List.length_set] at this
    exact this
  have hy1 : (sm (x0.set (j + 1) a2) == sm x0) = false := by rw [beq_eq_false_iff_ne]; exact sm_set hj HB.out p0 p1 (by simpa using hx)
  obtain ⟨f0, f1⟩ := HB.out (x0.getD (j + 1) 0) (getD_mem hj)
  obtain ⟨g0, g1⟩ := HB.out (x0.getD j 0) (getD_mem (by omega))
  have HD : ∀ (W : World) (g c : Nat), Sl W W.heap.size .u8 (some ⟨g, 0, none⟩) ((x0.set (j + 1) (x0.getD j 0)).set j (x0.getD (j + 1) 0)) → Hid (Calls Try.prog 11 #[.slice (some ⟨g, 0, none⟩) x0.length c] W (U32Post W (sm ((x0.set (j + 1) (x0.getD j 0)).set j (x0.getD (j + 1) 0))))) := fun W g c hs => by
    have := sum_any _ c ((x0.set (j + 1) (x0.getD j 0)).set j (x0.getD (j + 1) 0)) W (by rw [List.length_set, List.length_set]; omega) hs (set_bd (set_bd HB.out g0 g1) f0 f1)
    rw [List.length_set, List.length_set] at this
    exact this
  have hy2 : (sm ((x0.set (j + 1) (x0.getD j 0)).set j (x0.getD (j + 1) 0)) != sm x0) = true := by
    have hne := sm_swap hj HB.out (by simpa using hn)
    simpa using hne
  have hk0 : ((j : Int) + 1 == 0) = false := by rw [beq_eq_false_iff_ne]; omega
  have HQ := Lib.hid (show IntKind.i64.wrap ((j : Int) + 1 - 1) = (j : Int) by rw [IntWalk.i64_in _ (by omega)]; omega)
  have e0 : (0 : Int) ≤ (j : Int) + 1 := by omega
  have e1 : (j : Int) + 1 < (x0.length : Int) := by omega
  have e2 : (j : Int) < (x0.length : Int) := by omega
  generalize hf : x0.getD (j + 1) 0 = f at *
  have HF := Lib.hid hf
  clear hf
  generalize hp : x0.getD j 0 = p at *
  have HP := Lib.hid hp
  clear hp
  generalize hy0 : sm x0 = y0 at *
  clear hy0
  generalize hyc : sm (x0.set (j + 1) a2) = y1 at *
  clear hyc
  generalize hyd : sm ((x0.set (j + 1) p).set j f) = y2 at *
  clear hyd
  go_enter Try.func7, Try.ntmps7
  go_wp2_with (first | (go_at_call 10; refine HA.out.mono ?_; rintro e wa ⟨rfl, b1⟩) | (at_builtin; refine wpList_app rfl (.const (.slice none 0 0)) (.tmp 29) 22 rfl wa.heap.size 5 i0 (.int .u8 0) 1 Try.underlying22 hi hz0 hz1 hz2 rfl (.slice none 0 0) 0 [] rfl (World.ownsRow_nil _ _ _ _) w.heap.size .u8 _ c0 x0 rfl (s0.below b1) (by unfold maxLen; omega) (by omega) (Nat.le_refl _) ?_; intro v1 w1 own1 grow1; simp only [Nat.zero_add, List.nil_append] at own1; have b2 := b1.grown grow1 b1.size (by simp [Value.ownBlock]); obtain ⟨g, cg, hv1, hg⟩ := row_form own1 (by omega); subst hv1; have hcg := row_cell own1 (j := j + 1) (by omega); rw [HF.out] at hcg; have hfg := own1.frozenAt (j + 1); have hgw : w.heap.size ≤ g := Nat.le_trans b1.size hg; have hs1 := row_sl (row_set own1 (j + 1) a2); have b3 := b2.setCell (p := ⟨g, j + 1, none⟩) hgw (.int .u8 a2); have hcf := (b3.cell hb).trans hcellK))
  refine (HC _ _ _ hs1).out.mono ?_
  rintro e wb ⟨rfl, hwb⟩
  have b4 := b3.trans (hwb.mono b3.size)
  clear hs1 hcg hfg hcf b3 b2 hwb own1 grow1
  go_wp2_with fail
  refine (H0 _ b4).out.mono ?_
  rintro e wc ⟨rfl, hwc⟩
  have b5 := b4.trans (hwc.mono b4.size)
  have hcf := (b5.cell hb).trans hcellK
  clear b4 hwc
  have hcp := (b5.cell hb).trans hcellJ
  go_wp2_with fail
  have hq := HQ.out
  go_quiet (fail)
  clear hq
  have b6 := below_drewN b5 nq
  have hcf2 := (b6.cell hb).trans hcellK
  have hcp2 := (b6.cell hb).trans hcellJ
  clear hcf hcp b5
  generalize wc.drewN nq = wd at *
  go_wp2_with (at_builtin; refine wpList_app rfl (.const (.slice none 0 0)) (.tmp 62) 22 rfl wd.heap.size 5 i0 (.int .u8 0) 1 Try.underlying22 hi hz0 hz1 hz2 rfl (.slice none 0 0) 0 [] rfl (World.ownsRow_nil _ _ _ _) w.heap.size .u8 _ c0 x0 rfl (s0.below b6) (by unfold maxLen; omega) (by omega) (Nat.le_refl _) ?_; intro v2 w2 own2 grow2; simp only [Nat.zero_add, List.nil_append] at own2; have b7 := b6.grown grow2 b6.size (by simp [Value.ownBlock]); obtain ⟨g2, cg2, hv2, hg2⟩ := row_form own2 (by omega); subst hv2; have hc1 := row_cell own2 (j := j + 1) (by omega); rw [HF.out] at hc1; have hf1 := own2.frozenAt (j + 1); have hgw2 : w.heap.size ≤ g2 := Nat.le_trans b6.size hg2; have own3 := row_set own2 (j + 1) p; rw [List.length_set] at own3; have hc2 := (own3.cellAt j (by omega)); have hf2 := own3.frozenAt j; have hcj := row_cell own2 (j := j) (by omega); rw [HP.out] at hcj; have b8 := b7.setCell (p := ⟨g2, j + 1, none⟩) hgw2 (.int .u8 p); have hcf3 := (b8.cell hb).trans hcellK; have hcp3 := (b7.cell hb).trans hcellJ; clear hc2)
  have b9 := b8.setCell (p := ⟨g2, j, none⟩) hgw2 (.int .u8 f)
  refine (HD _ _ _ (row_sl (row_set (row_set own2 (j + 1) p) j f))).out.mono ?_
  rintro e we ⟨rfl, hwe⟩
  have b10 := b9.trans (hwe.mono b9.size)
  clear hc1 hf1 hf2 hcj hcf3 hcp3 own2 own3 grow2 hwe b7 b8 b9
  go_wp2_with fail
  refine (H0 _ b10).out.mono ?_
  rintro e wf ⟨rfl, hwf⟩
  have b11 := b10.trans (hwf.mono b10.size)
  go_wp2_with fail
  go_ret
  exact ⟨rfl, b11⟩

set_option maxHeartbeats 1000000 in
set_option maxRecDepth 100000 in
theorem main_tf (b off c0 j : Nat) (x0 : List Int) (a2 : Int) (w : World) (hb : b < w.heap.size) (s0 : Sl w w.heap.size .u8 (some ⟨b, off, none⟩) x0) (HB : Hid (∀ x ∈ x0, 0 ≤ x ∧ x ≤ 255)) (p0 : 0 ≤ a2) (p1 : a2 ≤ 255)
    (hl : x0.length ≤ 6000) (hj : j + 1 < x0.length) (hx : (a2 != x0.getD (j + 1) 0) = true) (hn : (x0.getD (j + 1) 0 == x0.getD j 0) = true) :
    Calls Try.prog 7 #[.slice (some ⟨b, off, none⟩) x0.length c0, .int .i64 ((j : Int) + 1), .int .u8 a2] w (UpPost w) := by
  have HA := Lib.hid (awake_any w)
  obtain ⟨i0, hi, hz0, hz1, hz2⟩ := info_parts info5
  have hcellK := at_cell s0 (j := j + 1) hj
  have hcellJ := at_cell s0 (j := j) (by omega)
  have H0 : ∀ W, Below w.heap.size w W → Hid (Calls Try.prog 11 #[.slice (some ⟨b, off, none⟩) x0.length c0] W (U32Post W (sm x0))) := fun W hb => sum_any _ c0 x0 W (by omega) ((s0.below hb).mono hb.size) HB.out
  have HC : ∀ (W : World) (g c : Nat), Sl W W.heap.size .u8 (some ⟨g, 0, none⟩) (x0.set (j + 1) a2) → Hid (Calls Try.prog 11 #[.slice (some ⟨g, 0, none⟩) x0.length c] W (U32Post W (sm (x0.set (j + 1) a2)))) := fun W g c hs => by
    have := sum_any _ c (x0.set (j + 1) a2) W (by rw [List.length_set]; omega) hs (set_bd HB.out p0 p1)
    rw [List.length_set] at this
    exact this
  have hy1 : (sm (x0.set (j + 1) a2) == sm x0) = false := by rw [beq_eq_false_iff_ne]; exact sm_set hj HB.out p0 p1 (by simpa using hx)
  have hk0 : ((j : Int) + 1 == 0) = false := by rw [beq_eq_false_iff_ne]; omega
  have HQ := Lib.hid (show IntKind.i64.wrap ((j : Int) + 1 - 1) = (j : Int) by rw [IntWalk.i64_in _ (by omega)]; omega)
  have e0 : (0 : Int) ≤ (j : Int) + 1 := by omega
  have e1 : (j : Int) + 1 < (x0.length : Int) := by omega
  have e2 : (j : Int) < (x0.length : Int) := by omega
  generalize hf : x0.getD (j + 1) 0 = f at *
  have HF := Lib.hid hf
  clear hf
  generalize hp : x0.getD j 0 = p at *
  have HP := Lib.hid hp
  clear hp
  generalize hy0 : sm x0 = y0 at *
  clear hy0
  generalize hyc : sm (x0.set (j + 1) a2) = y1 at *
  clear hyc
  go_enter Try.func7, Try.ntmps7
  go_wp2_with (first | (go_at_call 10; refine HA.out.mono ?_; rintro e wa ⟨rfl, b1⟩) | (at_builtin; refine wpList_app rfl (.const (.slice none 0 0)) (.tmp 29) 22 rfl wa.heap.size 5 i0 (.int .u8 0) 1 Try.underlying22 hi hz0 hz1 hz2 rfl (.slice none 0 0) 0 [] rfl (World.ownsRow_nil _ _ _ _) w.heap.size .u8 _ c0 x0 rfl (s0.below b1) (by unfold maxLen; omega) (by omega) (Nat.le_refl _) ?_; intro v1 w1 own1 grow1; simp only [Nat.zero_add, List.nil_append] at own1; have b2 := b1.grown grow1 b1.size (by simp [Value.ownBlock]); obtain ⟨g, cg, hv1, hg⟩ := row_form own1 (by omega); subst hv1; have hcg := row_cell own1 (j := j + 1) (by omega); rw [HF.out] at hcg; have hfg := own1.frozenAt (j + 1); have hgw : w.heap.size ≤ g := Nat.le_trans b1.size hg; have hs1 := row_sl (row_set own1 (j + 1) a2); have b3 := b2.setCell (p := ⟨g, j + 1, none⟩) hgw (.int .u8 a2); have hcf := (b3.cell hb).trans hcellK))
  refine (HC _ _ _ hs1).out.mono ?_
  rintro e wb ⟨rfl, hwb⟩
  have b4 := b3.trans (hwb.mono b3.size)
  clear hs1 hcg hfg hcf b3 b2 hwb own1 grow1
  go_wp2_with fail
  refine (H0 _ b4).out.mono ?_
  rintro e wc ⟨rfl, hwc⟩
  have b5 := b4.trans (hwc.mono b4.size)
  have hcf := (b5.cell hb).trans hcellK
  clear b4 hwc
  have hcp := (b5.cell hb).trans hcellJ
  go_wp2_with fail
  have hq := HQ.out
  go_quiet (fail)
  clear hq
  go_wp2
  go_ret
  exact ⟨rfl, below_drewN b5 _⟩

set_option maxHeartbeats 1000000 in
set_option maxRecDepth 100000 in
theorem main_ft (b off c0 j : Nat) (x0 : List Int) (a2 : Int) (w : World) (hb : b < w.heap.size) (s0 : Sl w w.heap.size .u8 (some ⟨b, off, none⟩) x0) (HB : Hid (∀ x ∈ x0, 0 ≤ x ∧ x ≤ 255)) (p0 : 0 ≤ a2) (p1 : a2 ≤ 255)
    (hl : x0.length ≤ 6000) (hj : j + 1 < x0.length) (hx : (a2 != x0.getD (j + 1) 0) = false) (hn : (x0.getD (j + 1) 0 == x0.getD j 0) = false) :
    Calls Try.prog 7 #[.slice (some ⟨b, off, none⟩) x0.length c0, .int .i64 ((j : Int) + 1), .int .u8 a2] w (UpPost w) := by
  have HA := Lib.hid (awake_any w)
  obtain ⟨i0, hi, hz0, hz1, hz2⟩ := info_parts info5
  have hcellK := at_cell s0 (j := j + 1) hj
  have hcellJ := at_cell s0 (j := j) (by omega)
  have H0 : ∀ W, Below w.heap.size w W → Hid (Calls Try.prog 11 #[.slice (some ⟨b, off, none⟩) x0.length c0] W (U32Post W (sm x0))) := fun W hb => sum_any _ c0 x0 W (by omega) ((s0.below hb).mono hb.size) HB.out
  obtain ⟨f0, f1⟩ := HB.out (x0.getD (j + 1) 0) (getD_mem hj)
  obtain ⟨g0, g1⟩ := HB.out (x0.getD j 0) (getD_mem (by omega))
  have HD : ∀ (W : World) (g c : Nat), Sl W W.heap.size .u8 (some ⟨g, 0, none⟩) ((x0.set (j + 1) (x0.getD j 0)).set j (x0.getD (j + 1) 0)) → Hid (Calls Try.prog 11 #[.slice (some ⟨g, 0, none⟩) x0.length c] W (U32Post W (sm ((x0.set (j + 1) (x0.getD j 0)).set j (x0.getD (j + 1) 0))))) := fun W g c hs => by
    have := sum_any _ c ((x0.set (j + 1) (x0.getD j 0)).set j (x0.getD (j + 1) 0)) W (by rw [List.length_set, List.length_set]; omega) hs (set_bd (set_bd HB.out g0 g1) f0 f1)
    rw [List.length_set, List.length_set] at this
    exact this
  have hy2 : (sm ((x0.set (j + 1) (x0.getD j 0)).set j (x0.getD (j + 1) 0)) != sm x0) = true := by
    have hne := sm_swap hj HB.out (by simpa using hn)
    simpa using hne
  have hk0 : ((j : Int) + 1 == 0) = false := by rw [beq_eq_false_iff_ne]; omega
  have HQ := Lib.hid (show IntKind.i64.wrap ((j : Int) + 1 - 1) = (j : Int) by rw [IntWalk.i64_in _ (by omega)]; omega)
  have e0 : (0 : Int) ≤ (j : Int) + 1 := by omega
  have e1 : (j : Int) + 1 < (x0.length : Int) := by omega
  have e2 : (j : Int) < (x0.length : Int) := by omega
  generalize hf : x0.getD (j + 1) 0 = f at *
  have HF := Lib.hid hf
  clear hf
  generalize hp : x0.getD j 0 = p at *
  have HP := Lib.hid hp
  clear hp
  generalize hy0 : sm x0 = y0 at *
  clear hy0
  generalize hyd : sm ((x0.set (j + 1) p).set j f) = y2 at *
  clear hyd
  go_enter Try.func7, Try.ntmps7
  go_wp2_with (first | (go_at_call 10; refine HA.out.mono ?_; rintro e wa ⟨rfl, b1⟩) | (at_builtin; refine wpList_app rfl (.const (.slice none 0 0)) (.tmp 29) 22 rfl wa.heap.size 5 i0 (.int .u8 0) 1 Try.underlying22 hi hz0 hz1 hz2 rfl (.slice none 0 0) 0 [] rfl (World.ownsRow_nil _ _ _ _) w.heap.size .u8 _ c0 x0 rfl (s0.below b1) (by unfold maxLen; omega) (by omega) (Nat.le_refl _) ?_; intro v1 w1 own1 grow1; simp only [Nat.zero_add, List.nil_append] at own1; have b2 := b1.grown grow1 b1.size (by simp [Value.ownBlock]); obtain ⟨g, cg, hv1, hg⟩ := row_form own1 (by omega); subst hv1; have hcg := row_cell own1 (j := j + 1) (by omega); rw [HF.out] at hcg; have hfg := own1.frozenAt (j + 1); have hgw : w.heap.size ≤ g := Nat.le_trans b1.size hg; have hs1 := row_sl (row_set own1 (j + 1) a2); have b3 := b2.setCell (p := ⟨g, j + 1, none⟩) hgw (.int .u8 a2); have hcf := (b3.cell hb).trans hcellK))
  have b5 := b3
  have hcp := (b5.cell hb).trans hcellJ
  clear hs1 hcg hfg b3 b2 own1 grow1
  generalize w1.setCell ⟨g, j + 1, none⟩ (.int .u8 a2) = wc at *
  have hq := HQ.out
  go_quiet (fail)
  clear hq
  have b6 := below_drewN b5 nq
  have hcf2 := (b6.cell hb).trans hcellK
  have hcp2 := (b6.cell hb).trans hcellJ
  clear hcf hcp b5
  generalize wc.drewN nq = wd at *
  go_wp2_with (at_builtin; refine wpList_app rfl (.const (.slice none 0 0)) (.tmp 62) 22 rfl wd.heap.size 5 i0 (.int .u8 0) 1 Try.underlying22 hi hz0 hz1 hz2 rfl (.slice none 0 0) 0 [] rfl (World.ownsRow_nil _ _ _ _) w.heap.size .u8 _ c0 x0 rfl (s0.below b6) (by unfold maxLen; omega) (by omega) (Nat.le_refl _) ?_; intro v2 w2 own2 grow2; simp only [Nat.zero_add, List.nil_append] at own2; have b7 := b6.grown grow2 b6.size (by simp [Value.ownBlock]); obtain ⟨g2, cg2, hv2, hg2⟩ := row_form own2 (by omega); subst hv2; have hc1 := row_cell own2 (j := j + 1) (by omega); rw [HF.out] at hc1; have hf1 := own2.frozenAt (j + 1); have hgw2 : w.heap.size ≤ g2 := Nat.le_trans b6.size hg2; have own3 := row_set own2 (j + 1) p; rw [List.length_set] at own3; have hc2 := (own3.cellAt j (by omega)); have hf2 := own3.frozenAt j; have hcj := row_cell own2 (j := j) (by omega); rw [HP.out] at hcj; have b8 := b7.setCell (p := ⟨g2, j + 1, none⟩) hgw2 (.int .u8 p); have hcf3 := (b8.cell hb).trans hcellK; have hcp3 := (b7.cell hb).trans hcellJ; clear hc2)
  have b9 := b8.setCell (p := ⟨g2, j, none⟩) hgw2 (.int .u8 f)
  refine (HD _ _ _ (row_sl (row_set (row_set own2 (j + 1) p) j f))).out.mono ?_
  rintro e we ⟨rfl, hwe⟩
  have b10 := b9.trans (hwe.mono b9.size)
  clear hc1 hf1 hf2 hcj hcf3 hcp3 own2 own3 grow2 hwe b7 b8 b9
  go_wp2_with fail
  refine (H0 _ b10).out.mono ?_
  rintro e wf ⟨rfl, hwf⟩
  have b11 := b10.trans (hwf.mono b10.size)
  go_wp2_with fail
  go_ret
  exact ⟨rfl, b11⟩

set_option maxHeartbeats 1000000 in
set_option maxRecDepth 100000 in
theorem main_ff (b off c0 j : Nat) (x0 : List Int) (a2 : Int) (w : World) (hb : b < w.heap.size) (s0 : Sl w w.heap.size .u8 (some ⟨b, off, none⟩) x0) (HB : Hid (∀ x ∈ x0, 0 ≤ x ∧ x ≤ 255)) (p0 : 0 ≤ a2) (p1 : a2 ≤ 255)
    (hl : x0.length ≤ 6000) (hj : j + 1 < x0.length) (hx : (a2 != x0.getD (j + 1) 0) = false) (hn : (x0.getD (j + 1) 0 == x0.getD j 0) = true) :
    Calls Try.prog 7 #[.slice (some ⟨b, off, none⟩) x0.length c0, .int .i64 ((j : Int) + 1), .int .u8 a2] w (UpPost w) := by
  have HA := Lib.hid (awake_any w)
  obtain ⟨i0, hi, hz0, hz1, hz2⟩ := info_parts info5
  have hcellK := at_cell s0 (j := j + 1) hj
  have hcellJ := at_cell s0 (j := j) (by omega)
  have H0 : ∀ W, Below w.heap.size w W → Hid (Calls Try.prog 11 #[.slice (some ⟨b, off, none⟩) x0.length c0] W (U32Post W (sm x0))) := fun W hb => sum_any _ c0 x0 W (by omega) ((s0.below hb).mono hb.size) HB.out
  have hk0 : ((j : Int) + 1 == 0) = false := by rw [beq_eq_false_iff_ne]; omega
  have HQ := Lib.hid (show IntKind.i64.wrap ((j : Int) + 1 - 1) = (j : Int) by rw [IntWalk.i64_in _ (by omega)]; omega)
  have e0 : (0 : Int) ≤ (j : Int) + 1 := by omega
  have e1 : (j : Int) + 1 < (x0.length : Int) := by omega
  have e2 : (j : Int) < (x0.length : Int) := by omega
  generalize hf : x0.getD (j + 1) 0 = f at *
  have HF := Lib.hid hf
  clear hf
  generalize hp : x0.getD j 0 = p at *
  have HP := Lib.hid hp
  clear hp
  generalize hy0 : sm x0 = y0 at *
  clear hy0
  go_enter Try.func7, Try.ntmps7
  go_wp2_with (first | (go_at_call 10; refine HA.out.mono ?_; rintro e wa ⟨rfl, b1⟩) | (at_builtin; refine wpList_app rfl (.const (.slice none 0 0)) (.tmp 29) 22 rfl wa.heap.size 5 i0 (.int .u8 0) 1 Try.underlying22 hi hz0 hz1 hz2 rfl (.slice none 0 0) 0 [] rfl (World.ownsRow_nil _ _ _ _) w.heap.size .u8 _ c0 x0 rfl (s0.below b1) (by unfold maxLen; omega) (by omega) (Nat.le_refl _) ?_; intro v1 w1 own1 grow1; simp only [Nat.zero_add, List.nil_append] at own1; have b2 := b1.grown grow1 b1.size (by simp [Value.ownBlock]); obtain ⟨g, cg, hv1, hg⟩ := row_form own1 (by omega); subst hv1; have hcg := row_cell own1 (j := j + 1) (by omega); rw [HF.out] at hcg; have hfg := own1.frozenAt (j + 1); have hgw : w.heap.size ≤ g := Nat.le_trans b1.size hg; have hs1 := row_sl (row_set own1 (j + 1) a2); have b3 := b2.setCell (p := ⟨g, j + 1, none⟩) hgw (.int .u8 a2); have hcf := (b3.cell hb).trans hcellK))
  have b5 := b3
  have hcp := (b5.cell hb).trans hcellJ
  clear hs1 hcg hfg b3 b2 own1 grow1
  generalize w1.setCell ⟨g, j + 1, none⟩ (.int .u8 a2) = wc at *
  have hq := HQ.out
  go_quiet (fail)
  clear hq
  go_wp2
  go_ret
  exact ⟨rfl, below_drewN b5 _⟩

set_option maxHeartbeats 1000000 in
set_option maxRecDepth 100000 in
theorem zero_t (b off c0 : Nat) (x0 : List Int) (a2 : Int) (w : World) (hb : b < w.heap.size) (s0 : Sl w w.heap.size .u8 (some ⟨b, off, none⟩) x0) (HB : Hid (∀ x ∈ x0, 0 ≤ x ∧ x ≤ 255)) (p0 : 0 ≤ a2) (p1 : a2 ≤ 255)
    (hl : x0.length ≤ 6000) (hj : 0 < x0.length) (hx : (a2 != x0.getD (0) 0) = true) :
    Calls Try.prog 7 #[.slice (some ⟨b, off, none⟩) x0.length c0, .int .i64 0, .int .u8 a2] w (UpPost w) := by
  have HA := Lib.hid (awake_any w)
  obtain ⟨i0, hi, hz0, hz1, hz2⟩ := info_parts info5
  have hcellK := at_cell s0 (j := 0) hj
  rw [Nat.add_zero] at hcellK
  have hne : ¬ x0 = [] := fun h => by rw [h] at hj; simp at hj
  have hnil : decide (x0 = []) = false := by simpa using hne
  have H0 : ∀ W, Below w.heap.size w W → Hid (Calls Try.prog 11 #[.slice (some ⟨b, off, none⟩) x0.length c0] W (U32Post W (sm x0))) := fun W hb => sum_any _ c0 x0 W (by omega) ((s0.below hb).mono hb.size) HB.out
  have HC : ∀ (W : World) (g c : Nat), Sl W W.heap.size .u8 (some ⟨g, 0, none⟩) (x0.set (0) a2) → Hid (Calls Try.prog 11 #[.slice (some ⟨g, 0, none⟩) x0.length c] W (U32Post W (sm (x0.set (0) a2)))) := fun W g c hs => by
    have := sum_any _ c (x0.set (0) a2) W (by rw [List.length_set]; omega) hs (set_bd HB.out p0 p1)
    rw [List.length_set] at this
    exact this
  have hy1 : (sm (x0.set (0) a2) == sm x0) = false := by rw [beq_eq_false_iff_ne]; exact sm_set hj HB.out p0 p1 (by simpa using hx)
  generalize hf : x0.getD (0) 0 = f at *
  have HF := Lib.hid hf
  clear hf
  generalize hy0 : sm x0 = y0 at *
  clear hy0
  generalize hyc : sm (x0.set (0) a2) = y1 at *
  clear hyc
  go_enter Try.func7, Try.ntmps7
  go_wp2_with (first | (go_at_call 10; refine HA.out.mono ?_; rintro e wa ⟨rfl, b1⟩) | (at_builtin; refine wpList_app rfl (.const (.slice none 0 0)) (.tmp 29) 22 rfl wa.heap.size 5 i0 (.int .u8 0) 1 Try.underlying22 hi hz0 hz1 hz2 rfl (.slice none 0 0) 0 [] rfl (World.ownsRow_nil _ _ _ _) w.heap.size .u8 _ c0 x0 rfl (s0.below b1) (by unfold maxLen; omega) (by omega) (Nat.le_refl _) ?_; intro v1 w1 own1 grow1; simp only [Nat.zero_add, List.nil_append] at own1; have b2 := b1.grown grow1 b1.size (by simp [Value.ownBlock]); obtain ⟨g, cg, hv1, hg⟩ := row_form own1 (by omega); subst hv1; have hcg := row_cell own1 (j := 0) (by omega); rw [HF.out] at hcg; have hfg := own1.frozenAt (0); have hgw : w.heap.size ≤ g := Nat.le_trans b1.size hg; have hs1 := row_sl (row_set own1 (0) a2); have b3 := b2.setCell (p := ⟨g, 0, none⟩) hgw (.int .u8 a2); have hcf := (b3.cell hb).trans hcellK))
  refine (HC _ _ _ hs1).out.mono ?_
  rintro e wb ⟨rfl, hwb⟩
  have b4 := b3.trans (hwb.mono b3.size)
  clear hs1 hcg hfg hcf b3 b2 hwb own1 grow1
  go_wp2_with fail
  refine (H0 _ b4).out.mono ?_
  rintro e wc ⟨rfl, hwc⟩
  have b5 := b4.trans (hwc.mono b4.size)
  have hcf := (b5.cell hb).trans hcellK
  clear b4 hwc
  go_wp2_with fail
  go_quiet (fail)
  go_wp2
  go_ret
  exact ⟨rfl, below_drewN b5 _⟩

set_option maxHeartbeats 1000000 in
set_option maxRecDepth 100000 in
theorem zero_f (b off c0 : Nat) (x0 : List Int) (a2 : Int) (w : World) (hb : b < w.heap.size) (s0 : Sl w w.heap.size .u8 (some ⟨b, off, none⟩) x0) (HB : Hid (∀ x ∈ x0, 0 ≤ x ∧ x ≤ 255)) (p0 : 0 ≤ a2) (p1 : a2 ≤ 255)
    (hl : x0.length ≤ 6000) (hj : 0 < x0.length) (hx : (a2 != x0.getD (0) 0) = false) :
    Calls Try.prog 7 #[.slice (some ⟨b, off, none⟩) x0.length c0, .int .i64 0, .int .u8 a2] w (UpPost w) := by
  have HA := Lib.hid (awake_any w)
  obtain ⟨i0, hi, hz0, hz1, hz2⟩ := info_parts info5
  have hcellK := at_cell s0 (j := 0) hj
  rw [Nat.add_zero] at hcellK
  have hne : ¬ x0 = [] := fun h => by rw [h] at hj; simp at hj
  have hnil : decide (x0 = []) = false := by simpa using hne
  have H0 : ∀ W, Below w.heap.size w W → Hid (Calls Try.prog 11 #[.slice (some ⟨b, off, none⟩) x0.length c0] W (U32Post W (sm x0))) := fun W hb => sum_any _ c0 x0 W (by omega) ((s0.below hb).mono hb.size) HB.out
  generalize hf : x0.getD (0) 0 = f at *
  have HF := Lib.hid hf
  clear hf
  generalize hy0 : sm x0 = y0 at *
  clear hy0
  go_enter Try.func7, Try.ntmps7
  go_wp2_with (first | (go_at_call 10; refine HA.out.mono ?_; rintro e wa ⟨rfl, b1⟩) | (at_builtin; refine wpList_app rfl (.const (.slice none 0 0)) (.tmp 29) 22 rfl wa.heap.size 5 i0 (.int .u8 0) 1 Try.underlying22 hi hz0 hz1 hz2 rfl (.slice none 0 0) 0 [] rfl (World.ownsRow_nil _ _ _ _) w.heap.size .u8 _ c0 x0 rfl (s0.below b1) (by unfold maxLen; omega) (by omega) (Nat.le_refl _) ?_; intro v1 w1 own1 grow1; simp only [Nat.zero_add, List.nil_append] at own1; have b2 := b1.grown grow1 b1.size (by simp [Value.ownBlock]); obtain ⟨g, cg, hv1, hg⟩ := row_form own1 (by omega); subst hv1; have hcg := row_cell own1 (j := 0) (by omega); rw [HF.out] at hcg; have hfg := own1.frozenAt (0); have hgw : w.heap.size ≤ g := Nat.le_trans b1.size hg; have hs1 := row_sl (row_set own1 (0) a2); have b3 := b2.setCell (p := ⟨g, 0, none⟩) hgw (.int .u8 a2); have hcf := (b3.cell hb).trans hcellK))
  have b5 := b3
  clear hs1 hcg hfg b3 b2 own1 grow1
  generalize w1.setCell ⟨g, 0, none⟩ (.int .u8 a2) = wc at *
  go_quiet (fail)
  go_wp2
  go_ret
  exact ⟨rfl, below_drewN b5 _⟩

theorem walk (A0 : Option Addr) (c0 : Nat) (x0 : List Int) (a1 a2 : Int) (w : World) (s0 : Sl w w.heap.size .u8 A0 x0) (b0 : ∀ n ∈ x0, (Lit.int .u8 n).wf = true) (w1 : (Lit.int .i64 a1).wf = true) (w2 : (Lit.int .u8 a2).wf = true) :
    Calls Try.prog 7 #[.slice A0 x0.length c0, .int .i64 a1, .int .u8 a2] w (UpPost w) := by
  have HA := Lib.hid (awake_any w)
  have HB : Hid (∀ x ∈ x0, 0 ≤ x ∧ x ≤ 255) := fun n hn => byte_of (b0 n hn)
  clear b0
  obtain ⟨p0, p1⟩ := byte_of w2
  by_cases hl : x0.length ≤ 6000
  · by_cases hlo : a1 < 0
    · go_enter Try.func7, Try.ntmps7
      go_wp2_with (go_at_call 10; refine HA.out.mono ?_; rintro e wa ⟨rfl, hba⟩)
      go_ret
      exact ⟨rfl, hba⟩
    · obtain ⟨k, rfl⟩ : ∃ k : Nat, a1 = (k : Int) := ⟨a1.toNat, by omega⟩
      by_cases hhi : x0.length ≤ k
      · go_enter Try.func7, Try.ntmps7
        go_wp2_with (go_at_call 10; refine HA.out.mono ?_; rintro e wa ⟨rfl, hba⟩)
        go_ret
        exact ⟨rfl, hba⟩
      · have hk : k < x0.length := by omega
        obtain ⟨b, off, rfl, hb, _⟩ := s0.at_ hk
        cases k with
        | zero =>
          by_cases hx : (a2 != x0.getD 0 0) = true
          · exact zero_t b off c0 x0 a2 w hb s0 HB p0 p1 hl hk hx
          · exact zero_f b off c0 x0 a2 w hb s0 HB p0 p1 hl hk (Bool.eq_false_iff.2 hx)
        | succ j =>
          by_cases hx : (a2 != x0.getD (j + 1) 0) = true
          · by_cases hn : (x0.getD (j + 1) 0 == x0.getD j 0) = true
            · exact main_tf b off c0 j x0 a2 w hb s0 HB p0 p1 hl hk hx hn
            · exact main_tt b off c0 j x0 a2 w hb s0 HB p0 p1 hl hk hx (Bool.eq_false_iff.2 hn)
          · by_cases hn : (x0.getD (j + 1) 0 == x0.getD j 0) = true
            · exact main_ff b off c0 j x0 a2 w hb s0 HB p0 p1 hl hk (Bool.eq_false_iff.2 hx) hn
            · exact main_ft b off c0 j x0 a2 w hb s0 HB p0 p1 hl hk (Bool.eq_false_iff.2 hx) (Bool.eq_false_iff.2 hn)
  · have hd : 6000 < x0.length := by omega
    go_enter Try.func7, Try.ntmps7
    go_wp2_with (go_at_call 10; refine HA.out.mono ?_; rintro e wa ⟨rfl, hba⟩)
    go_ret
    exact ⟨rfl, hba⟩

theorem own : ownKnob Try.prog.godebug = none := by kernel_rfl
theorem laidOut : laidOutB Try.prog = true := by kernel_rfl

set_option maxRecDepth 100000 in
theorem lifted (os : Os) (started : os.Started) (H : Type) (enc : TypeId × Value → H) :
    ReturnsInHanded {} Try.checked os 7 .any (Rows.adlerTurnsSpec.pre6 enc Try.prog Try.f7 Rows.adlerTurnsRow.domain false) (Rows.adlerTurnsSpec.post enc Try.prog Try.f7 false true false false) := by
  refine returnsInHanded_of_change (C := Try.checked) own started (by kernel_rfl) Try.func7
    (ChangeSpec.witness6 (enc := enc) (C := Try.checked) false ⟨#[], #[.slice none 0 0, .int .i64 0, .int .u8 0], []⟩ 8 (by kernel_rfl) (by kernel_rfl) (by kernel_rfl) (by kernel_rfl)) ?_
  intro W base args ds gs before hval0 hW hcnd _
  have hval : ∀ (j : Nat) t v, Try.f7.params[j]? = some t → args[j]? = some v → Value.okWide Try.prog W .any base t v := hval0
  have hW' := hW
  obtain ⟨p, q, hA0, hV, rfl, hfz, hnd⟩ := hW
  have hA : DataW.TrodAll enc Try.prog W 0 (fun _ => true) true Try.f7.params.toList args.toList ds p := hA0
  rw [Try.params7] at hA hval
  obtain ⟨v0, vs0, d0, ds0, p0, q0, hargs, rfl, rfl, h0, r0⟩ := trodAll_cons hA
  obtain ⟨v1, vs1, d1, ds1, p1, q1, rfl, rfl, rfl, h1, r1⟩ := trodAll_cons r0
  obtain ⟨v2, vs2, d2, ds2, p2, q2, rfl, rfl, rfl, h2, r2⟩ := trodAll_cons r1
  obtain ⟨rfl, rfl, rfl⟩ := trodAll_nil r2
  obtain rfl : args = #[v0, v1, v2] := by cases args; simp_all
  obtain ⟨rfl, rfl⟩ := trodVars_none hV
  obtain ⟨A0, len0, c0, rfl⟩ := okWide_slice Try.underlying22 (hval 0 22 v0 rfl rfl)
  have k0 := h0
  have lt0 : ∀ x ∈ p0, x.block < W.heap.size := by obtain ⟨m, hm⟩ := k0; exact DataW.trod_lt m _ _ _ hm
  obtain ⟨x0, e0, s0, m0, b0⟩ : ∃ xs : List Int, xs.length = len0 ∧ Sl W W.heap.size .u8 A0 xs ∧ len0 ≤ c0 ∧ ∀ n ∈ xs, (Lit.int .u8 n).wf = true := by
    obtain ⟨fuel, hf⟩ := h0
    rcases open_ints Try.underlying22 Try.underlying5 (by kernel_rfl) hf with ⟨hcs, _⟩ | ⟨x, l, c, zs, hcs, _, hl, hm, hz, _, hcell, hwz⟩
    · simp [Value.cells] at hcs
      obtain ⟨rfl, rfl, rfl⟩ := hcs
      exact ⟨[], rfl, Sl.nil, Nat.le_refl _, fun n hn => by cases hn⟩
    · simp [Value.cells] at hcs
      obtain ⟨rfl, rfl, rfl⟩ := hcs
      have hz' : zs.length = c0 := by simpa using hz
      exact ⟨zs.take _, by simp only [List.length_take]; omega, sl_of_cells hl hz' hcell, hl, fun n hn => hwz n (List.mem_of_mem_take hn)⟩
  subst e0
  obtain ⟨a1, rfl, rfl, rfl, w1⟩ := open_int Try.underlying3 (hval 1 3 v1 rfl rfl) h1
  obtain ⟨a2, rfl, rfl, rfl, w2⟩ := open_int Try.underlying5 (hval 2 5 v2 rfl rfl) h2
  clear hA0 hval0
  refine (walk A0 c0 x0 a1 a2 W s0 b0 w1 w2).mono fun e W' ⟨he, bel⟩ => ?_
  subst he
  exact ⟨_, rfl, _, _, _, [], _, [], hW', trodAll_mk1 (shut_bool Try.underlying4 _), (trodAll_cons_mk (Below.trod laidOut (by kernel_rfl) (of_decide_eq_true (by kernel_rfl)) k0 bel lt0) (trodAll_cons_mk (shut_int Try.underlying3 w1) (trodAll_cons_mk (shut_int Try.underlying5 w2) trodAll_mk0))), rfl, bel.frame _, fun h => by cases h⟩

theorem over : Rows.adlerTurnsRow.holds Try.pinned (OpenSpec.ofChange Rows.adlerTurnsSpec) :=
  OpenClaim.holds_of_wide 7 Try.f7 rfl rfl rfl rfl rfl rfl rfl ⟨rfl, rfl, rfl, rfl, rfl⟩ rfl rfl rfl rfl rfl (by kernel_rfl) Try.func7 (by kernel_rfl)
    (of_decide_eq_true (by kernel_rfl)) (by unfold Func.isWrapper; first | (rw [if_pos (by decide +kernel)]; kernel_rfl) | (rw [if_neg (by decide +kernel)]; exact ⟨rfl, rfl⟩))
    (fun os started H enc _ => lifted os started H enc)

theorem proved : Rows.AdlerTurnsSaid := over
#print axioms proved
end Go.Proofs.Ytaijfnjlhpfbpaa.adlerTurns
