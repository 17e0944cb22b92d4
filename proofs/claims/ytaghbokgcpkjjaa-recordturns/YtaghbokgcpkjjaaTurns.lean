/-
  The statement RecordTurns is proved: a record whose Body has one byte that is another one, or two different neighbours that changed their places, is refused by its sum. For every record, int, byte and bool; no condition.
-/
import Derived.Test.YtaghbokgcpkjjaaSwap
import Derived.OpenShut
import Derived.ShutString
import Derived.ChangeOld
namespace Go.Proofs.Ytaghbokgcpkjjaa.recordTurns
open Go.ChangeShapes Go.WideShapes Go.ChangeAt Go.RowKit
set_option linter.unusedVariables false

theorem getD_byte {xs : List Int} (hb : ∀ x ∈ xs, 0 ≤ x ∧ x ≤ 255) {k : Nat} (hk : k < xs.length) : 0 ≤ xs.getD k 0 ∧ xs.getD k 0 ≤ 255 := hb _ (by simp [List.getD, hk])

theorem row_cap {w : World} {base g c : Nat} {xs : List Int} (h : w.ownsRow base 5 1 (.slice (some ⟨g, 0, none⟩) xs.length c) xs.length (xs.map (Value.int .u8))) : xs.length ≤ c := by
  obtain ⟨A, c', hv, _, hc⟩ := own_slice h
  simp only [Value.slice.injEq] at hv
  omega

set_option maxHeartbeats 800000 in
theorem refused (a0 : Int) (A0 : Option Addr) (c0 : Nat) (x0 : List Int) (a1 a2 : Int) (a3 : Bool) (w : World) (s0 : Sl w w.heap.size .u8 A0 x0) (b0 : ∀ n ∈ x0, 0 ≤ n ∧ n ≤ 255) (e : Int) (he : ¬ e = 0) (r : List Int × Int) (hr : pu a0 x0 = r) (hre : r = ([], e)) :
    Calls Try.prog 7 #[.agg #[.int .i64 a0, .slice A0 x0.length c0], .int .i64 a1, .int .u8 a2, .bool a3] w (UpPost w) := by
  have HA : ∀ W, Hid (Calls Try.prog 10 #[] W (UpPost W)) := fun W => awake_any W
  have HP : ∀ W, Below w.heap.size w W → Hid (Calls Try.prog 11 #[.agg #[.int .i64 a0, .slice A0 x0.length c0]] W (PutPost W .u8 r.1 r.2)) := fun W hb => put3_any a0 A0 c0 x0 W ((s0.below hb).mono hb.size) b0 r hr
  have BW : Below w.heap.size w (w.alloc (.cells #[.int .i64 a0, .slice A0 x0.length c0] 24)) := (Below.refl _ _).alloc (Nat.le_refl _) _
  have RB := rbox_new w a0 A0 x0.length c0
  subst hre
  have heb : (e == 0) = false := by rw [beq_eq_false_iff_ne]; exact he
  clear hr b0
  go_enter Try.func7, Try.ntmps7
  go_wp2_with fail
  refine (HA _).out.mono ?_
  rintro e wa ⟨rfl, hba⟩
  have qa := BW.trans (hba.mono BW.size)
  have RA := rbox_on RB hba
  obtain ⟨ca0, ca1, ca2⟩ := RA
  go_wp2_with fail
  refine (HP _ qa).out.mono ?_
  rintro e wb ⟨Ab, cb, rfl, ⟨hsb, hcb⟩, hbb⟩
  have qb := qa.trans (hbb.mono qa.size)
  obtain ⟨cb0, cb1, cb2⟩ := rbox_on ⟨ca0, ca1, ca2⟩ hbb
  clear HP HA hbb hba hsb ca0 ca1
  go_wp2
  go_ret
  exact ⟨rfl, qb⟩

set_option maxHeartbeats 800000 in
theorem outside (a0 : Int) (A0 : Option Addr) (c0 : Nat) (x0 : List Int) (a1 a2 : Int) (a3 : Bool) (w : World) (s0 : Sl w w.heap.size .u8 A0 x0) (b0 : ∀ n ∈ x0, 0 ≤ n ∧ n ≤ 255) (k0 : 0 ≤ a0) (k1 : a0 ≤ 1048576) (hl : x0.length ≤ 1024) (h1 : a1 < 0 ∨ (x0.length : Int) ≤ a1) :
    Calls Try.prog 7 #[.agg #[.int .i64 a0, .slice A0 x0.length c0], .int .i64 a1, .int .u8 a2, .bool a3] w (UpPost w) := by
  obtain ⟨r, hr⟩ : ∃ r, pu a0 x0 = r := ⟨_, rfl⟩
  have HA : ∀ W, Hid (Calls Try.prog 10 #[] W (UpPost W)) := fun W => awake_any W
  have HP : ∀ W, Below w.heap.size w W → Hid (Calls Try.prog 11 #[.agg #[.int .i64 a0, .slice A0 x0.length c0]] W (PutPost W .u8 r.1 r.2)) := fun W hb => put3_any a0 A0 c0 x0 W ((s0.below hb).mono hb.size) b0 r hr
  have BW : Below w.heap.size w (w.alloc (.cells #[.int .i64 a0, .slice A0 x0.length c0] 24)) := (Below.refl _ _).alloc (Nat.le_refl _) _
  have RB := rbox_new w a0 A0 x0.length c0
  rw [pu_ok (by omega) (by omega)] at hr
  subst hr
  clear b0
  generalize rb a0 x0 = ys at *
  by_cases h2 : a1 < 0
  · clear h1
    go_enter Try.func7, Try.ntmps7
    go_wp2_with fail
    refine (HA _).out.mono ?_
    rintro e wa ⟨rfl, hba⟩
    have qa := BW.trans (hba.mono BW.size)
    have RA := rbox_on RB hba
    obtain ⟨ca0, ca1, ca2⟩ := RA
    go_wp2_with fail
    refine (HP _ qa).out.mono ?_
    rintro e wb ⟨Ab, cb, rfl, ⟨hsb, hcb⟩, hbb⟩
    have qb := qa.trans (hbb.mono qa.size)
    obtain ⟨cb0, cb1, cb2⟩ := rbox_on ⟨ca0, ca1, ca2⟩ hbb
    clear HP HA hbb hba hsb ca0 ca1
    go_wp2
    go_ret
    exact ⟨rfl, qb⟩
  · have h3 : (x0.length : Int) ≤ a1 := by omega
    have h2d : decide (a1 < 0) = false := by simpa using h2
    clear h1
    go_enter Try.func7, Try.ntmps7
    go_wp2_with fail
    refine (HA _).out.mono ?_
    rintro e wa ⟨rfl, hba⟩
    have qa := BW.trans (hba.mono BW.size)
    have RA := rbox_on RB hba
    obtain ⟨ca0, ca1, ca2⟩ := RA
    go_wp2_with fail
    refine (HP _ qa).out.mono ?_
    rintro e wb ⟨Ab, cb, rfl, ⟨hsb, hcb⟩, hbb⟩
    have qb := qa.trans (hbb.mono qa.size)
    obtain ⟨cb0, cb1, cb2⟩ := rbox_on ⟨ca0, ca1, ca2⟩ hbb
    clear HP HA hbb hba hsb ca0 ca1
    go_wp2
    go_ret
    exact ⟨rfl, qb⟩

set_option maxHeartbeats 800000 in
theorem one_same (a0 : Int) (A0 : Option Addr) (c0 : Nat) (x0 : List Int) (a2 : Int) (w : World) (s0 : Sl w w.heap.size .u8 A0 x0) (b0 : ∀ n ∈ x0, 0 ≤ n ∧ n ≤ 255) (k0 : 0 ≤ a0) (k1 : a0 ≤ 1048576) (hl : x0.length ≤ 1024) (j : Nat) (hj : j < x0.length) (hx : (rb a0 x0).getD ((hd a0 x0).length + j) 0 = a2) :
    Calls Try.prog 7 #[.agg #[.int .i64 a0, .slice A0 x0.length c0], .int .i64 (j : Int), .int .u8 a2, .bool false] w (UpPost w) := by
  have hr : pu a0 x0 = (rb a0 x0, 0) := pu_ok (by omega) (by omega)
  have HP : ∀ W, Below w.heap.size w W → Hid (Calls Try.prog 11 #[.agg #[.int .i64 a0, .slice A0 x0.length c0]] W (PutPost W .u8 (rb a0 x0) 0)) := fun W hb => put3_any a0 A0 c0 x0 W ((s0.below hb).mono hb.size) b0 (rb a0 x0, 0) hr
  have HA : ∀ W, Hid (Calls Try.prog 10 #[] W (UpPost W)) := fun W => awake_any W
  have BW : Below w.heap.size w (w.alloc (.cells #[.int .i64 a0, .slice A0 x0.length c0] 24)) := (Below.refl _ _).alloc (Nat.le_refl _) _
  have RB := rbox_new w a0 A0 x0.length c0
  obtain ⟨i0, hi, hz0, hz1, hz2⟩ := info_parts info5
  have hyl := (rb_bd (k := a0) (b := x0) k1 hl)
  have hhl : (hd a0 x0).length + x0.length = (rb a0 x0).length := by rw [rb_hd, List.length_append]
  have HY := Lib.hid (rb_byte (k := a0) b0)
  obtain ⟨h, hh⟩ : ∃ h, (hd a0 x0).length = h := ⟨_, rfl⟩
  rw [hh] at hx hhl
  obtain ⟨m, hm⟩ : ∃ m, h + j = m := ⟨_, rfl⟩
  have hmi : (h : Int) + (j : Int) = (m : Int) := by omega
  have hni : ((rb a0 x0).length : Int) - (x0.length : Int) = (h : Int) := by omega
  have hml : m < (rb a0 x0).length := by omega
  have d1 : decide ((j : Int) < 0) = false := by simp
  have d2 : decide ((x0.length : Int) ≤ (j : Int)) = false := by simp; omega
  have d3 : decide (((rb a0 x0).length : Int) < (x0.length : Int)) = false := by simp; omega
  have e0 : (0 : Int) ≤ (m : Int) := by omega
  have e1 : (m : Int) < ((rb a0 x0).length : Int) := by omega
  clear hh hr b0
  rw [hm] at hx
  have HF := Lib.hid hx
  clear hx hm
  generalize rb a0 x0 = ys at *
  go_enter Try.func7, Try.ntmps7
  go_wp2_with fail
  refine (HA _).out.mono ?_
  rintro e wa ⟨rfl, hba⟩
  have qa := BW.trans (hba.mono BW.size)
  have RA := rbox_on RB hba
  obtain ⟨ca0, ca1, ca2⟩ := RA
  go_wp2_with (first | (go_at_call 11; refine (HP _ qa).out.mono ?_; rintro e wb ⟨Ab, cb, rfl, ⟨hsb, hcb⟩, hbb⟩; have qb := qa.trans (hbb.mono qa.size); have RBb := rbox_on ⟨ca0, ca1, ca2⟩ hbb; obtain ⟨cb0, cb1, cb2⟩ := RBb) | (at_builtin; refine wpList_app rfl (.const (.slice none 0 0)) (.tmp 54) 22 rfl wb.heap.size 5 i0 (.int .u8 0) 1 Try.underlying22 hi hz0 hz1 hz2 rfl (.slice none 0 0) 0 [] rfl (World.ownsRow_nil _ _ _ _) wb.heap.size .u8 Ab cb ys rfl hsb (by unfold maxLen; omega) (by omega) (Nat.le_refl _) ?_; intro v1 w1 own1 grow1; simp only [Nat.zero_add, List.nil_append] at own1; have b2 : Below wb.heap.size wb w1 := (Below.refl _ _).grown grow1 (Nat.le_refl _) (by simp [Value.ownBlock]); obtain ⟨cc0, cc1, cc2⟩ := rbox_on ⟨cb0, cb1, cb2⟩ b2; obtain ⟨g, cg, hv1, hg⟩ := row_form own1 (by omega); subst hv1; have hcg := row_cell own1 (j := m) (by omega); rw [HF.out] at hcg; have hfg := own1.frozenAt m))
  clear HP HA hbb hba hsb ca0 ca1 cb0 cb1 cc0
  go_ret
  exact ⟨rfl, qb.trans (b2.mono qb.size)⟩

set_option maxHeartbeats 800000 in
theorem one_other (a0 : Int) (A0 : Option Addr) (c0 : Nat) (x0 : List Int) (a2 : Int) (w : World) (s0 : Sl w w.heap.size .u8 A0 x0) (b0 : ∀ n ∈ x0, 0 ≤ n ∧ n ≤ 255) (k0 : 0 ≤ a0) (k1 : a0 ≤ 1048576) (hl : x0.length ≤ 1024) (j : Nat) (hj : j < x0.length) (p0 : 0 ≤ a2) (p1 : a2 ≤ 255) (hx : (rb a0 x0).getD ((hd a0 x0).length + j) 0 ≠ a2) :
    Calls Try.prog 7 #[.agg #[.int .i64 a0, .slice A0 x0.length c0], .int .i64 (j : Int), .int .u8 a2, .bool false] w (UpPost w) := by
  have hr : pu a0 x0 = (rb a0 x0, 0) := pu_ok (by omega) (by omega)
  have HP : ∀ W, Below w.heap.size w W → Hid (Calls Try.prog 11 #[.agg #[.int .i64 a0, .slice A0 x0.length c0]] W (PutPost W .u8 (rb a0 x0) 0)) := fun W hb => put3_any a0 A0 c0 x0 W ((s0.below hb).mono hb.size) b0 (rb a0 x0, 0) hr
  have HA : ∀ W, Hid (Calls Try.prog 10 #[] W (UpPost W)) := fun W => awake_any W
  have BW : Below w.heap.size w (w.alloc (.cells #[.int .i64 a0, .slice A0 x0.length c0] 24)) := (Below.refl _ _).alloc (Nat.le_refl _) _
  have RB := rbox_new w a0 A0 x0.length c0
  obtain ⟨i0, hi, hz0, hz1, hz2⟩ := info_parts info5
  have hyl := (rb_bd (k := a0) (b := x0) k1 hl)
  have hhl : (hd a0 x0).length + x0.length = (rb a0 x0).length := by rw [rb_hd, List.length_append]
  have HY := Lib.hid (rb_byte (k := a0) b0)
  have hg := turn_one k0 k1 hl b0 hj p0 p1 (fun q => hx q.symm)
  obtain ⟨h, hh⟩ : ∃ h, (hd a0 x0).length = h := ⟨_, rfl⟩
  rw [hh] at hx hg hhl
  obtain ⟨m, hm⟩ : ∃ m, h + j = m := ⟨_, rfl⟩
  have hmi : (h : Int) + (j : Int) = (m : Int) := by omega
  have hni : ((rb a0 x0).length : Int) - (x0.length : Int) = (h : Int) := by omega
  have hml : m < (rb a0 x0).length := by omega
  have d1 : decide ((j : Int) < 0) = false := by simp
  have d2 : decide ((x0.length : Int) ≤ (j : Int)) = false := by simp; omega
  have d3 : decide (((rb a0 x0).length : Int) < (x0.length : Int)) = false := by simp; omega
  have e0 : (0 : Int) ≤ (m : Int) := by omega
  have e1 : (m : Int) < ((rb a0 x0).length : Int) := by omega
  clear hh hr b0
  rw [hm] at hx hg
  clear hm
  have HG := Lib.hid hg
  clear hg
  generalize rb a0 x0 = ys at *
  have HC : ∀ (W : World) (g c : Nat), ys.length ≤ c ∧ Sl W W.heap.size .u8 (some ⟨g, 0, none⟩) (ys.set m a2) → Hid (Calls Try.prog 13 #[.slice (some ⟨g, 0, none⟩) ys.length c] W (RgPost W (0, [], 0, 4))) := fun W g c hs => by
    have := rget3_any (some ⟨g, 0, none⟩) c (ys.set m a2) W (by rw [List.length_set]; omega) (by rw [List.length_set]; exact hs.1) hs.2 (set_bd HY.out p0 p1)
    rw [List.length_set, HG.out] at this
    exact this
  obtain ⟨f, hf⟩ : ∃ f, ys.getD m 0 = f := ⟨_, rfl⟩
  rw [hf] at hx
  have HF := Lib.hid hf
  have hxb : (f == a2) = false := by rw [beq_eq_false_iff_ne]; exact hx
  clear hf hx
  go_enter Try.func7, Try.ntmps7
  go_wp2_with fail
  refine (HA _).out.mono ?_
  rintro e wa ⟨rfl, hba⟩
  have qa := BW.trans (hba.mono BW.size)
  have RA := rbox_on RB hba
  obtain ⟨ca0, ca1, ca2⟩ := RA
  go_wp2_with (first | (go_at_call 11; refine (HP _ qa).out.mono ?_; rintro e wb ⟨Ab, cb, rfl, ⟨hsb, hcb⟩, hbb⟩; have qb := qa.trans (hbb.mono qa.size); have RBb := rbox_on ⟨ca0, ca1, ca2⟩ hbb; obtain ⟨cb0, cb1, cb2⟩ := RBb) | (at_builtin; refine wpList_app rfl (.const (.slice none 0 0)) (.tmp 54) 22 rfl wb.heap.size 5 i0 (.int .u8 0) 1 Try.underlying22 hi hz0 hz1 hz2 rfl (.slice none 0 0) 0 [] rfl (World.ownsRow_nil _ _ _ _) wb.heap.size .u8 Ab cb ys rfl hsb (by unfold maxLen; omega) (by omega) (Nat.le_refl _) ?_; intro v1 w1 own1 grow1; simp only [Nat.zero_add, List.nil_append] at own1; have b2 : Below wb.heap.size wb w1 := (Below.refl _ _).grown grow1 (Nat.le_refl _) (by simp [Value.ownBlock]); obtain ⟨cc0, cc1, cc2⟩ := rbox_on ⟨cb0, cb1, cb2⟩ b2; obtain ⟨g, cg, hv1, hg⟩ := row_form own1 (by omega); subst hv1; have hcg := row_cell own1 (j := m) (by omega); rw [HF.out] at hcg; have hfg := own1.frozenAt m; have hs1 := row_sl (row_set own1 m a2); have hcg2 := row_cap own1))
  refine (HC _ _ _ ⟨hcg2, hs1⟩).out.mono ?_
  rintro e wc ⟨Ac, cc, rfl, _, _, hbc⟩
  have q3 := (qb.trans (b2.mono qb.size)).setCell (p := ⟨g, m, none⟩) (Nat.le_trans qb.size hg) (.int .u8 a2)
  have q4 := q3.trans (hbc.mono q3.size)
  clear HC HP HA hbb hba hsb ca0 ca1 cb0 cb1 cc0 cc1 hs1 own1 grow1 hbc b2
  go_wp2
  go_ret
  exact ⟨rfl, q4.alloc q4.size _⟩

set_option maxHeartbeats 800000 in
theorem two_first (a0 : Int) (A0 : Option Addr) (c0 : Nat) (x0 : List Int) (a2 : Int) (w : World) (s0 : Sl w w.heap.size .u8 A0 x0) (b0 : ∀ n ∈ x0, 0 ≤ n ∧ n ≤ 255) (k0 : 0 ≤ a0) (k1 : a0 ≤ 1048576) (hl : x0.length ≤ 1024) (hj : 0 < x0.length) :
    Calls Try.prog 7 #[.agg #[.int .i64 a0, .slice A0 x0.length c0], .int .i64 0, .int .u8 a2, .bool true] w (UpPost w) := by
  have hr : pu a0 x0 = (rb a0 x0, 0) := pu_ok (by omega) (by omega)
  have HP : ∀ W, Below w.heap.size w W → Hid (Calls Try.prog 11 #[.agg #[.int .i64 a0, .slice A0 x0.length c0]] W (PutPost W .u8 (rb a0 x0) 0)) := fun W hb => put3_any a0 A0 c0 x0 W ((s0.below hb).mono hb.size) b0 (rb a0 x0, 0) hr
  have HA : ∀ W, Hid (Calls Try.prog 10 #[] W (UpPost W)) := fun W => awake_any W
  have BW : Below w.heap.size w (w.alloc (.cells #[.int .i64 a0, .slice A0 x0.length c0] 24)) := (Below.refl _ _).alloc (Nat.le_refl _) _
  have RB := rbox_new w a0 A0 x0.length c0
  obtain ⟨i0, hi, hz0, hz1, hz2⟩ := info_parts info5
  have hyl := (rb_bd (k := a0) (b := x0) k1 hl)
  have hhl : (hd a0 x0).length + x0.length = (rb a0 x0).length := by rw [rb_hd, List.length_append]
  have HY := Lib.hid (rb_byte (k := a0) b0)
  have d2 : decide ((x0.length : Int) ≤ 0) = false := by rw [decide_eq_false_iff_not]; omega
  have d3 : decide (((rb a0 x0).length : Int) < (x0.length : Int)) = false := by simp; omega
  obtain ⟨m, hm⟩ : ∃ m, (hd a0 x0).length = m := ⟨_, rfl⟩
  rw [hm] at hhl
  have hni : ((rb a0 x0).length : Int) - (x0.length : Int) = (m : Int) := by omega
  obtain ⟨f, hf⟩ : ∃ f, (rb a0 x0).getD m 0 = f := ⟨_, rfl⟩
  have HF := Lib.hid hf
  clear hf
  have hx0 : ¬ x0 = [] := fun q => by subst q; simp at hj
  clear hm hr b0
  generalize rb a0 x0 = ys at *
  go_enter Try.func7, Try.ntmps7
  go_wp2_with fail
  refine (HA _).out.mono ?_
  rintro e wa ⟨rfl, hba⟩
  have qa := BW.trans (hba.mono BW.size)
  have RA := rbox_on RB hba
  obtain ⟨ca0, ca1, ca2⟩ := RA
  go_wp2_with (first | (go_at_call 11; refine (HP _ qa).out.mono ?_; rintro e wb ⟨Ab, cb, rfl, ⟨hsb, hcb⟩, hbb⟩; have qb := qa.trans (hbb.mono qa.size); have RBb := rbox_on ⟨ca0, ca1, ca2⟩ hbb; obtain ⟨cb0, cb1, cb2⟩ := RBb) | (at_builtin; refine wpList_app rfl (.const (.slice none 0 0)) (.tmp 54) 22 rfl wb.heap.size 5 i0 (.int .u8 0) 1 Try.underlying22 hi hz0 hz1 hz2 rfl (.slice none 0 0) 0 [] rfl (World.ownsRow_nil _ _ _ _) wb.heap.size .u8 Ab cb ys rfl hsb (by unfold maxLen; omega) (by omega) (Nat.le_refl _) ?_; intro v1 w1 own1 grow1; simp only [Nat.zero_add, List.nil_append] at own1; have b2 : Below wb.heap.size wb w1 := (Below.refl _ _).grown grow1 (Nat.le_refl _) (by simp [Value.ownBlock]); obtain ⟨cc0, cc1, cc2⟩ := rbox_on ⟨cb0, cb1, cb2⟩ b2; obtain ⟨g, cg, hv1, hg⟩ := row_form own1 (by omega); subst hv1; have hcg := row_cell own1 (j := m) (by omega); rw [HF.out] at hcg; have hfg := own1.frozenAt m))
  go_quiet (fail)
  go_wp2
  go_ret
  exact ⟨rfl, below_drewN (qb.trans (b2.mono qb.size)) _⟩

set_option maxHeartbeats 800000 in
theorem two_same (a0 : Int) (A0 : Option Addr) (c0 : Nat) (x0 : List Int) (a2 : Int) (w : World) (s0 : Sl w w.heap.size .u8 A0 x0) (b0 : ∀ n ∈ x0, 0 ≤ n ∧ n ≤ 255) (k0 : 0 ≤ a0) (k1 : a0 ≤ 1048576) (hl : x0.length ≤ 1024) (i j : Nat) (hij : j = i + 1) (hj : j < x0.length) (hx : (rb a0 x0).getD ((hd a0 x0).length + j) 0 = (rb a0 x0).getD ((hd a0 x0).length + i) 0) :
    Calls Try.prog 7 #[.agg #[.int .i64 a0, .slice A0 x0.length c0], .int .i64 (j : Int), .int .u8 a2, .bool true] w (UpPost w) := by
  have hr : pu a0 x0 = (rb a0 x0, 0) := pu_ok (by omega) (by omega)
  have HP : ∀ W, Below w.heap.size w W → Hid (Calls Try.prog 11 #[.agg #[.int .i64 a0, .slice A0 x0.length c0]] W (PutPost W .u8 (rb a0 x0) 0)) := fun W hb => put3_any a0 A0 c0 x0 W ((s0.below hb).mono hb.size) b0 (rb a0 x0, 0) hr
  have HA : ∀ W, Hid (Calls Try.prog 10 #[] W (UpPost W)) := fun W => awake_any W
  have BW : Below w.heap.size w (w.alloc (.cells #[.int .i64 a0, .slice A0 x0.length c0] 24)) := (Below.refl _ _).alloc (Nat.le_refl _) _
  have RB := rbox_new w a0 A0 x0.length c0
  obtain ⟨i0, hi, hz0, hz1, hz2⟩ := info_parts info5
  have hyl := (rb_bd (k := a0) (b := x0) k1 hl)
  have hhl : (hd a0 x0).length + x0.length = (rb a0 x0).length := by rw [rb_hd, List.length_append]
  have HY := Lib.hid (rb_byte (k := a0) b0)
  obtain ⟨h, hh⟩ : ∃ h, (hd a0 x0).length = h := ⟨_, rfl⟩
  rw [hh] at hx hhl
  obtain ⟨m, hm⟩ : ∃ m, h + j = m := ⟨_, rfl⟩
  have hmi : (h : Int) + (j : Int) = (m : Int) := by omega
  have hni : ((rb a0 x0).length : Int) - (x0.length : Int) = (h : Int) := by omega
  have hml : m < (rb a0 x0).length := by omega
  have d1 : decide ((j : Int) < 0) = false := by simp
  have d2 : decide ((x0.length : Int) ≤ (j : Int)) = false := by simp; omega
  have d3 : decide (((rb a0 x0).length : Int) < (x0.length : Int)) = false := by simp; omega
  have e0 : (0 : Int) ≤ (m : Int) := by omega
  have e1 : (m : Int) < ((rb a0 x0).length : Int) := by omega
  obtain ⟨p, hp⟩ : ∃ p, p + 1 = m := ⟨m - 1, by omega⟩
  have hpp : h + i = p := by omega
  have hpi : (m : Int) - 1 = (p : Int) := by omega
  have HQ := Lib.hid (show IntKind.i64.wrap ((m : Int) - 1) = (p : Int) by rw [IntWalk.i64_in _ (by omega)]; omega)
  have hpl : p < (rb a0 x0).length := by omega
  have e2 : (0 : Int) ≤ (p : Int) := by omega
  have e3 : (p : Int) < ((rb a0 x0).length : Int) := by omega
  have d0 : ((j : Int) == 0) = false := by rw [beq_eq_false_iff_ne]; omega
  clear hh hr b0
  rw [hm, hpp] at hx
  generalize rb a0 x0 = ys at *
  obtain ⟨f, hf⟩ : ∃ f, ys.getD m 0 = f := ⟨_, rfl⟩
  have hf2 : ys.getD p 0 = f := by rw [← hx]; exact hf
  have HF := Lib.hid hf
  have HP2 := Lib.hid hf2
  clear hf hf2 hx hm hpp hp hij
  go_enter Try.func7, Try.ntmps7
  go_wp2_with fail
  refine (HA _).out.mono ?_
  rintro e wa ⟨rfl, hba⟩
  have qa := BW.trans (hba.mono BW.size)
  have RA := rbox_on RB hba
  obtain ⟨ca0, ca1, ca2⟩ := RA
  go_wp2_with (first | (go_at_call 11; refine (HP _ qa).out.mono ?_; rintro e wb ⟨Ab, cb, rfl, ⟨hsb, hcb⟩, hbb⟩; have qb := qa.trans (hbb.mono qa.size); have RBb := rbox_on ⟨ca0, ca1, ca2⟩ hbb; obtain ⟨cb0, cb1, cb2⟩ := RBb) | (at_builtin; refine wpList_app rfl (.const (.slice none 0 0)) (.tmp 54) 22 rfl wb.heap.size 5 i0 (.int .u8 0) 1 Try.underlying22 hi hz0 hz1 hz2 rfl (.slice none 0 0) 0 [] rfl (World.ownsRow_nil _ _ _ _) wb.heap.size .u8 Ab cb ys rfl hsb (by unfold maxLen; omega) (by omega) (Nat.le_refl _) ?_; intro v1 w1 own1 grow1; simp only [Nat.zero_add, List.nil_append] at own1; have b2 : Below wb.heap.size wb w1 := (Below.refl _ _).grown grow1 (Nat.le_refl _) (by simp [Value.ownBlock]); obtain ⟨cc0, cc1, cc2⟩ := rbox_on ⟨cb0, cb1, cb2⟩ b2; obtain ⟨g, cg, hv1, hg⟩ := row_form own1 (by omega); subst hv1; have hcg := row_cell own1 (j := m) (by omega); rw [HF.out] at hcg; have hfg := own1.frozenAt m; have hcp := row_cell own1 (j := p) (by omega); rw [HP2.out] at hcp; have hfp := own1.frozenAt p; have b3 := b2))
  have hq := HQ.out
  go_quiet (fail)
  clear hq
  go_wp2
  go_ret
  exact ⟨rfl, below_drewN (qb.trans (b2.mono qb.size)) _⟩

set_option maxHeartbeats 1600000 in
theorem two_other (a0 : Int) (A0 : Option Addr) (c0 : Nat) (x0 : List Int) (a2 : Int) (w : World) (s0 : Sl w w.heap.size .u8 A0 x0) (b0 : ∀ n ∈ x0, 0 ≤ n ∧ n ≤ 255) (k0 : 0 ≤ a0) (k1 : a0 ≤ 1048576) (hl : x0.length ≤ 1024) (i j : Nat) (hij : j = i + 1) (hj : j < x0.length) (hx : (rb a0 x0).getD ((hd a0 x0).length + j) 0 ≠ (rb a0 x0).getD ((hd a0 x0).length + i) 0) :
    Calls Try.prog 7 #[.agg #[.int .i64 a0, .slice A0 x0.length c0], .int .i64 (j : Int), .int .u8 a2, .bool true] w (UpPost w) := by
  have hr : pu a0 x0 = (rb a0 x0, 0) := pu_ok (by omega) (by omega)
  have HP : ∀ W, Below w.heap.size w W → Hid (Calls Try.prog 11 #[.agg #[.int .i64 a0, .slice A0 x0.length c0]] W (PutPost W .u8 (rb a0 x0) 0)) := fun W hb => put3_any a0 A0 c0 x0 W ((s0.below hb).mono hb.size) b0 (rb a0 x0, 0) hr
  have HA : ∀ W, Hid (Calls Try.prog 10 #[] W (UpPost W)) := fun W => awake_any W
  have BW : Below w.heap.size w (w.alloc (.cells #[.int .i64 a0, .slice A0 x0.length c0] 24)) := (Below.refl _ _).alloc (Nat.le_refl _) _
  have RB := rbox_new w a0 A0 x0.length c0
  obtain ⟨i0, hi, hz0, hz1, hz2⟩ := info_parts info5
  have hyl := (rb_bd (k := a0) (b := x0) k1 hl)
  have hhl : (hd a0 x0).length + x0.length = (rb a0 x0).length := by rw [rb_hd, List.length_append]
  have HY := Lib.hid (rb_byte (k := a0) b0)
  have hg := turn_two (k := a0) (x := x0) (j := i) k0 k1 hl b0 (by omega) (by rw [← hij]; exact hx)
  rw [← hij] at hg
  obtain ⟨h, hh⟩ : ∃ h, (hd a0 x0).length = h := ⟨_, rfl⟩
  rw [hh] at hx hg hhl
  obtain ⟨m, hm⟩ : ∃ m, h + j = m := ⟨_, rfl⟩
  have hmi : (h : Int) + (j : Int) = (m : Int) := by omega
  have hni : ((rb a0 x0).length : Int) - (x0.length : Int) = (h : Int) := by omega
  have hml : m < (rb a0 x0).length := by omega
  have d1 : decide ((j : Int) < 0) = false := by simp
  have d2 : decide ((x0.length : Int) ≤ (j : Int)) = false := by simp; omega
  have d3 : decide (((rb a0 x0).length : Int) < (x0.length : Int)) = false := by simp; omega
  have e0 : (0 : Int) ≤ (m : Int) := by omega
  have e1 : (m : Int) < ((rb a0 x0).length : Int) := by omega
  obtain ⟨p, hp⟩ : ∃ p, p + 1 = m := ⟨m - 1, by omega⟩
  have hpp : h + i = p := by omega
  have hpi : (m : Int) - 1 = (p : Int) := by omega
  have HQ := Lib.hid (show IntKind.i64.wrap ((m : Int) - 1) = (p : Int) by rw [IntWalk.i64_in _ (by omega)]; omega)
  have hpl : p < (rb a0 x0).length := by omega
  have e2 : (0 : Int) ≤ (p : Int) := by omega
  have e3 : (p : Int) < ((rb a0 x0).length : Int) := by omega
  have d0 : ((j : Int) == 0) = false := by rw [beq_eq_false_iff_ne]; omega
  clear hh hr b0
  rw [hm, hpp] at hx hg
  have HG := Lib.hid hg
  clear hg
  generalize rb a0 x0 = ys at *
  obtain ⟨f, hf⟩ : ∃ f, ys.getD m 0 = f := ⟨_, rfl⟩
  obtain ⟨q, hq0⟩ : ∃ q, ys.getD p 0 = q := ⟨_, rfl⟩
  rw [hf, hq0] at hx HG
  obtain ⟨f0, f1⟩ := hf ▸ getD_byte HY.out hml
  obtain ⟨q0, q1⟩ := hq0 ▸ getD_byte HY.out hpl
  have HF := Lib.hid hf
  have HP2 := Lib.hid hq0
  have hxb : (f == q) = false := by rw [beq_eq_false_iff_ne]; exact hx
  have HC : ∀ (W : World) (g c : Nat), ys.length ≤ c ∧ Sl W W.heap.size .u8 (some ⟨g, 0, none⟩) ((ys.set m q).set p f) → Hid (Calls Try.prog 13 #[.slice (some ⟨g, 0, none⟩) ys.length c] W (RgPost W (0, [], 0, 4))) := fun W g c hs => by
    have := rget3_any (some ⟨g, 0, none⟩) c ((ys.set m q).set p f) W (by rw [List.length_set, List.length_set]; omega) (by rw [List.length_set, List.length_set]; exact hs.1) hs.2 (set_bd (set_bd HY.out q0 q1) f0 f1)
    rw [List.length_set, List.length_set, HG.out] at this
    exact this
  have hmp : ¬ m = p := by omega
  clear hf hq0 hx hm hpp hp hij
  go_enter Try.func7, Try.ntmps7
  go_wp2_with fail
  refine (HA _).out.mono ?_
  rintro e wa ⟨rfl, hba⟩
  have qa := BW.trans (hba.mono BW.size)
  have RA := rbox_on RB hba
  obtain ⟨ca0, ca1, ca2⟩ := RA
  go_wp2_with (first | (go_at_call 11; refine (HP _ qa).out.mono ?_; rintro e wb ⟨Ab, cb, rfl, ⟨hsb, hcb⟩, hbb⟩; have qb := qa.trans (hbb.mono qa.size); have RBb := rbox_on ⟨ca0, ca1, ca2⟩ hbb; obtain ⟨cb0, cb1, cb2⟩ := RBb) | (at_builtin; refine wpList_app rfl (.const (.slice none 0 0)) (.tmp 54) 22 rfl wb.heap.size 5 i0 (.int .u8 0) 1 Try.underlying22 hi hz0 hz1 hz2 rfl (.slice none 0 0) 0 [] rfl (World.ownsRow_nil _ _ _ _) wb.heap.size .u8 Ab cb ys rfl hsb (by unfold maxLen; omega) (by omega) (Nat.le_refl _) ?_; intro v1 w1 own1 grow1; simp only [Nat.zero_add, List.nil_append] at own1; have b2 : Below wb.heap.size wb w1 := (Below.refl _ _).grown grow1 (Nat.le_refl _) (by simp [Value.ownBlock]); obtain ⟨cc0, cc1, cc2⟩ := rbox_on ⟨cb0, cb1, cb2⟩ b2; obtain ⟨g, cg, hv1, hg⟩ := row_form own1 (by omega); subst hv1; have hcg := row_cell own1 (j := m) (by omega); rw [HF.out] at hcg; have hfg := own1.frozenAt m; have hcp := row_cell own1 (j := p) (by omega); rw [HP2.out] at hcp; have hfp := own1.frozenAt p; have b3 := b2; have hcg2 := row_cap own1))
  obtain ⟨bb, off, hAb, hlt, hbm⟩ := (hsb.below b2).at_ hml
  obtain ⟨bb', off', hAb', _, hbp⟩ := (hsb.below b2).at_ hpl
  rw [hAb] at hAb'
  simp only [Option.some.injEq, Addr.mk.injEq, and_true] at hAb'
  obtain ⟨rfl, rfl⟩ := hAb'
  subst hAb
  rw [HF.out] at hbm
  rw [HP2.out] at hbp
  have hq := HQ.out
  go_quiet (fail)
  clear hq
  have q3 := (((below_drewN (qb.trans (b2.mono qb.size)) nq).setCell (p := ⟨g, m, none⟩) (Nat.le_trans qb.size hg) (.int .u8 q)).setCell (p := ⟨g, p, none⟩) (Nat.le_trans qb.size hg) (.int .u8 f))
  have hgb : ¬ bb = g := by omega
  have hs1 := row_sl (row_set (row_set (show (w1.drewN nq).ownsRow wb.heap.size 5 1 (.slice (some ⟨g, 0, none⟩) ys.length cg) ys.length (ys.map (Value.int .u8)) from own1) m q) p f)
  have own2 := row_set own1 m q
  rw [List.length_set] at own2
  have hp2 := own2.cellAt p (by omega)
  have hp3 := own2.frozenAt p
  have hbm2 : (w1.setCell ⟨g, m, none⟩ (.int .u8 q)).cell? ⟨bb, off + m, none⟩ = some (.int .u8 f) := by
    rw [World.cell?_of_block (w := w1) (Below.heap_setCell w1 ⟨g, m, none⟩ _ bb hgb)]; exact hbm
  clear hp2 hp3 own2 own1 grow1 hba hbb
  go_wp2_with fail
  refine (HC _ _ _ ⟨hcg2, hs1⟩).out.mono ?_
  rintro e wc ⟨Ac, cc, rfl, _, _, hbc⟩
  have q4 := q3.trans (hbc.mono q3.size)
  go_wp2
  go_ret
  exact ⟨rfl, q4.alloc q4.size _⟩

set_option linter.unusedVariables false in
theorem walk (a0 : Int) (A0 : Option Addr) (c0 : Nat) (x0 : List Int) (a1 a2 : Int) (a3 : Bool) (w : World) (w0 : -9223372036854775808 ≤ a0 ∧ a0 ≤ 9223372036854775807) (s0 : Sl w w.heap.size .u8 A0 x0) (m0 : x0.length ≤ c0) (b0 : ∀ n ∈ x0, 0 ≤ n ∧ n ≤ 255)
    (w1 : (Lit.int .i64 a1).wf = true) (w2 : (Lit.int .u8 a2).wf = true) : Calls Try.prog 7 #[.agg #[.int .i64 a0, .slice A0 x0.length c0], .int .i64 a1, .int .u8 a2, .bool a3] w (UpPost w) := by
  obtain ⟨r, hr⟩ : ∃ r, pu a0 x0 = r := ⟨_, rfl⟩
  obtain ⟨p0, p1⟩ := byte_of w2
  rcases pu_cases hr with ⟨k0, k1, hl, _⟩ | ⟨e, he, hre⟩
  · by_cases h1 : a1 < 0 ∨ (x0.length : Int) ≤ a1
    · exact outside a0 A0 c0 x0 a1 a2 a3 w s0 b0 k0 k1 hl h1
    · obtain ⟨j, rfl⟩ : ∃ j : Nat, a1 = (j : Int) := ⟨a1.toNat, by omega⟩
      have hj : j < x0.length := by omega
      cases a3 with
      | false =>
        by_cases hx : (rb a0 x0).getD ((hd a0 x0).length + j) 0 = a2
        · exact one_same a0 A0 c0 x0 a2 w s0 b0 k0 k1 hl j hj hx
        · exact one_other a0 A0 c0 x0 a2 w s0 b0 k0 k1 hl j hj p0 p1 hx
      | true =>
        cases j with
        | zero => exact two_first a0 A0 c0 x0 a2 w s0 b0 k0 k1 hl (by omega)
        | succ i =>
          by_cases hx : (rb a0 x0).getD ((hd a0 x0).length + (i + 1)) 0 = (rb a0 x0).getD ((hd a0 x0).length + i) 0
          · exact two_same a0 A0 c0 x0 a2 w s0 b0 k0 k1 hl i (i + 1) rfl hj hx
          · exact two_other a0 A0 c0 x0 a2 w s0 b0 k0 k1 hl i (i + 1) rfl hj hx
  · exact refused a0 A0 c0 x0 a1 a2 a3 w s0 b0 e he r hr hre

theorem own : ownKnob Try.prog.godebug = none := by kernel_rfl
theorem laidOut : laidOutB Try.prog = true := by kernel_rfl

set_option maxRecDepth 100000 in
theorem lifted (os : Os) (started : os.Started) (H : Type) (enc : TypeId × Value → H) :
    ReturnsInHanded {} Try.checked os 7 .any (Rows.recordTurnsSpec.pre6 enc Try.prog Try.f7 Rows.recordTurnsRow.domain false) (Rows.recordTurnsSpec.post enc Try.prog Try.f7 false true false false) := by
  refine returnsInHanded_of_change (C := Try.checked) own started (by kernel_rfl) Try.func7
    (ChangeSpec.witness6 (enc := enc) (C := Try.checked) false ⟨#[], #[.agg #[.int .i64 0, .slice none 0 0], .int .i64 0, .int .u8 0, .bool false], []⟩ 8 (by kernel_rfl) (by kernel_rfl) (by kernel_rfl) (by kernel_rfl)) ?_
  intro W base args ds gs before hval0 hW hcnd _
  have hval : ∀ (j : Nat) t v, Try.f7.params[j]? = some t → args[j]? = some v → Value.okWide Try.prog W .any base t v := hval0
  have hW' := hW
  obtain ⟨p, q, hA0, hV, rfl, hfz, hnd⟩ := hW
  have hA : DataW.TrodAll enc Try.prog W 0 (fun _ => true) true Try.f7.params.toList args.toList ds p := hA0
  rw [Try.params7] at hA hval
  obtain ⟨v0, vs0, d0, ds0, p0, q0, hargs, rfl, rfl, h0, r0⟩ := trodAll_cons hA
  obtain ⟨v1, vs1, d1, ds1, p1, q1, rfl, rfl, rfl, h1, r1⟩ := trodAll_cons r0
  obtain ⟨v2, vs2, d2, ds2, p2, q2, rfl, rfl, rfl, h2, r2⟩ := trodAll_cons r1
  obtain ⟨v3, vs3, d3, ds3, p3, q3, rfl, rfl, rfl, h3, r3⟩ := trodAll_cons r2
  obtain ⟨rfl, rfl, rfl⟩ := trodAll_nil r3
  obtain rfl : args = #[v0, v1, v2, v3] := by cases args; simp_all
  obtain ⟨rfl, rfl⟩ := trodVars_none hV
  have k0 := h0
  have lt0 : ∀ x ∈ p0, x.block < W.heap.size := by obtain ⟨m, hm⟩ := k0; exact DataW.trod_lt m _ _ _ hm
  obtain ⟨a0, A0, c0, x0, rfl, w0, s0, m0, b0⟩ := open_rec (hval 0 24 v0 rfl rfl) h0
  obtain ⟨a1, rfl, rfl, rfl, w1⟩ := open_int Try.underlying3 (hval 1 3 v1 rfl rfl) h1
  obtain ⟨a2, rfl, rfl, rfl, w2⟩ := open_int Try.underlying5 (hval 2 5 v2 rfl rfl) h2
  obtain ⟨a3, rfl, rfl, rfl⟩ := open_bool Try.underlying4 (hval 3 4 v3 rfl rfl) h3
  clear hA0 hval0
  refine (walk a0 A0 c0 x0 a1 a2 a3 W w0 s0 m0 b0 w1 w2 ).mono fun e W' ⟨he, bel⟩ => ?_
  subst he
  exact ⟨_, rfl, _, _, _, [], _, [], hW', trodAll_mk1 (shut_bool Try.underlying4 _), (trodAll_cons_mk (Below.trod laidOut (by kernel_rfl) (of_decide_eq_true (by kernel_rfl)) k0 bel lt0) (trodAll_cons_mk (shut_int Try.underlying3 w1) (trodAll_cons_mk (shut_int Try.underlying5 w2) (trodAll_cons_mk (shut_bool Try.underlying4 _) trodAll_mk0)))), rfl, bel.frame _, fun h => by cases h⟩

theorem over : Rows.recordTurnsRow.holds Try.pinned (OpenSpec.ofChange Rows.recordTurnsSpec) :=
  OpenClaim.holds_of_wide 7 Try.f7 rfl rfl rfl rfl rfl rfl rfl ⟨rfl, rfl, rfl, rfl, rfl⟩ rfl rfl rfl rfl rfl (by kernel_rfl) Try.func7 (by kernel_rfl)
    (of_decide_eq_true (by kernel_rfl)) (by unfold Func.isWrapper; first | (rw [if_pos (by decide +kernel)]; kernel_rfl) | (rw [if_neg (by decide +kernel)]; exact ⟨rfl, rfl⟩))
    (fun os started H enc _ => lifted os started H enc)

theorem proved : Rows.RecordTurnsSaid := over
#print axioms proved
end Go.Proofs.Ytaghbokgcpkjjaa.recordTurns
