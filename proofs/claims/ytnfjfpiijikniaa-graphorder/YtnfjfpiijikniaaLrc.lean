/-
  The walk of the law GraphReach. No conditions.
-/
import Derived.Test.YtnfjfpiijikniaaAp
namespace Go.Proofs.Ytnfjfpiijikniaa.Gp
open Go.RowKit
set_option linter.unusedVariables false

theorem rz_iff {n : Int} {l : List (Int × Int)} {f t : Int} : rz n l f t = true ↔ (0 ≤ f ∧ f < (am n : Int)) ∧ (0 ≤ t ∧ t < (am n : Int)) ∧ Rt (Ed (am n) l) f.toNat t.toNat := by
  unfold rz cz
  rw [decide_eq_true_iff]
  constructor
  · intro h
    split at h
    · rename_i hf
      obtain ⟨x, hx, rfl⟩ := List.mem_map.1 h
      obtain ⟨h1, h2⟩ := mem_clo.1 hx
      exact ⟨hf, ⟨by omega, by omega⟩, by simpa using h2⟩
    · simp [zs] at h
  · rintro ⟨hf, ht, hr⟩
    rw [if_pos hf]
    exact List.mem_map.2 ⟨t.toNat, mem_clo.2 ⟨by omega, hr⟩, by omega⟩
theorem rz_trans {n : Int} {l : List (Int × Int)} {a b d : Int} (h : rz n l a b = true) (k : rz n l b d = true) : rz n l a d = true := by
  rw [rz_iff] at *
  exact ⟨h.1, k.2.1, h.2.2.trans k.2.2⟩
theorem rz_self {n : Int} {l : List (Int × Int)} {a : Int} : rz n l a a = decide (0 ≤ a ∧ a < (am n : Int)) := by
  rw [Bool.eq_iff_iff, rz_iff, decide_eq_true_iff]
  exact ⟨fun h => h.1, fun h => ⟨h, h, .refl⟩⟩
theorem rz_more {n : Int} {l : List (Int × Int)} {a b : Int} (x : Int × Int) (h : rz n l a b = true) : rz n (l ++ [x]) a b = true := by
  rw [rz_iff] at *
  exact ⟨h.1, h.2.1, h.2.2.mono fun u v e => ⟨e.1, e.2.1, List.mem_append_left _ e.2.2⟩⟩

set_option maxHeartbeats 4000000 in
theorem lreach_any (n : Int) (A : Option Addr) (c : Nat) (l : List (Int × Int)) (a b d : Int) (x y : Int) (w : World) (hs : Es w w.heap.size A l) : Calls Try.prog 6 #[.int .i64 n, .slice A l.length c, .int .i64 a, .int .i64 b, .int .i64 d, .agg #[.int .i64 x, .int .i64 y]] w (UpPost w) := by
  have HW := Lib.hid (fun W => awake_any W)
  have B0 : Below w.heap.size w (w.alloc (.cells #[.int .i64 x, .int .i64 y] 33)) := (Below.refl _ _).alloc (Nat.le_refl _) _
  have N0 := heap_alloc_new w (.cells #[.int .i64 x, .int .i64 y] 33)
  have S0 : (w.alloc (.cells #[.int .i64 x, .int .i64 y] 33)).heap.size = w.heap.size + 1 := by simp
  by_cases h0 : n < 0
  · go_enter Try.func6, Try.ntmps6
    go_wp2_with fail
    refine (HW.out _).mono ?_
    rintro e w1 ⟨rfl, B1⟩
    go_wp2
    go_ret
    exact ⟨rfl, B0.trans (B1.mono B0.size)⟩
  · have d0 := decide_eq_false h0
    by_cases h1 : 100 < n
    · go_enter Try.func6, Try.ntmps6
      go_wp2_with fail
      refine (HW.out _).mono ?_
      rintro e w1 ⟨rfl, B1⟩
      go_wp2
      go_ret
      exact ⟨rfl, B0.trans (B1.mono B0.size)⟩
    · have d1 := decide_eq_false h1
      by_cases h2 : (300 : Int) < (l.length : Int)
      · go_enter Try.func6, Try.ntmps6
        go_wp2_with fail
        refine (HW.out _).mono ?_
        rintro e w1 ⟨rfl, B1⟩
        go_wp2
        go_ret
        exact ⟨rfl, B0.trans (B1.mono B0.size)⟩
      · have d2 := decide_eq_false h2
        have hl3 : l.length ≤ 1000 := by omega
        have hl4 : (l ++ [(x, y)]).length ≤ 1000 := by simp; omega
        have hE : Hid ((l ++ [(x, y)]).length = l.length + 1) := by show _ = _; simp
        have H1 := Lib.hid (fun W h => Reaches_any n A c l a b hl3 W h)
        have H2 := Lib.hid (fun W h => Reaches_any n A c l b d hl3 W h)
        have H3 := Lib.hid (fun W h => Reaches_any n A c l a d hl3 W h)
        have H4 := Lib.hid (fun W h => Reaches_any n A c l a a hl3 W h)
        have H5 : Hid (∀ A' c' W, Es W W.heap.size A' (l ++ [(x, y)]) → Calls Try.prog 17 #[.int .i64 n, .slice A' (l.length + 1) c', .int .i64 a, .int .i64 b] W (BoolPost W (rz n (l ++ [(x, y)]) a b))) := fun A' c' W h => by
          have := Reaches_any n A' c' (l ++ [(x, y)]) a b hl4 W h
          rwa [hE.out] at this
        rw [show rz n l a a = decide (0 ≤ a ∧ a < n) by rw [rz_self, am_in (by omega) (by omega)]] at H4
        have X1 := Lib.hid (fun h k => rz_trans (n := n) (l := l) (a := a) (b := b) (d := d) h k)
        have X2 := Lib.hid (fun h => rz_more (n := n) (l := l) (a := a) (b := b) (x, y) h)
        generalize rz n l a b = q1 at *
        generalize rz n l b d = q2 at *
        generalize rz n l a d = q3 at *
        generalize rz n (l ++ [(x, y)]) a b = q5 at *
        have HS := Lib.hid hs
        have HB0 := Lib.hid B0
        obtain ⟨r4, hr4⟩ : ∃ r4, decide (0 ≤ a ∧ a < n) = r4 := ⟨_, rfl⟩
        rw [hr4] at H4
        have HR4 := Lib.hid hr4
        clear hs hr4 hl4 hl3 h0 h1 h2
        have hl3 : l.length ≤ 300 := by have := of_decide_eq_false d2; omega
        by_cases ha : 0 ≤ a
        · by_cases hb : a < n
          · obtain rfl : r4 = true := by rw [← HR4.out]; simp [ha, hb]
            clear HR4
            go_enter Try.func6, Try.ntmps6
            go_wp2_with fail
            refine (HW.out _).mono ?_
            rintro e w1 ⟨rfl, B1⟩
            have B1' := HB0.out.trans (B1.mono HB0.out.size)
            have bx : w1.heap[w.heap.size]? = some (.cells #[.int .i64 x, .int .i64 y] 33) := (B1.block _ (by omega)).trans N0
            go_wp2_with fail
            refine (H1.out _ (HS.out.to B1' B1'.size)).mono ?_
            rintro e w2 ⟨rfl, B2⟩
            have B2' := B1'.trans (B2.mono B1'.size)
            go_wp2_with fail
            refine (H2.out _ (HS.out.to B2' B2'.size)).mono ?_
            rintro e w3 ⟨rfl, B3⟩
            have B3' := B2'.trans (B3.mono B2'.size)
            have z3 := B3'.size
            have bx3 : w3.heap[w.heap.size]? = some (.cells #[.int .i64 x, .int .i64 y] 33) := (B3.block _ (by have := B2.size; have := lt_of_block bx; omega)).trans ((B2.block _ (lt_of_block bx)).trans bx)
            have zb := lt_of_block bx3
            have c0 : w3.cell? ⟨w.heap.size, 0, none⟩ = some (.int .i64 x) := by rw [cell_of_row _ _ _ _ _ _ bx3]; rfl
            have c1 : w3.cell? ⟨w.heap.size, 1, none⟩ = some (.int .i64 y) := by rw [cell_of_row _ _ _ _ _ _ bx3]; rfl
            have HC := Lib.hid (fun (W : World) (h : Below w3.heap.size w3 W) => (⟨(h.cell (p := ⟨w.heap.size, 0, none⟩) zb).trans c0, (h.cell (p := ⟨w.heap.size, 1, none⟩) zb).trans c1⟩ : W.cell? ⟨w.heap.size, 0, none⟩ = some (.int .i64 x) ∧ W.cell? ⟨w.heap.size, 1, none⟩ = some (.int .i64 y)))
            have HB3 := Lib.hid B3'
            have HA := Lib.hid (HS.out.to B3' B3'.size)
            have SA := Lib.hid (HA.out.to ((Below.refl w3.heap.size w3).drew) (Nat.le_refl _))
            have SB := Lib.hid (HA.out.to (((Below.refl w3.heap.size w3).drew).alloc (Nat.le_refl _) (.cells #[.int .i64 x, .int .i64 y] 33)) (by simp))
            have NB := Lib.hid (World.ownsRow_nil (w3.drew.alloc (.cells #[.int .i64 x, .int .i64 y] 33)) w3.heap.size 33 2)
            have OB := Lib.hid (es_one w3.drew x y 33)
            clear bx bx3 B3' B2' B1' B1 B2 B3 H1 H2 HW N0 S0 zb z3
            go_wp2_with fail
            go_region_law (first
              | (refine step_app2 (w := w3.drew) (by rfl) (.const (.slice none 0 0)) (.tmp 52) (by rfl) (.slice none 0 0) (by rfl) [] w3.heap.size (World.ownsRow_nil _ _ _ _) A l.length c (by rfl) l rfl _ SA.out (by simp; omega) (Nat.le_refl _) ?_; intro v1 w4 own1 grow1; have B4 := ((Below.refl w3.heap.size w3).drew).grown grow1 (Nat.le_refl _) (by simp [Value.ownBlock]); have z4 := B4.size; obtain ⟨c0, c1⟩ := HC.out _ B4)
              | (refine step_app2 (w := w3.drew.alloc (.cells #[.int .i64 x, .int .i64 y] 33)) (by rfl) (.const (.slice none 0 0)) (.tmp 52) (by rfl) (.slice none 0 0) (by rfl) [] w3.heap.size NB.out A l.length c (by rfl) l rfl _ SB.out (by simp; omega) (by simp) ?_; intro v1 w4 own1 grow1; have B4 := (((Below.refl w3.heap.size w3).drew).alloc (Nat.le_refl _) (.cells #[.int .i64 x, .int .i64 y] 33)).grown grow1 (by simp) (by simp [Value.ownBlock]); have z4 := B4.size; have OY := Lib.hid (OB.out.below ((Below.refl _ _).grown grow1 (Nat.le_refl _) (by simp [Value.ownBlock]))))
              | (refine step_app2 (w := w4.alloc (.cells #[.int .i64 x, .int .i64 y] 33)) (by rfl) (.tmp 53) (.tmp 55) (by rfl) v1 (by rfl) ([] ++ l) w3.heap.size (own1.alloc _) (some ⟨w4.heap.size, 0, none⟩) 1 1 (by rfl) [(x, y)] rfl _ (es_one w4 x y 33) (by simp; omega) (by simp; omega) ?_; intro v5 w5 own5 grow5; have B5 := (B4.alloc z4 (.cells #[.int .i64 x, .int .i64 y] 33)).grown grow5 (by simp; omega) (fun r hr => (own1.lt r hr).1))
              | (refine step_app2 (w := w4) (by rfl) (.tmp 53) (.tmp 55) (by rfl) v1 (by rfl) ([] ++ l) w3.heap.size own1 (some ⟨w3.heap.size, 0, none⟩) 1 1 (by rfl) [(x, y)] rfl _ OY.out (by simp; omega) z4 ?_; intro v5 w5 own5 grow5; have B5 := B4.grown grow5 z4 (fun r hr => (own1.lt r hr).1)))
            all_goals
              obtain ⟨A5, c5, hv5, S5⟩ := own_es own5 rfl
              have hv6 : v5 = .slice A5 (l.length + 1) c5 := by simpa using hv5
              subst hv6
              have B6 := HB3.out.trans (B5.mono HB3.out.size)
              have S5 : Es w5 w5.heap.size A5 (l ++ [(x, y)]) := S5
              clear hv5 own5 grow5 own1 grow1 B4 B5 c0 c1
              cases q1
              · go_wp2_with fail
                refine (H4.out _ (HS.out.to B6 B6.size)).mono ?_
                rintro e w6 ⟨rfl, B7⟩
                have B8 := B6.trans (B7.mono B6.size)
                go_wp2
                go_ret
                exact ⟨rfl, B8⟩
              · obtain rfl : q5 = true := X2.out rfl
                cases q2
                · go_wp2_with fail
                  refine (H4.out _ (HS.out.to B6 B6.size)).mono ?_
                  rintro e w6 ⟨rfl, B7⟩
                  have B8 := B6.trans (B7.mono B6.size)
                  go_wp2_with fail
                  refine (H5.out _ _ _ (S5.to B7 B7.size)).mono ?_
                  rintro e w7 ⟨rfl, B9⟩
                  have B10 := B8.trans (B9.mono B8.size)
                  go_wp2
                  go_ret
                  exact ⟨rfl, B10⟩
                · obtain rfl : q3 = true := X1.out rfl rfl
                  go_wp2_with fail
                  refine (H3.out _ (HS.out.to B6 B6.size)).mono ?_
                  rintro e w6 ⟨rfl, B7⟩
                  have B8 := B6.trans (B7.mono B6.size)
                  go_wp2_with fail
                  refine (H4.out _ (HS.out.to B8 B8.size)).mono ?_
                  rintro e w7 ⟨rfl, B9⟩
                  have B10 := B8.trans (B9.mono B8.size)
                  go_wp2_with fail
                  refine (H5.out _ _ _ ((S5.to B7 B7.size).to B9 B9.size)).mono ?_
                  rintro e w8 ⟨rfl, B11⟩
                  have B12 := B10.trans (B11.mono B10.size)
                  go_wp2
                  go_ret
                  exact ⟨rfl, B12⟩
          · obtain rfl : r4 = false := by rw [← HR4.out]; simp [hb]
            have hb' := decide_eq_false hb
            clear HR4
            go_enter Try.func6, Try.ntmps6
            go_wp2_with fail
            refine (HW.out _).mono ?_
            rintro e w1 ⟨rfl, B1⟩
            have B1' := HB0.out.trans (B1.mono HB0.out.size)
            have bx : w1.heap[w.heap.size]? = some (.cells #[.int .i64 x, .int .i64 y] 33) := (B1.block _ (by omega)).trans N0
            go_wp2_with fail
            refine (H1.out _ (HS.out.to B1' B1'.size)).mono ?_
            rintro e w2 ⟨rfl, B2⟩
            have B2' := B1'.trans (B2.mono B1'.size)
            go_wp2_with fail
            refine (H2.out _ (HS.out.to B2' B2'.size)).mono ?_
            rintro e w3 ⟨rfl, B3⟩
            have B3' := B2'.trans (B3.mono B2'.size)
            have z3 := B3'.size
            have bx3 : w3.heap[w.heap.size]? = some (.cells #[.int .i64 x, .int .i64 y] 33) := (B3.block _ (by have := B2.size; have := lt_of_block bx; omega)).trans ((B2.block _ (lt_of_block bx)).trans bx)
            have zb := lt_of_block bx3
            have c0 : w3.cell? ⟨w.heap.size, 0, none⟩ = some (.int .i64 x) := by rw [cell_of_row _ _ _ _ _ _ bx3]; rfl
            have c1 : w3.cell? ⟨w.heap.size, 1, none⟩ = some (.int .i64 y) := by rw [cell_of_row _ _ _ _ _ _ bx3]; rfl
            have HC := Lib.hid (fun (W : World) (h : Below w3.heap.size w3 W) => (⟨(h.cell (p := ⟨w.heap.size, 0, none⟩) zb).trans c0, (h.cell (p := ⟨w.heap.size, 1, none⟩) zb).trans c1⟩ : W.cell? ⟨w.heap.size, 0, none⟩ = some (.int .i64 x) ∧ W.cell? ⟨w.heap.size, 1, none⟩ = some (.int .i64 y)))
            have HB3 := Lib.hid B3'
            have HA := Lib.hid (HS.out.to B3' B3'.size)
            have SA := Lib.hid (HA.out.to ((Below.refl w3.heap.size w3).drew) (Nat.le_refl _))
            have SB := Lib.hid (HA.out.to (((Below.refl w3.heap.size w3).drew).alloc (Nat.le_refl _) (.cells #[.int .i64 x, .int .i64 y] 33)) (by simp))
            have NB := Lib.hid (World.ownsRow_nil (w3.drew.alloc (.cells #[.int .i64 x, .int .i64 y] 33)) w3.heap.size 33 2)
            have OB := Lib.hid (es_one w3.drew x y 33)
            clear bx bx3 B3' B2' B1' B1 B2 B3 H1 H2 HW N0 S0 zb z3
            go_wp2_with fail
            go_region_law (first
              | (refine step_app2 (w := w3.drew) (by rfl) (.const (.slice none 0 0)) (.tmp 52) (by rfl) (.slice none 0 0) (by rfl) [] w3.heap.size (World.ownsRow_nil _ _ _ _) A l.length c (by rfl) l rfl _ SA.out (by simp; omega) (Nat.le_refl _) ?_; intro v1 w4 own1 grow1; have B4 := ((Below.refl w3.heap.size w3).drew).grown grow1 (Nat.le_refl _) (by simp [Value.ownBlock]); have z4 := B4.size; obtain ⟨c0, c1⟩ := HC.out _ B4)
              | (refine step_app2 (w := w3.drew.alloc (.cells #[.int .i64 x, .int .i64 y] 33)) (by rfl) (.const (.slice none 0 0)) (.tmp 52) (by rfl) (.slice none 0 0) (by rfl) [] w3.heap.size NB.out A l.length c (by rfl) l rfl _ SB.out (by simp; omega) (by simp) ?_; intro v1 w4 own1 grow1; have B4 := (((Below.refl w3.heap.size w3).drew).alloc (Nat.le_refl _) (.cells #[.int .i64 x, .int .i64 y] 33)).grown grow1 (by simp) (by simp [Value.ownBlock]); have z4 := B4.size; have OY := Lib.hid (OB.out.below ((Below.refl _ _).grown grow1 (Nat.le_refl _) (by simp [Value.ownBlock]))))
              | (refine step_app2 (w := w4.alloc (.cells #[.int .i64 x, .int .i64 y] 33)) (by rfl) (.tmp 53) (.tmp 55) (by rfl) v1 (by rfl) ([] ++ l) w3.heap.size (own1.alloc _) (some ⟨w4.heap.size, 0, none⟩) 1 1 (by rfl) [(x, y)] rfl _ (es_one w4 x y 33) (by simp; omega) (by simp; omega) ?_; intro v5 w5 own5 grow5; have B5 := (B4.alloc z4 (.cells #[.int .i64 x, .int .i64 y] 33)).grown grow5 (by simp; omega) (fun r hr => (own1.lt r hr).1))
              | (refine step_app2 (w := w4) (by rfl) (.tmp 53) (.tmp 55) (by rfl) v1 (by rfl) ([] ++ l) w3.heap.size own1 (some ⟨w3.heap.size, 0, none⟩) 1 1 (by rfl) [(x, y)] rfl _ OY.out (by simp; omega) z4 ?_; intro v5 w5 own5 grow5; have B5 := B4.grown grow5 z4 (fun r hr => (own1.lt r hr).1)))
            all_goals
              obtain ⟨A5, c5, hv5, S5⟩ := own_es own5 rfl
              have hv6 : v5 = .slice A5 (l.length + 1) c5 := by simpa using hv5
              subst hv6
              have B6 := HB3.out.trans (B5.mono HB3.out.size)
              have S5 : Es w5 w5.heap.size A5 (l ++ [(x, y)]) := S5
              clear hv5 own5 grow5 own1 grow1 B4 B5 c0 c1
              cases q1
              · go_wp2_with fail
                refine (H4.out _ (HS.out.to B6 B6.size)).mono ?_
                rintro e w6 ⟨rfl, B7⟩
                have B8 := B6.trans (B7.mono B6.size)
                go_wp2
                go_ret
                exact ⟨rfl, B8⟩
              · obtain rfl : q5 = true := X2.out rfl
                cases q2
                · go_wp2_with fail
                  refine (H4.out _ (HS.out.to B6 B6.size)).mono ?_
                  rintro e w6 ⟨rfl, B7⟩
                  have B8 := B6.trans (B7.mono B6.size)
                  go_wp2_with fail
                  refine (H5.out _ _ _ (S5.to B7 B7.size)).mono ?_
                  rintro e w7 ⟨rfl, B9⟩
                  have B10 := B8.trans (B9.mono B8.size)
                  go_wp2
                  go_ret
                  exact ⟨rfl, B10⟩
                · obtain rfl : q3 = true := X1.out rfl rfl
                  go_wp2_with fail
                  refine (H3.out _ (HS.out.to B6 B6.size)).mono ?_
                  rintro e w6 ⟨rfl, B7⟩
                  have B8 := B6.trans (B7.mono B6.size)
                  go_wp2_with fail
                  refine (H4.out _ (HS.out.to B8 B8.size)).mono ?_
                  rintro e w7 ⟨rfl, B9⟩
                  have B10 := B8.trans (B9.mono B8.size)
                  go_wp2_with fail
                  refine (H5.out _ _ _ ((S5.to B7 B7.size).to B9 B9.size)).mono ?_
                  rintro e w8 ⟨rfl, B11⟩
                  have B12 := B10.trans (B11.mono B10.size)
                  go_wp2
                  go_ret
                  exact ⟨rfl, B12⟩
        · obtain rfl : r4 = false := by rw [← HR4.out]; simp [ha]
          have ha' : decide (0 ≤ a) = false := decide_eq_false ha
          clear HR4
          go_enter Try.func6, Try.ntmps6
          go_wp2_with fail
          refine (HW.out _).mono ?_
          rintro e w1 ⟨rfl, B1⟩
          have B1' := HB0.out.trans (B1.mono HB0.out.size)
          have bx : w1.heap[w.heap.size]? = some (.cells #[.int .i64 x, .int .i64 y] 33) := (B1.block _ (by omega)).trans N0
          go_wp2_with fail
          refine (H1.out _ (HS.out.to B1' B1'.size)).mono ?_
          rintro e w2 ⟨rfl, B2⟩
          have B2' := B1'.trans (B2.mono B1'.size)
          go_wp2_with fail
          refine (H2.out _ (HS.out.to B2' B2'.size)).mono ?_
          rintro e w3 ⟨rfl, B3⟩
          have B3' := B2'.trans (B3.mono B2'.size)
          have z3 := B3'.size
          have bx3 : w3.heap[w.heap.size]? = some (.cells #[.int .i64 x, .int .i64 y] 33) := (B3.block _ (by have := B2.size; have := lt_of_block bx; omega)).trans ((B2.block _ (lt_of_block bx)).trans bx)
          have zb := lt_of_block bx3
          have c0 : w3.cell? ⟨w.heap.size, 0, none⟩ = some (.int .i64 x) := by rw [cell_of_row _ _ _ _ _ _ bx3]; rfl
          have c1 : w3.cell? ⟨w.heap.size, 1, none⟩ = some (.int .i64 y) := by rw [cell_of_row _ _ _ _ _ _ bx3]; rfl
          have HC := Lib.hid (fun (W : World) (h : Below w3.heap.size w3 W) => (⟨(h.cell (p := ⟨w.heap.size, 0, none⟩) zb).trans c0, (h.cell (p := ⟨w.heap.size, 1, none⟩) zb).trans c1⟩ : W.cell? ⟨w.heap.size, 0, none⟩ = some (.int .i64 x) ∧ W.cell? ⟨w.heap.size, 1, none⟩ = some (.int .i64 y)))
          have HB3 := Lib.hid B3'
          have HA := Lib.hid (HS.out.to B3' B3'.size)
          have SA := Lib.hid (HA.out.to ((Below.refl w3.heap.size w3).drew) (Nat.le_refl _))
          have SB := Lib.hid (HA.out.to (((Below.refl w3.heap.size w3).drew).alloc (Nat.le_refl _) (.cells #[.int .i64 x, .int .i64 y] 33)) (by simp))
          have NB := Lib.hid (World.ownsRow_nil (w3.drew.alloc (.cells #[.int .i64 x, .int .i64 y] 33)) w3.heap.size 33 2)
          have OB := Lib.hid (es_one w3.drew x y 33)
          clear bx bx3 B3' B2' B1' B1 B2 B3 H1 H2 HW N0 S0 zb z3
          go_wp2_with fail
          go_region_law (first
            | (refine step_app2 (w := w3.drew) (by rfl) (.const (.slice none 0 0)) (.tmp 52) (by rfl) (.slice none 0 0) (by rfl) [] w3.heap.size (World.ownsRow_nil _ _ _ _) A l.length c (by rfl) l rfl _ SA.out (by simp; omega) (Nat.le_refl _) ?_; intro v1 w4 own1 grow1; have B4 := ((Below.refl w3.heap.size w3).drew).grown grow1 (Nat.le_refl _) (by simp [Value.ownBlock]); have z4 := B4.size; obtain ⟨c0, c1⟩ := HC.out _ B4)
            | (refine step_app2 (w := w3.drew.alloc (.cells #[.int .i64 x, .int .i64 y] 33)) (by rfl) (.const (.slice none 0 0)) (.tmp 52) (by rfl) (.slice none 0 0) (by rfl) [] w3.heap.size NB.out A l.length c (by rfl) l rfl _ SB.out (by simp; omega) (by simp) ?_; intro v1 w4 own1 grow1; have B4 := (((Below.refl w3.heap.size w3).drew).alloc (Nat.le_refl _) (.cells #[.int .i64 x, .int .i64 y] 33)).grown grow1 (by simp) (by simp [Value.ownBlock]); have z4 := B4.size; have OY := Lib.hid (OB.out.below ((Below.refl _ _).grown grow1 (Nat.le_refl _) (by simp [Value.ownBlock]))))
            | (refine step_app2 (w := w4.alloc (.cells #[.int .i64 x, .int .i64 y] 33)) (by rfl) (.tmp 53) (.tmp 55) (by rfl) v1 (by rfl) ([] ++ l) w3.heap.size (own1.alloc _) (some ⟨w4.heap.size, 0, none⟩) 1 1 (by rfl) [(x, y)] rfl _ (es_one w4 x y 33) (by simp; omega) (by simp; omega) ?_; intro v5 w5 own5 grow5; have B5 := (B4.alloc z4 (.cells #[.int .i64 x, .int .i64 y] 33)).grown grow5 (by simp; omega) (fun r hr => (own1.lt r hr).1))
            | (refine step_app2 (w := w4) (by rfl) (.tmp 53) (.tmp 55) (by rfl) v1 (by rfl) ([] ++ l) w3.heap.size own1 (some ⟨w3.heap.size, 0, none⟩) 1 1 (by rfl) [(x, y)] rfl _ OY.out (by simp; omega) z4 ?_; intro v5 w5 own5 grow5; have B5 := B4.grown grow5 z4 (fun r hr => (own1.lt r hr).1)))
          all_goals
            obtain ⟨A5, c5, hv5, S5⟩ := own_es own5 rfl
            have hv6 : v5 = .slice A5 (l.length + 1) c5 := by simpa using hv5
            subst hv6
            have B6 := HB3.out.trans (B5.mono HB3.out.size)
            have S5 : Es w5 w5.heap.size A5 (l ++ [(x, y)]) := S5
            clear hv5 own5 grow5 own1 grow1 B4 B5 c0 c1
            cases q1
            · go_wp2_with fail
              refine (H4.out _ (HS.out.to B6 B6.size)).mono ?_
              rintro e w6 ⟨rfl, B7⟩
              have B8 := B6.trans (B7.mono B6.size)
              go_wp2
              go_ret
              exact ⟨rfl, B8⟩
            · obtain rfl : q5 = true := X2.out rfl
              cases q2
              · go_wp2_with fail
                refine (H4.out _ (HS.out.to B6 B6.size)).mono ?_
                rintro e w6 ⟨rfl, B7⟩
                have B8 := B6.trans (B7.mono B6.size)
                go_wp2_with fail
                refine (H5.out _ _ _ (S5.to B7 B7.size)).mono ?_
                rintro e w7 ⟨rfl, B9⟩
                have B10 := B8.trans (B9.mono B8.size)
                go_wp2
                go_ret
                exact ⟨rfl, B10⟩
              · obtain rfl : q3 = true := X1.out rfl rfl
                go_wp2_with fail
                refine (H3.out _ (HS.out.to B6 B6.size)).mono ?_
                rintro e w6 ⟨rfl, B7⟩
                have B8 := B6.trans (B7.mono B6.size)
                go_wp2_with fail
                refine (H4.out _ (HS.out.to B8 B8.size)).mono ?_
                rintro e w7 ⟨rfl, B9⟩
                have B10 := B8.trans (B9.mono B8.size)
                go_wp2_with fail
                refine (H5.out _ _ _ ((S5.to B7 B7.size).to B9 B9.size)).mono ?_
                rintro e w8 ⟨rfl, B11⟩
                have B12 := B10.trans (B11.mono B10.size)
                go_wp2
                go_ret
                exact ⟨rfl, B12⟩

end Go.Proofs.Ytnfjfpiijikniaa.Gp
