/-
  The walks of graph.read and graph.turned. Conditions: at most 1000 things, at most 1000 edges.
-/
import Derived.Test.YtnfjfpiijikniaaGr
namespace Go.Proofs.Ytnfjfpiijikniaa.Gp
open Go.RowKit
set_option linter.unusedVariables false

theorem ge_iff {l : List (Int × Int)} {a b : Nat} : ge l a b = true ↔ ((a : Int), (b : Int)) ∈ l := by simp [ge]
theorem ge_take {l : List (Int × Int)} {k : Nat} (hk : k < l.length) (i j : Nat) : ge (l.take (k + 1)) i j = true ↔ ge (l.take k) i j = true ∨ l[k] = ((i : Int), (j : Int)) := by
  rw [ge_iff, ge_iff, List.take_succ_eq_append_getElem hk, List.mem_append, List.mem_singleton]
  exact or_congr Iff.rfl eq_comm
theorem ge_out {l : List (Int × Int)} {k m : Nat} (hk : k < l.length) (h : ¬ ((0 ≤ (l[k]).1 ∧ (l[k]).1 < (m : Int)) ∧ (0 ≤ (l[k]).2 ∧ (l[k]).2 < (m : Int)))) {i j : Nat} (hi : i < m) (hj : j < m) : ge (l.take k) i j = ge (l.take (k + 1)) i j := by
  rw [Bool.eq_iff_iff, ge_take hk]
  refine ⟨.inl, fun e => e.elim id fun e => ?_⟩
  rw [e] at h
  exact absurd ⟨⟨by simp, by simp; omega⟩, by simp, by simp; omega⟩ h
theorem ge_hit {l : List (Int × Int)} {k a b : Nat} (hk : k < l.length) (h : l[k] = ((a : Int), (b : Int))) (i j : Nat) : (if i = a ∧ j = b then true else ge (l.take k) i j) = ge (l.take (k + 1)) i j := by
  rw [Bool.eq_iff_iff, ge_take hk, h]
  by_cases e : i = a ∧ j = b
  · rw [if_pos e, e.1, e.2]; simp
  · rw [if_neg e]
    refine ⟨.inl, fun c => c.elim id fun c => ?_⟩
    simp only [Prod.mk.injEq] at c
    exact absurd ⟨by omega, by omega⟩ e

set_option maxHeartbeats 2000000 in
theorem read_any (n : Int) (A : Option Addr) (c : Nat) (l : List (Int × Int)) (hl : l.length ≤ 1000) (w : World) (hs : Es w w.heap.size A l) : Calls Try.prog 20 #[.int .i64 n, .slice A l.length c] w (GrPost w (am n) (ge l)) := by
  have hm : min (max n 0) 100 = (am n : Int) := by unfold am; omega
  have HE : Hid (Calls Try.prog 30 #[.int .i64 (am n : Int)] w (GrPost w (am n) (fun _ _ => false))) := empty_any (am n) (by have := am_le n; omega) w
  have hle : am n ≤ 100 := am_le n
  generalize am n = m at *
  go_enter Try.func20, Try.ntmps20
  go_wp2_with fail
  refine HE.out.mono ?_
  rintro e w1 ⟨b, R, rfl, hG, hb, hR, hB⟩
  clear HE
  go_wp2
  go_loopw [14] (fun t wr => ∃ (k : Nat), k ≤ l.length ∧ t = .int .i64 (k : Int) ∧ Gr wr b R m (ge (l.take k)) ∧ Below w.heap.size w wr) (fun t _ => l.length - (intOf t).toNat)
  case atStart => exact ⟨0, by omega, rfl, hG.congr fun i j _ _ => by simp [ge], hB⟩
  case round =>
    obtain ⟨k, hk, rfl, hG, hbel⟩ := hrel
    by_cases hlt : k < l.length
    · have hki : (k : Int) < (l.length : Int) := by omega
      have hsz := hbel.size
      obtain ⟨q, off, rfl, hq, q0, q1⟩ := (hs.below hbel).at_ hlt
      have GO := Lib.hid (fun (h : ¬ ((0 ≤ (l[k]).1 ∧ (l[k]).1 < (m : Int)) ∧ (0 ≤ (l[k]).2 ∧ (l[k]).2 < (m : Int)))) (i j : Nat) (hi : i < m) (hj : j < m) => ge_out hlt h hi hj)
      have GH := Lib.hid (fun (x y : Nat) (h : l[k] = ((x : Int), (y : Int))) (i j : Nat) => ge_hit hlt h i j)
      generalize l[k] = r at *
      obtain ⟨x, y⟩ := r
      simp only at q0 q1 GO GH
      have bN : Below wr.heap.size wr (wr.alloc (.cells #[.int .i64 x, .int .i64 y] 33)) := (Below.refl _ _).alloc (Nat.le_refl _) _
      have G1 := hG.old (.cells #[.int .i64 x, .int .i64 y] 33)
      have B1 := hbel.trans (bN.mono hsz)
      have p0 : (wr.alloc (.cells #[.int .i64 x, .int .i64 y] 33)).cell? ⟨wr.heap.size, 0, none⟩ = some (.int .i64 x) := by simp
      have p1 : (wr.alloc (.cells #[.int .i64 x, .int .i64 y] 33)).cell? ⟨wr.heap.size, 1, none⟩ = some (.int .i64 y) := by simp
      by_cases hx : 0 ≤ x ∧ x < (m : Int)
      · have H1 := has_any (some ⟨b, 0, none⟩) m m x true (by rw [decide_eq_true hx]) (wr.alloc (.cells #[.int .i64 x, .int .i64 y] 33))
        by_cases hy : 0 ≤ y ∧ y < (m : Int)
        · have H2 := has_any (some ⟨b, 0, none⟩) m m y true (by rw [decide_eq_true hy]) (wr.alloc (.cells #[.int .i64 x, .int .i64 y] 33))
          obtain ⟨a, rfl⟩ := Int.eq_ofNat_of_zero_le hx.1
          obtain ⟨d, rfl⟩ := Int.eq_ofNat_of_zero_le hy.1
          have K1 := Lib.hid H1
          have K2 := Lib.hid H2
          have ha : a < m := by omega
          have hd : d < m := by omega
          have hai : (a : Int) < (m : Int) := by omega
          have hdi : (d : Int) < (m : Int) := by omega
          have c1 := G1.hcell ha
          have f1 := Tb.free (G1.row a ha) d
          have c2 := G1.cell ha hd
          have G2 := (G1.set ha d true).congr fun i j _ _ => GH.out a d rfl i j
          have B2 := B1.setCell (p := ⟨R a, d, none⟩) (hR a ha) (.bool true)
          clear GO GH H1 H2 hx hy hG hbel B1 G1 bN
          go_wp2_with fail
          refine K1.out.mono ?_
          rintro e w2 ⟨rfl, rfl⟩
          clear K1
          go_wp2_with fail
          refine K2.out.mono ?_
          rintro e w2 ⟨rfl, rfl⟩
          clear K2
          go_wp2
          go_region
          have G3 := G2.drew
          have B3 := B2.drew
          generalize ((wr.alloc (Obj.cells #[.int .i64 (a : Int), .int .i64 (d : Int)] 33)).setCell ⟨R a, d, none⟩ (.bool true)).drew = W5 at *
          clear c1 f1 c2 p0 p1 q0 q1
          go_wp2
          go_roundw
          case rel => exact ⟨k + 1, by omega, by go_num, G3, B3⟩
          case measure => simp [intOf]; omega
        · have K1 := Lib.hid H1
          have K2 := Lib.hid (has_any (some ⟨b, 0, none⟩) m m y false (by rw [decide_eq_false hy]) (wr.alloc (.cells #[.int .i64 x, .int .i64 y] 33)))
          have G2 := G1.congr fun i j hi hj => GO.out (fun h => hy h.2) i j hi hj
          clear GO GH H1 hx hy hG hbel G1 bN
          go_wp2_with fail
          refine K1.out.mono ?_
          rintro e w2 ⟨rfl, rfl⟩
          clear K1
          go_wp2_with fail
          refine K2.out.mono ?_
          rintro e w2 ⟨rfl, rfl⟩
          clear K2
          go_wp2
          go_roundw
          case rel => exact ⟨k + 1, by omega, by go_num, G2, B1⟩
          case measure => simp [intOf]; omega
      · have K1 := Lib.hid (has_any (some ⟨b, 0, none⟩) m m x false (by rw [decide_eq_false hx]) (wr.alloc (.cells #[.int .i64 x, .int .i64 y] 33)))
        have G2 := G1.congr fun i j hi hj => GO.out (fun h => hx h.1) i j hi hj
        clear GO GH hx hG hbel G1 bN
        go_wp2_with fail
        refine K1.out.mono ?_
        rintro e w2 ⟨rfl, rfl⟩
        clear K1
        go_wp2
        go_roundw
        case rel => exact ⟨k + 1, by omega, by go_num, G2, B1⟩
        case measure => simp [intOf]; omega
    · obtain rfl : k = l.length := by omega
      rw [List.take_length] at hG
      go_wp2
      go_ret
      exact ⟨b, R, rfl, hG, hb, hR, hbel⟩

set_option maxHeartbeats 2000000 in
theorem turned_any (b : Nat) (R : Nat → Nat) (n : Nat) (G : Nat → Nat → Bool) (hn : n ≤ 1000) (w : World) (hG : Gr w b R n G) : Calls Try.prog 34 #[.slice (some ⟨b, 0, none⟩) n n] w (GrPost w n (fun i j => G j i)) := by
  have HE : Hid (Calls Try.prog 30 #[.int .i64 (n : Int)] w (GrPost w n (fun _ _ => false))) := empty_any n hn w
  go_enter Try.func34, Try.ntmps34
  go_wp2_with fail
  refine HE.out.mono ?_
  rintro e w1 ⟨b1, R1, rfl, hT, hb, hR, hB⟩
  clear HE
  go_wp2
  go_loopw [12] (fun t wr => ∃ (k : Nat), k ≤ n ∧ t = .int .i64 (k : Int) ∧ Gr wr b1 R1 n (fun i j => if j < k then G j i else false) ∧ Below w.heap.size w wr) (fun t _ => n - (intOf t).toNat)
  case atStart => exact ⟨0, by omega, rfl, hT, hB⟩
  case round =>
    obtain ⟨k, hk, rfl, hT, hbel⟩ := hrel
    by_cases hlt : k < n
    · have hki : (k : Int) < (n : Int) := by omega
      have hk0 : (0 : Int) ≤ (k : Int) := by omega
      have hsz := hbel.size
      have c1 := (hG.up hbel).hcell hlt
      go_wp2
      go_loopw [20] (fun t wr => ∃ (j : Nat), j ≤ n ∧ t = .int .i64 (j : Int) ∧ Gr wr b1 R1 n (fun x y => if y < k then G y x else if y = k ∧ x < j then G k x else false) ∧ Below w.heap.size w wr) (fun t _ => n - (intOf t).toNat)
      case atStart => exact ⟨0, by omega, rfl, hT.congr fun i j _ _ => by simp, hbel⟩
      case round =>
        obtain ⟨j, hj, rfl, hT, hbel⟩ := hrel
        by_cases hjt : j < n
        · have hji : (j : Int) < (n : Int) := by omega
          have hj0 : (0 : Int) ≤ (j : Int) := by omega
          have d1 := (hG.up hbel).cell hlt hjt
          have d2 := hT.hcell hjt
          have d3 := Tb.free (hT.row j hjt) k
          have d4 := hT.cell hjt hlt
          have HV : Hid (∀ x y, x < n → y < n → (if x = j ∧ y = k then G k j else if y < k then G y x else if y = k ∧ x < j then G k x else false) = if y < k then G y x else if y = k ∧ x < j + 1 then G k x else false) := fun x y hx hy => by
            by_cases e1 : x = j ∧ y = k
            · rw [if_pos e1, if_neg (by omega), if_pos (by omega), e1.1]
            · rw [if_neg e1]
              by_cases e2 : y < k
              · rw [if_pos e2, if_pos e2]
              · rw [if_neg e2, if_neg e2]
                by_cases e3 : y = k ∧ x < j
                · rw [if_pos e3, if_pos (by omega)]
                · rw [if_neg e3, if_neg (by omega)]
          have T2 := (hT.set hjt k (G k j)).congr fun x y hx hy => HV.out x y hx hy
          have B2 := hbel.setCell (p := ⟨R1 j, k, none⟩) (hR j hjt) (.bool (G k j))
          generalize G k j = v at *
          clear HV hT hbel
          go_wp2
          go_roundw
          case rel => exact ⟨j + 1, by omega, by go_num, T2, B2⟩
          case measure => simp [intOf]; omega
        · obtain rfl : j = n := by omega
          have T2 := hT.congr (H := fun x y => if y < k + 1 then G y x else false) fun x y hx hy => by
            by_cases e2 : y < k
            · rw [if_pos e2, if_pos (by omega)]
            · rw [if_neg e2]
              by_cases e3 : y = k
              · rw [if_pos ⟨e3, hx⟩, if_pos (by omega), e3]
              · rw [if_neg (fun c => e3 c.1), if_neg (by omega)]
          go_wp2
          go_roundw
          case rel => exact ⟨k + 1, by omega, by go_num, T2, hbel⟩
          case measure => simp [intOf]; omega
    · obtain rfl : k = n := by omega
      have T2 := hT.congr (H := fun x y => G y x) fun x y hx hy => by rw [if_pos hy]
      go_wp2
      go_ret
      exact ⟨b1, R1, rfl, T2, hb, hR, hbel⟩

end Go.Proofs.Ytnfjfpiijikniaa.Gp
