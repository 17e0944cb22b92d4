/-
  The walk of the law GraphTwice. No conditions.
-/
import Derived.Test.YtnfjfpiijikniaaLpa
import Derived.Test.YtnfjfpiijikniaaAp
namespace Go.Proofs.Ytnfjfpiijikniaa.Gp
open Go.RowKit
set_option linter.unusedVariables false

/-- The edges told twice, in another order, with some of no things. -/
def tw (l : List (Int × Int)) (x : Int) (k : Nat) : List (Int × Int) := [(x, 0), (0, x), (-1, 0)] ++ (List.range k).flatMap fun i => [l.getD (l.length - 1 - i) (0, 0), l.getD i (0, 0)]
theorem tw_succ (l : List (Int × Int)) (x : Int) (k : Nat) : tw l x (k + 1) = tw l x k ++ [l.getD (l.length - 1 - k) (0, 0), l.getD k (0, 0)] := by
  unfold tw
  rw [List.range_succ, List.flatMap_append, List.append_assoc]
  simp
theorem tw_len (l : List (Int × Int)) (x : Int) (k : Nat) : (tw l x k).length = 3 + 2 * k := by
  induction k with
  | zero => simp [tw]
  | succ k ih => rw [tw_succ, List.length_append, ih]; simp; omega
theorem ed_tw (l : List (Int × Int)) (x n : Int) (hn : 0 ≤ n) (hx : n ≤ x) : Ed (am n) (tw l x l.length) = Ed (am n) l := by
  have hm : (am n : Int) ≤ n := by unfold am; omega
  funext a b
  refine propext ⟨fun h => ⟨h.1, h.2.1, ?_⟩, fun h => ⟨h.1, h.2.1, ?_⟩⟩
  · have ha := h.1
    have hb := h.2.1
    have := h.2.2
    unfold tw at this
    rcases List.mem_append.1 this with h | h
    · simp at h
      omega
    · obtain ⟨i, hi, h⟩ := List.mem_flatMap.1 h
      have hi := List.mem_range.1 hi
      simp only [List.mem_cons, List.not_mem_nil, or_false] at h
      rcases h with h | h
      · rw [h, List.getD_eq_getElem?_getD, List.getElem?_eq_getElem (by omega)]
        exact List.getElem_mem _
      · rw [h, List.getD_eq_getElem?_getD, List.getElem?_eq_getElem hi]
        exact List.getElem_mem _
  · obtain ⟨i, hi⟩ := List.getElem?_of_mem h.2.2
    have hl := (List.getElem?_eq_some_iff.1 hi).1
    unfold tw
    refine List.mem_append_right _ (List.mem_flatMap.2 ⟨i, List.mem_range.2 hl, ?_⟩)
    simp [hi]
theorem es_two (w : World) (x y z u : Int) (t : TypeId) : Es (w.alloc (.cells #[.int .i64 x, .int .i64 y, .int .i64 z, .int .i64 u] t)) (w.alloc (.cells #[.int .i64 x, .int .i64 y, .int .i64 z, .int .i64 u] t)).heap.size (some ⟨w.heap.size, 0, none⟩) [(x, y), (z, u)] := es_alloc (fun i r hr => by
  rcases i with _ | _ | i <;> simp at hr ⊢ <;> subst hr <;> simp) t
theorem own_three (w : World) (x : Int) : (w.alloc (.cells #[.int .i64 x, .int .i64 0, .int .i64 0, .int .i64 x, .int .i64 (-1), .int .i64 0] 33)).ownsRow w.heap.size 33 2 (.slice (some ⟨w.heap.size, 0, none⟩) 3 3) (tw [] x 0).length (eg2 (tw [] x 0)) :=
  ⟨rfl, .inr ⟨w.heap.size, 3, _, rfl, Nat.le_refl _, heap_alloc_new w _, Nat.le_refl _, by unfold maxLen; omega, rfl, rfl⟩⟩

set_option maxRecDepth 100000 in
set_option maxHeartbeats 2000000 in
theorem ltwice_core (n : Int) (A : Option Addr) (c : Nat) (l : List (Int × Int)) (x : Int) (h0 : 0 ≤ n) (h1 : n ≤ 30) (h2 : l.length ≤ 100) (h3 : n ≤ x) (w : World) (hs : Es w w.heap.size A l) : Calls Try.prog 7 #[.int .i64 n, .slice A l.length c, .int .i64 x] w (UpPost w) := by
  have HW := Lib.hid (awake_any w)
  have HS := Lib.hid hs
  have HC := Lib.hid (fun W h => Components_any n A c l (by omega) W h)
  have htl := tw_len l x l.length
  have HC2 := Lib.hid (fun A' c' W h => Components_any n A' c' (tw l x l.length) (by omega) W h)
  have HE := Lib.hid (ed_tw l x n h0 h3)
  have hle := am_le n
  have d0 : decide (n < 0) = false := decide_eq_false (by omega)
  have d1 : decide (30 < n) = false := decide_eq_false (by omega)
  have d2 : decide ((100 : Int) < (l.length : Int)) = false := decide_eq_false (by omega)
  have d3 : decide (x < n) = false := decide_eq_false (by omega)
  clear hs htl h0 h1 h3
  go_enter Try.func7, Try.ntmps7
  go_wp2_with fail
  refine HW.out.mono ?_
  rintro e w1 ⟨rfl, B1⟩
  have HB1 := Lib.hid B1
  have HO := Lib.hid (own_three w1 x)
  have HB := Lib.hid ((Below.refl w1.heap.size w1).alloc (Nat.le_refl _) (.cells #[.int .i64 x, .int .i64 0, .int .i64 0, .int .i64 x, .int .i64 (-1), .int .i64 0] 33))
  clear B1
  go_wp2
  go_loopg [8, 9] l.length (fun q v t W => ∃ k : Nat, k + q = l.length ∧ t = .int .i64 (k : Int) ∧ Hid (W.ownsRow w1.heap.size 33 2 v (tw l x k).length (eg2 (tw l x k))) ∧ Hid (Below w1.heap.size w1 W))
  case atStart => exact ⟨0, by omega, rfl, HO.out, HB.out⟩
  case round =>
    obtain ⟨k, hk, rfl, hown, hB⟩ := hrel
    by_cases hlt : k < l.length
    · have hki : (k : Int) < (l.length : Int) := by omega
      have hk0 : (0 : Int) ≤ (k : Int) := by omega
      obtain ⟨j, hj⟩ : ∃ j, j = l.length - 1 - k := ⟨_, rfl⟩
      have hjl : j < l.length := by omega
      have hji : (j : Int) < (l.length : Int) := by omega
      have hj0 : (0 : Int) ≤ (j : Int) := by omega
      have hw1 : IntKind.i64.wrap ((l.length : Int) - 1) = (l.length : Int) - 1 := IntWalk.i64_in _ (by omega)
      have hw2 : IntKind.i64.wrap ((l.length : Int) - 1 - (k : Int)) = (j : Int) := by rw [IntWalk.i64_in _ (by omega)]; omega
      have HSr := Lib.hid (HS.out.below (HB1.out.trans (hB.out.mono HB1.out.size)))
      obtain ⟨b, off, rfl, hb, q0, q1⟩ := HSr.out.at_ hlt
      obtain ⟨b', off', hA, hb', r0, r1⟩ := HSr.out.at_ hjl
      simp only [Option.some.injEq, Addr.mk.injEq, and_true] at hA
      obtain ⟨rfl, rfl⟩ := hA
      have HT : Hid (tw l x (k + 1) = tw l x k ++ [l[j], l[k]]) := by
        show _ = _
        rw [tw_succ, ← hj, List.getD_eq_getElem?_getD, List.getD_eq_getElem?_getD, List.getElem?_eq_getElem hlt, List.getElem?_eq_getElem hjl]
        rfl
      have htl := tw_len l x k
      have htl2 : Hid ((tw l x k).length + 2 ≤ 1000) := by show _ ≤ _; omega
      generalize l[k] = y1 at *
      generalize l[j] = y2 at *
      obtain ⟨xa, xb⟩ := y1
      obtain ⟨ya, yb⟩ := y2
      simp only at q0 q1 r0 r1
      have hz := hB.out.size
      have OWN := Lib.hid ((show wr.drew.ownsRow w1.heap.size 33 2 u8 (tw l x k).length (eg2 (tw l x k)) from hown.out).alloc (.cells #[.int .i64 ya, .int .i64 yb, .int .i64 xa, .int .i64 xb] 33))
      have ES := Lib.hid (es_two wr.drew ya yb xa xb 33)
      clear hj htl
      go_wp2_with fail
      go_region_law (refine step_app2 (w := wr.drew.alloc (.cells #[.int .i64 ya, .int .i64 yb, .int .i64 xa, .int .i64 xb] 33)) (by rfl) (.tmp 45) (.tmp 58) (by rfl) u8 (by rfl) (tw l x k) w1.heap.size OWN.out (some ⟨wr.heap.size, 0, none⟩) 2 2 (by rfl) [(ya, yb), (xa, xb)] rfl _ ES.out htl2.out (by simp; omega) ?_; intro v5 w5 own5 grow5; have B5 := (hB.out.drew.alloc hz (.cells #[.int .i64 ya, .int .i64 yb, .int .i64 xa, .int .i64 xb] 33)).grown grow5 (by simp; omega) (fun r hr => (OWN.out.lt r hr).1))
      all_goals
        have HO5 := Lib.hid own5
        have HB5 := Lib.hid B5
        clear own5 grow5 B5
        go_wp2
        go_roundg (l.length - (k + 1))
        case measure => omega
        case rel => exact ⟨k + 1, by omega, by go_num, by rw [HT.out]; exact HO5.out, HB5.out⟩
    · obtain rfl : l.length = k := by omega
      obtain ⟨A2, c2, rfl, S2⟩ := own_es hown.out rfl
      have HS2 := Lib.hid S2
      have HBz := Lib.hid (HB1.out.trans (hB.out.mono HB1.out.size))
      have HC1 := Lib.hid (HC.out wr (HS.out.to HBz.out HBz.out.size))
      clear S2
      generalize tw l x l.length = tl at *
      go_wp2_with fail
      refine HC1.out.mono ?_
      rintro e w3 ⟨out, hO, A3, c3, rfl, s3, B3⟩
      have B3' := HBz.out.trans (B3.mono HBz.out.size)
      have HC3 := Lib.hid (HC2.out A2 c2 w3 (HS2.out.to B3 B3.size))
      go_wp2_with fail
      refine HC3.out.mono ?_
      rintro e w4 ⟨out2, hO2, A4, c4, rfl, s4, B4⟩
      rw [HE.out] at hO2
      obtain rfl := hO.one hO2
      have B4' := B3'.trans (B4.mono B3'.size)
      have HQ := Lib.hid (same_any hO (by omega) A3 A4 c3 c4 w4 (s3.to B4 B4.size) s4)
      clear hO hO2
      go_wp2_with fail
      refine HQ.out.mono ?_
      rintro e w5 ⟨rfl, B5⟩
      have B5' := B4'.trans (B5.mono B4'.size)
      go_wp2
      go_ret
      exact ⟨rfl, B5'⟩

theorem ltwice_any (n : Int) (A : Option Addr) (c : Nat) (l : List (Int × Int)) (x : Int) (w : World) (hs : Es w w.heap.size A l) : Calls Try.prog 7 #[.int .i64 n, .slice A l.length c, .int .i64 x] w (UpPost w) := by
  have HW := Lib.hid (awake_any w)
  by_cases h0 : n < 0
  · go_enter Try.func7, Try.ntmps7
    go_wp2_with fail
    refine HW.out.mono ?_
    rintro e w1 ⟨rfl, B1⟩
    go_wp2
    go_ret
    exact ⟨rfl, B1⟩
  · have d0 := decide_eq_false h0
    by_cases h1 : 30 < n
    · go_enter Try.func7, Try.ntmps7
      go_wp2_with fail
      refine HW.out.mono ?_
      rintro e w1 ⟨rfl, B1⟩
      go_wp2
      go_ret
      exact ⟨rfl, B1⟩
    · have d1 := decide_eq_false h1
      by_cases h2 : (100 : Int) < (l.length : Int)
      · go_enter Try.func7, Try.ntmps7
        go_wp2_with fail
        refine HW.out.mono ?_
        rintro e w1 ⟨rfl, B1⟩
        go_wp2
        go_ret
        exact ⟨rfl, B1⟩
      · have d2 := decide_eq_false h2
        by_cases h3 : x < n
        · go_enter Try.func7, Try.ntmps7
          go_wp2_with fail
          refine HW.out.mono ?_
          rintro e w1 ⟨rfl, B1⟩
          go_wp2
          go_ret
          exact ⟨rfl, B1⟩
        · exact ltwice_core n A c l x (by omega) (by omega) (by omega) (by omega) w hs

end Go.Proofs.Ytnfjfpiijikniaa.Gp
