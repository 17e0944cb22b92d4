/-
  The walks of graph.has, graph.empty, graph.read and graph.turned. Conditions: at most 100 things, at most 1000 edges.
-/
import Derived.Test.YtnfjfpiijikniaaMem
namespace Go.Proofs.Ytnfjfpiijikniaa.Gp
open Go.RowKit
set_option linter.unusedVariables false

theorem has_any (A : Option Addr) (n c : Nat) (x : Int) (r : Bool) (hr : r = decide (0 ≤ x ∧ x < (n : Int))) (w : World) : Calls Try.prog 25 #[.slice A n c, .int .i64 x] w (fun e w' => e = .returned (.bool r) ∧ w' = w) := by
  by_cases h0 : 0 ≤ x
  · by_cases h1 : x < (n : Int)
    · obtain rfl : r = true := by rw [hr]; simp [h0, h1]
      clear hr
      go_enter Try.func25, Try.ntmps25
      go_wp2
      go_ret
      exact ⟨rfl, rfl⟩
    · obtain rfl : r = false := by rw [hr]; simp [h1]
      clear hr
      go_enter Try.func25, Try.ntmps25
      go_wp2
      go_ret
      exact ⟨rfl, rfl⟩
  · obtain rfl : r = false := by rw [hr]; simp [h0]
    clear hr
    go_enter Try.func25, Try.ntmps25
    go_wp2
    go_ret
    exact ⟨rfl, rfl⟩

set_option maxHeartbeats 1000000 in
theorem empty_any (n : Nat) (hn : n ≤ 1000) (w : World) : Calls Try.prog 30 #[.int .i64 (n : Int)] w (GrPost w n (fun _ _ => false)) := by
  obtain ⟨i0, hi, hz0, hz1, hz2⟩ := info_parts info38
  obtain ⟨j0, hj, hy0, hy1, hy2⟩ := info_parts info4
  go_enter Try.func30, Try.ntmps30
  go_wp2_with (at_make; refine wpList_make_full _ rfl _ _ 40 rfl w.heap.size 38 i0 (.slice none 0 0) 1 (by kernel_rfl) hi hz0 hz1 _ _ _ _ n rfl rfl rfl rfl (by rw [hz2]; omega) (by unfold maxLen; omega) (Nat.le_refl _) ?_; intro w2 hown2 hgrow2)
  have H2 : Tb w2 w.heap.size 38 (fun _ => .slice none 0 0) n := tb_made hown2 rfl
  have B2 : Below w.heap.size w w2 := (Below.refl _ w).grown hgrow2 (Nat.le_refl _) (by simp)
  have hg : w.heap.size ≤ w.heap.size := Nat.le_refl _
  clear hown2 hgrow2 hi hz0 hz1 hz2
  revert hg H2
  generalize hgg : w.heap.size = g
  intro H2 hg
  have HG := Lib.hid hgg
  clear hgg
  rw [HG.out] at B2
  go_loopw [9] (fun t wr => ∃ (k : Nat) (R : Nat → Nat), k ≤ n ∧ t = .int .i64 (k : Int) ∧ Tb wr g 38 (fun i => if i < k then .slice (some ⟨R i, 0, none⟩) n n else .slice none 0 0) n ∧ (∀ i, i < k → Br wr (R i) (fun _ => false) n) ∧ (∀ i j, i < k → j < k → R i = R j → i = j) ∧ (∀ i, i < k → g ≤ R i) ∧ Below g w wr) (fun t _ => n - (intOf t).toNat)
  case atStart => exact ⟨0, fun _ => 0, by omega, rfl, by simpa using H2, fun i h => by omega, fun i j h => by omega, fun i h => by omega, B2⟩
  case round =>
    obtain ⟨k, R, hk, rfl, hH, hR, hone, hlow, hbel⟩ := hrel
    clear H2 B2
    by_cases hlt : k < n
    · have hki : (k : Int) < (n : Int) := by omega
      have hk0 : (0 : Int) ≤ (k : Int) := by omega
      have hsz := hbel.size
      rw [HG.out] at hsz
      have hRl : ∀ i, i < k → R i < wr.heap.size := fun i h => Tb.lt (hR i h)
      have hgl := hH.lt
      have HH := Lib.hid hH
      have HR := Lib.hid hR
      have HO := Lib.hid hone
      have HL := Lib.hid hlow
      have HB := Lib.hid hbel
      have HRl := Lib.hid hRl
      clear hH hR hone hlow hbel hRl
      go_wp2_with (at_make; refine wpList_make_full _ rfl _ _ 38 rfl wr.heap.size 4 j0 (.bool false) 1 (by kernel_rfl) hj hy0 hy1 _ _ _ _ n rfl rfl rfl rfl (by rw [hy2]; omega) (by unfold maxLen; omega) (Nat.le_refl _) ?_; intro w3 hown3 hgrow3; have hc3 := ((HH.out.same (hgrow3.block g hgl (by simp))).cell hlt); have hf3 := (HH.out.same (hgrow3.block g hgl (by simp))).free k)
      have N3 : Br w3 wr.heap.size (fun _ => false) n := tb_made hown3 rfl
      have H3 := HH.out.same (hgrow3.block g hgl (by simp))
      have R3 : ∀ i, i < k → Br w3 (R i) (fun _ => false) n := fun i h => Tb.same (HR.out i h) (hgrow3.block (R i) (HRl.out i h) (by simp))
      have B3 : Below g w w3 := HB.out.grown hgrow3 hsz (by simp)
      have hne : g ≠ wr.heap.size := by omega
      clear hown3 hgrow3 hc3 hf3
      go_roundw
      case rel =>
        obtain ⟨R', r1, r2⟩ : ∃ R' : Nat → Nat, R' k = wr.heap.size ∧ ∀ i, i ≠ k → R' i = R i := ⟨fun i => if i = k then wr.heap.size else R i, if_pos rfl, fun i h => if_neg h⟩
        refine ⟨k + 1, R', by omega, by go_num, ?_, fun i hi2 => ?_, fun i j hi2 hj2 e => ?_, fun i hi2 => ?_, B3.setCell (by show g ≤ g; omega) _⟩
        · refine (H3.set k _).congr fun i hi2 => ?_
          by_cases e : i = k
          · subst e; simp [r1]
          · rw [if_neg e, r2 i e]
            by_cases h2 : i < k
            · rw [if_pos h2, if_pos (by omega)]
            · rw [if_neg h2, if_neg (by omega)]
        · by_cases e : i = k
          · rw [e, r1]; exact Tb.other N3 (fun e2 => hne e2.symm) _
          · rw [r2 i e]
            refine Tb.other (R3 i (by omega)) ?_ _
            exact fun e2 => (H3.apart (R3 i (by omega)) (by decide)) e2.symm
        · by_cases e1 : i = k
          · by_cases e2 : j = k
            · omega
            · rw [e1, r1, r2 j e2] at e
              have := HRl.out j (by omega)
              omega
          · by_cases e2 : j = k
            · rw [e2, r1, r2 i e1] at e
              have := HRl.out i (by omega)
              omega
            · rw [r2 i e1, r2 j e2] at e
              exact HO.out i j (by omega) (by omega) e
        · by_cases e : i = k
          · rw [e, r1]; omega
          · rw [r2 i e]; exact HL.out i (by omega)
      case measure => simp [intOf]; omega
    · obtain rfl : k = n := by omega
      go_wp2
      go_ret
      refine ⟨g, R, rfl, ⟨hH.congr fun i h => by rw [if_pos h], hR, hone⟩, by rw [HG.out]; exact hg, fun i h => by rw [HG.out]; exact hlow i h, by rw [HG.out]; exact hbel⟩

end Go.Proofs.Ytnfjfpiijikniaa.Gp
