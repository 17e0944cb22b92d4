/-
  The walks of few and of awake (the chapter's examples); how many deps a choice has. No conditions.
-/
import Derived.Test.YtgmfjoegfbaebaaRgDe
import Derived.Test.YtgmfjoegfbaebaaRgRd
namespace Go.Proofs.Ytgmfjoegfbaebaa.Rg
open Go.RowKit In
set_option linter.unusedVariables false
attribute [local go_sem ↓ high] Ba.eq23 Ba.guard23 Ba.neq23 Ba.guard23n eqc guardc neqc guardcn

theorem dc_len {o : Int} {n : Nat} {L : List Rp} {k : Nat} (h : ∀ x ∈ L, x.r.xs.length ≤ k) : (dc o n (ct L n)).xs.length ≤ k := by
  unfold dc
  split
  · rename_i x hx
    exact h x (ct_mem (dn_mem hx))
  · split
    · exact Nat.zero_le _
    · split
      · rename_i x hx
        have hm : x ∈ ct L n := by
          unfold tk at hx
          split at hx
          · cases hx
          · rename_i a ha
            split at hx
            · cases hx; exact gt_mem ha
            · split at hx
              · cases hx
              · cases hx; exact gt_mem ha
        exact h x (ct_mem hm)
      · split
        · rename_i x hx
          exact h x (ct_mem (ag_mem hx))
        · split <;> exact Nat.zero_le _
theorem Few.le {l : List Rp} (h : l.length ≤ 40) (h2 : ∀ x ∈ l, x.r.xs.length ≤ 50) : Few l := ⟨by omega, fun x hx => Nat.le_trans (h2 x hx) (by omega)⟩
/-- Are there at most 40 reports, of at most 50 deps each? -/
def fw (l : List Rp) : Bool := decide (l.length ≤ 40) && l.all fun x => decide (x.r.xs.length ≤ 50)
theorem fw_few {l : List Rp} (h : fw l = true) : l.length ≤ 40 ∧ ∀ x ∈ l, x.r.xs.length ≤ 50 := by
  unfold fw at h
  simp at h
  exact ⟨h.1, fun x hx => h.2 x hx⟩
set_option maxHeartbeats 800000 in
theorem few_any (A : Option Addr) (c : Nat) (l : List Rp) (w : World) (hs : Ls w w.heap.size A l) : Calls Try.prog 9 #[.slice A l.length c] w (BoolPost w (fw l)) := by
  by_cases h40 : l.length ≤ 40
  · have HS := Lib.hid hs
    clear hs
    generalize hz : fw l = z at *
    have HY : Hid ((∀ j, (hj : j < l.length) → l[j].r.xs.length ≤ 50) → z = true) := Lib.hid (fun h => by
      rw [← hz]
      unfold fw
      simp only [Bool.and_eq_true, decide_eq_true_eq, List.all_eq_true]
      refine ⟨h40, fun x hx => ?_⟩
      obtain ⟨j, hj, rfl⟩ := List.mem_iff_getElem.1 hx
      exact h j hj)
    have HN : Hid (∀ j, (hj : j < l.length) → 50 < l[j].r.xs.length → z = false) := Lib.hid (fun j hj h => by
      rw [← hz]
      rcases hf : fw l with _ | _
      · rfl
      · have := (fw_few hf).2 l[j] (List.getElem_mem hj)
        omega)
    clear hz
    have h40i : ¬ (40 : Int) < (l.length : Int) := by omega
    go_enter Try.func9, Try.ntmps9
    go_wp2
    go_loopw [3] (fun t wr => ∃ i : Nat, i ≤ l.length ∧ t = .int .i64 (i : Int) ∧ wr = w ∧ ∀ j, (hj : j < l.length) → j < i → l[j].r.xs.length ≤ 50) (fun t _ => 41 - (intOf t).toNat)
    case atStart => exact ⟨0, Nat.zero_le _, rfl, rfl, fun j _ h => absurd h (Nat.not_lt_zero _)⟩
    case round =>
      obtain ⟨i, hi1, rfl, rfl, hno⟩ := hrel
      have HNO := Lib.hid hno
      clear hno
      by_cases hil : i < l.length
      · have hili : (i : Int) < (l.length : Int) := by omega
        have hil0 : (0 : Int) ≤ (i : Int) := by omega
        obtain ⟨b, off, hA, hbB, hq, hx⟩ := HS.out.at_ hil
        obtain ⟨q0, q1, q2, q3, q4, q5, q6, q7, q8, q9, q10, q11, q12, q13⟩ := id hq
        subst hA
        by_cases h50 : l[i].r.xs.length ≤ 50
        · have HN2 : Hid (∀ j, (hj : j < l.length) → j < i + 1 → l[j].r.xs.length ≤ 50) := Lib.hid (fun j hj hji => by
            rcases Nat.lt_or_ge j i with h | h
            · exact HNO.out j hj h
            · obtain rfl : j = i := by omega
              exact h50)
          generalize l[i] = x at *
          have h50i : ¬ (50 : Int) < (x.r.xs.length : Int) := by omega
          go_wp2
          go_roundw
          case rel => exact ⟨i + 1, by omega, by go_num, by first | rfl | trivial, HN2.out⟩
          case measure => simp [intOf]; omega
        · have E9 := Lib.hid (HN.out i hil (by omega))
          generalize l[i] = x at *
          have h50i : (50 : Int) < (x.r.xs.length : Int) := by omega
          go_wp2
          go_ret
          exact ⟨by rw [E9.out]; rfl, Below.refl _ _⟩
      · obtain rfl : i = l.length := by omega
        have E9 := Lib.hid (HY.out (fun j hj => HNO.out j hj hj))
        go_wp2
        go_ret
        exact ⟨by rw [E9.out]; rfl, Below.refl _ _⟩
  · have e : fw l = false := by unfold fw; rw [decide_eq_false h40]; rfl
    rw [e]
    have h40i : (40 : Int) < (l.length : Int) := by omega
    go_enter Try.func9, Try.ntmps9
    go_wp2
    go_ret
    exact ⟨rfl, Below.refl _ _⟩

theorem one_ls (w : World) : Ls (w.alloc (.cells #[.int .i64 1, .int .i64 0, .int .i64 0, .int .i64 0, .int .i64 0, .int .i64 0, .int .i64 0, .int .i64 0, .int .i64 0, .int .i64 0, .int .i64 0, .string ⟨#[]⟩, .int .i64 0, .slice none 0 0, .int .i64 3, .int .i64 0, .int .i64 0, .int .i64 0, .int .i64 0, .int .i64 0, .int .i64 0, .int .i64 0, .int .i64 0, .int .i64 0, .int .i64 0, .string ⟨#[]⟩, .int .i64 0, .slice none 0 0] 44)) (w.heap.size + 1) (some ⟨w.heap.size, 0, none⟩) [(⟨1, zr, none, 0⟩ : Rp), ⟨3, zr, none, 0⟩] := by
  refine .inr ⟨w.heap.size, 0, rfl, Nat.lt_succ_self _, fun j x hx => ?_⟩
  match j, hx with
  | 0, hx =>
    simp only [List.getElem?_cons_zero, Option.some.injEq] at hx
    subst hx
    refine ⟨⟨?_, ?_, ?_, ?_, ?_, ?_, ?_, ?_, ?_, ?_, ?_, ?_, ?_, ?_⟩, .inl rfl⟩ <;> simp [zr]
  | 1, hx =>
    simp only [List.getElem?_cons_zero, List.getElem?_cons_succ, Option.some.injEq] at hx
    subst hx
    refine ⟨⟨?_, ?_, ?_, ?_, ?_, ?_, ?_, ?_, ?_, ?_, ?_, ?_, ?_, ?_⟩, .inl rfl⟩ <;> simp [zr]
  | j + 2, hx => simp at hx
theorem two_ls (w : World) : Ls (w.alloc (.cells #[.int .i64 1, .int .i64 1, .int .i64 0, .int .i64 1, .int .i64 0, .int .i64 1, .int .i64 0, .int .i64 0, .int .i64 0, .int .i64 0, .int .i64 0, .string ⟨#[]⟩, .int .i64 0, .slice none 0 0, .int .i64 3, .int .i64 0, .int .i64 0, .int .i64 0, .int .i64 0, .int .i64 0, .int .i64 0, .int .i64 0, .int .i64 0, .int .i64 0, .int .i64 0, .string ⟨#[]⟩, .int .i64 0, .slice none 0 0] 44)) (w.heap.size + 1) (some ⟨w.heap.size, 0, none⟩) [(⟨1, ⟨1, 0, 1, 0, 1, 0, 0, 0, 0, 0, ⟨#[]⟩, 0, []⟩, none, 0⟩ : Rp), ⟨3, zr, none, 0⟩] := by
  refine .inr ⟨w.heap.size, 0, rfl, Nat.lt_succ_self _, fun j x hx => ?_⟩
  match j, hx with
  | 0, hx =>
    simp only [List.getElem?_cons_zero, Option.some.injEq] at hx
    subst hx
    refine ⟨⟨?_, ?_, ?_, ?_, ?_, ?_, ?_, ?_, ?_, ?_, ?_, ?_, ?_, ?_⟩, .inl rfl⟩ <;> simp
  | 1, hx =>
    simp only [List.getElem?_cons_zero, List.getElem?_cons_succ, Option.some.injEq] at hx
    subst hx
    refine ⟨⟨?_, ?_, ?_, ?_, ?_, ?_, ?_, ?_, ?_, ?_, ?_, ?_, ?_, ?_⟩, .inl rfl⟩ <;> simp [zr]
  | j + 2, hx => simp at hx
theorem ex_one : (dc 1 (am 3) (ct [(⟨1, zr, none, 0⟩ : Rp), ⟨3, zr, none, 0⟩] (am 3))).k = 4 := by rfl
theorem ex_two : (dc 1 (am 3) (ct [(⟨1, ⟨1, 0, 1, 0, 1, 0, 0, 0, 0, 0, ⟨#[]⟩, 0, []⟩, none, 0⟩ : Rp), ⟨3, zr, none, 0⟩] (am 3))).k = 3 := by rfl
theorem ex_qu : qu (am 3) = 2 := by rfl
set_option maxHeartbeats 1600000 in
theorem awake_any (w : World) : Calls Try.prog 8 #[] w (UpPost w) := by
  have F1 : Few [(⟨1, zr, none, 0⟩ : Rp), ⟨3, zr, none, 0⟩] := ⟨by simp, fun x hx => by simp at hx; rcases hx with rfl | rfl <;> simp [zr]⟩
  have F2 : Few [(⟨1, ⟨1, 0, 1, 0, 1, 0, 0, 0, 0, 0, ⟨#[]⟩, 0, []⟩, none, 0⟩ : Rp), ⟨3, zr, none, 0⟩] := ⟨by simp, fun x hx => by simp at hx; rcases hx with rfl | rfl <;> simp [zr]⟩
  have B1 : Below w.heap.size w ((w.alloc (.cells #[.int .i64 1, .int .i64 0, .int .i64 0, .int .i64 0, .int .i64 0, .int .i64 0, .int .i64 0, .int .i64 0, .int .i64 0, .int .i64 0, .int .i64 0, .string ⟨#[]⟩, .int .i64 0, .slice none 0 0, .int .i64 3, .int .i64 0, .int .i64 0, .int .i64 0, .int .i64 0, .int .i64 0, .int .i64 0, .int .i64 0, .int .i64 0, .int .i64 0, .int .i64 0, .string ⟨#[]⟩, .int .i64 0, .slice none 0 0] 44)).alloc (.cells #[.int .i64 1, .int .i64 1, .int .i64 0, .int .i64 1, .int .i64 0, .int .i64 1, .int .i64 0, .int .i64 0, .int .i64 0, .int .i64 0, .int .i64 0, .string ⟨#[]⟩, .int .i64 0, .slice none 0 0, .int .i64 3, .int .i64 0, .int .i64 0, .int .i64 0, .int .i64 0, .int .i64 0, .int .i64 0, .int .i64 0, .int .i64 0, .int .i64 0, .int .i64 0, .string ⟨#[]⟩, .int .i64 0, .slice none 0 0] 44)) := ((Below.refl _ _).alloc (Nat.le_refl _) _).alloc (by simp) _
  have b2 : Below (w.heap.size + 1) (w.alloc (.cells #[.int .i64 1, .int .i64 0, .int .i64 0, .int .i64 0, .int .i64 0, .int .i64 0, .int .i64 0, .int .i64 0, .int .i64 0, .int .i64 0, .int .i64 0, .string ⟨#[]⟩, .int .i64 0, .slice none 0 0, .int .i64 3, .int .i64 0, .int .i64 0, .int .i64 0, .int .i64 0, .int .i64 0, .int .i64 0, .int .i64 0, .int .i64 0, .int .i64 0, .int .i64 0, .string ⟨#[]⟩, .int .i64 0, .slice none 0 0] 44)) ((w.alloc (.cells #[.int .i64 1, .int .i64 0, .int .i64 0, .int .i64 0, .int .i64 0, .int .i64 0, .int .i64 0, .int .i64 0, .int .i64 0, .int .i64 0, .int .i64 0, .string ⟨#[]⟩, .int .i64 0, .slice none 0 0, .int .i64 3, .int .i64 0, .int .i64 0, .int .i64 0, .int .i64 0, .int .i64 0, .int .i64 0, .int .i64 0, .int .i64 0, .int .i64 0, .int .i64 0, .string ⟨#[]⟩, .int .i64 0, .slice none 0 0] 44)).alloc (.cells #[.int .i64 1, .int .i64 1, .int .i64 0, .int .i64 1, .int .i64 0, .int .i64 1, .int .i64 0, .int .i64 0, .int .i64 0, .int .i64 0, .int .i64 0, .string ⟨#[]⟩, .int .i64 0, .slice none 0 0, .int .i64 3, .int .i64 0, .int .i64 0, .int .i64 0, .int .i64 0, .int .i64 0, .int .i64 0, .int .i64 0, .int .i64 0, .int .i64 0, .int .i64 0, .string ⟨#[]⟩, .int .i64 0, .slice none 0 0] 44)) := (Below.refl _ _).alloc (by simp) _
  have S1 : Ls ((w.alloc (.cells #[.int .i64 1, .int .i64 0, .int .i64 0, .int .i64 0, .int .i64 0, .int .i64 0, .int .i64 0, .int .i64 0, .int .i64 0, .int .i64 0, .int .i64 0, .string ⟨#[]⟩, .int .i64 0, .slice none 0 0, .int .i64 3, .int .i64 0, .int .i64 0, .int .i64 0, .int .i64 0, .int .i64 0, .int .i64 0, .int .i64 0, .int .i64 0, .int .i64 0, .int .i64 0, .string ⟨#[]⟩, .int .i64 0, .slice none 0 0] 44)).alloc (.cells #[.int .i64 1, .int .i64 1, .int .i64 0, .int .i64 1, .int .i64 0, .int .i64 1, .int .i64 0, .int .i64 0, .int .i64 0, .int .i64 0, .int .i64 0, .string ⟨#[]⟩, .int .i64 0, .slice none 0 0, .int .i64 3, .int .i64 0, .int .i64 0, .int .i64 0, .int .i64 0, .int .i64 0, .int .i64 0, .int .i64 0, .int .i64 0, .int .i64 0, .int .i64 0, .string ⟨#[]⟩, .int .i64 0, .slice none 0 0] 44)) (w.heap.size + 1) (some ⟨w.heap.size, 0, none⟩) [(⟨1, zr, none, 0⟩ : Rp), ⟨3, zr, none, 0⟩] := (one_ls w).below b2
  have S2 : Ls ((w.alloc (.cells #[.int .i64 1, .int .i64 0, .int .i64 0, .int .i64 0, .int .i64 0, .int .i64 0, .int .i64 0, .int .i64 0, .int .i64 0, .int .i64 0, .int .i64 0, .string ⟨#[]⟩, .int .i64 0, .slice none 0 0, .int .i64 3, .int .i64 0, .int .i64 0, .int .i64 0, .int .i64 0, .int .i64 0, .int .i64 0, .int .i64 0, .int .i64 0, .int .i64 0, .int .i64 0, .string ⟨#[]⟩, .int .i64 0, .slice none 0 0] 44)).alloc (.cells #[.int .i64 1, .int .i64 1, .int .i64 0, .int .i64 1, .int .i64 0, .int .i64 1, .int .i64 0, .int .i64 0, .int .i64 0, .int .i64 0, .int .i64 0, .string ⟨#[]⟩, .int .i64 0, .slice none 0 0, .int .i64 3, .int .i64 0, .int .i64 0, .int .i64 0, .int .i64 0, .int .i64 0, .int .i64 0, .int .i64 0, .int .i64 0, .int .i64 0, .int .i64 0, .string ⟨#[]⟩, .int .i64 0, .slice none 0 0] 44)) (w.heap.size + 1 + 1) (some ⟨w.heap.size + 1, 0, none⟩) [(⟨1, ⟨1, 0, 1, 0, 1, 0, 0, 0, 0, 0, ⟨#[]⟩, 0, []⟩, none, 0⟩ : Rp), ⟨3, zr, none, 0⟩] := by
    have h := two_ls (w.alloc (.cells #[.int .i64 1, .int .i64 0, .int .i64 0, .int .i64 0, .int .i64 0, .int .i64 0, .int .i64 0, .int .i64 0, .int .i64 0, .int .i64 0, .int .i64 0, .string ⟨#[]⟩, .int .i64 0, .slice none 0 0, .int .i64 3, .int .i64 0, .int .i64 0, .int .i64 0, .int .i64 0, .int .i64 0, .int .i64 0, .int .i64 0, .int .i64 0, .int .i64 0, .int .i64 0, .string ⟨#[]⟩, .int .i64 0, .slice none 0 0] 44))
    rwa [show (w.alloc (.cells #[.int .i64 1, .int .i64 0, .int .i64 0, .int .i64 0, .int .i64 0, .int .i64 0, .int .i64 0, .int .i64 0, .int .i64 0, .int .i64 0, .int .i64 0, .string ⟨#[]⟩, .int .i64 0, .slice none 0 0, .int .i64 3, .int .i64 0, .int .i64 0, .int .i64 0, .int .i64 0, .int .i64 0, .int .i64 0, .int .i64 0, .int .i64 0, .int .i64 0, .int .i64 0, .string ⟨#[]⟩, .int .i64 0, .slice none 0 0] 44)).heap.size = w.heap.size + 1 by simp] at h
  have sz : ((w.alloc (.cells #[.int .i64 1, .int .i64 0, .int .i64 0, .int .i64 0, .int .i64 0, .int .i64 0, .int .i64 0, .int .i64 0, .int .i64 0, .int .i64 0, .int .i64 0, .string ⟨#[]⟩, .int .i64 0, .slice none 0 0, .int .i64 3, .int .i64 0, .int .i64 0, .int .i64 0, .int .i64 0, .int .i64 0, .int .i64 0, .int .i64 0, .int .i64 0, .int .i64 0, .int .i64 0, .string ⟨#[]⟩, .int .i64 0, .slice none 0 0] 44)).alloc (.cells #[.int .i64 1, .int .i64 1, .int .i64 0, .int .i64 1, .int .i64 0, .int .i64 1, .int .i64 0, .int .i64 0, .int .i64 0, .int .i64 0, .int .i64 0, .string ⟨#[]⟩, .int .i64 0, .slice none 0 0, .int .i64 3, .int .i64 0, .int .i64 0, .int .i64 0, .int .i64 0, .int .i64 0, .int .i64 0, .int .i64 0, .int .i64 0, .int .i64 0, .int .i64 0, .string ⟨#[]⟩, .int .i64 0, .slice none 0 0] 44)).heap.size = w.heap.size + 1 + 1 := by simp
  have H1 : ∀ V, Ls V V.heap.size (some ⟨w.heap.size, 0, none⟩) [(⟨1, zr, none, 0⟩ : Rp), ⟨3, zr, none, 0⟩] → Hid (Calls Try.prog 11 #[.int .i64 3, .int .i64 1, .slice (some ⟨w.heap.size, 0, none⟩) 2 2] V (ChP V (dc 1 (am 3) (ct [(⟨1, zr, none, 0⟩ : Rp), ⟨3, zr, none, 0⟩] (am 3))))) := fun V g => Decide_any 3 1 _ 2 [(⟨1, zr, none, 0⟩ : Rp), ⟨3, zr, none, 0⟩] F1 V g
  have H2 : ∀ V, Ls V V.heap.size (some ⟨w.heap.size + 1, 0, none⟩) [(⟨1, ⟨1, 0, 1, 0, 1, 0, 0, 0, 0, 0, ⟨#[]⟩, 0, []⟩, none, 0⟩ : Rp), ⟨3, zr, none, 0⟩] → Hid (Calls Try.prog 11 #[.int .i64 3, .int .i64 1, .slice (some ⟨w.heap.size + 1, 0, none⟩) 2 2] V (ChP V (dc 1 (am 3) (ct [(⟨1, ⟨1, 0, 1, 0, 1, 0, 0, 0, 0, 0, ⟨#[]⟩, 0, []⟩, none, 0⟩ : Rp), ⟨3, zr, none, 0⟩] (am 3))))) := fun V g => Decide_any 3 1 _ 2 [(⟨1, ⟨1, 0, 1, 0, 1, 0, 0, 0, 0, 0, ⟨#[]⟩, 0, []⟩, none, 0⟩ : Rp), ⟨3, zr, none, 0⟩] F2 V g
  have H3 : ∀ V, Hid (Calls Try.prog 13 #[.int .i64 3] V (IntP V (qu (am 3)))) := fun V => Quorum_any 3 V
  rw [ex_qu] at H3
  have e1 := Lib.hid ex_one
  have e2 := Lib.hid ex_two
  clear F1 F2 b2
  generalize dc 1 (am 3) (ct [(⟨1, zr, none, 0⟩ : Rp), ⟨3, zr, none, 0⟩] (am 3)) = d1 at *
  generalize dc 1 (am 3) (ct [(⟨1, ⟨1, 0, 1, 0, 1, 0, 0, 0, 0, 0, ⟨#[]⟩, 0, []⟩, none, 0⟩ : Rp), ⟨3, zr, none, 0⟩] (am 3)) = d2 at *
  have HS1 := Lib.hid S1
  have HS2 := Lib.hid S2
  clear S1 S2
  generalize [(⟨1, zr, none, 0⟩ : Rp), ⟨3, zr, none, 0⟩] = l1 at *
  generalize [(⟨1, ⟨1, 0, 1, 0, 1, 0, 0, 0, 0, 0, ⟨#[]⟩, 0, []⟩, none, 0⟩ : Rp), ⟨3, zr, none, 0⟩] = l2 at *
  go_enter Try.func8, Try.ntmps8
  go_wp2_with fail
  generalize (w.alloc (.cells #[.int .i64 1, .int .i64 0, .int .i64 0, .int .i64 0, .int .i64 0, .int .i64 0, .int .i64 0, .int .i64 0, .int .i64 0, .int .i64 0, .int .i64 0, .string ⟨#[]⟩, .int .i64 0, .slice none 0 0, .int .i64 3, .int .i64 0, .int .i64 0, .int .i64 0, .int .i64 0, .int .i64 0, .int .i64 0, .int .i64 0, .int .i64 0, .int .i64 0, .int .i64 0, .string ⟨#[]⟩, .int .i64 0, .slice none 0 0] 44)).alloc (.cells #[.int .i64 1, .int .i64 1, .int .i64 0, .int .i64 1, .int .i64 0, .int .i64 1, .int .i64 0, .int .i64 0, .int .i64 0, .int .i64 0, .int .i64 0, .string ⟨#[]⟩, .int .i64 0, .slice none 0 0, .int .i64 3, .int .i64 0, .int .i64 0, .int .i64 0, .int .i64 0, .int .i64 0, .int .i64 0, .int .i64 0, .int .i64 0, .int .i64 0, .int .i64 0, .string ⟨#[]⟩, .int .i64 0, .slice none 0 0] 44) = w2 at *
  refine (H1 w2 (HS1.out.mono (by omega))).out.mono ?_
  rintro e w3 ⟨A3, c3, rfl, f3, b3⟩
  have B3 := B1.trans (b3.mono B1.size)
  have T3 := HS2.out.to (b3.mono (by omega)) (by have := b3.size; omega)
  clear H1 HS1 HS2 B1 b3 f3
  have b4 : Below w3.heap.size w3 (w3.alloc (.cells (chc d1 A3 c3) 32)) := (Below.refl _ _).alloc (Nat.le_refl _) _
  have X4 := cx_new w3 d1 A3 c3
  have B4 := B3.trans (b4.mono B3.size)
  have H2' := H2 _ (T3.to b4 b4.size)
  have l4 := X4.lt
  clear T3 b4 H2 B3
  go_wp2_with fail
  generalize w3.alloc (.cells (chc d1 A3 c3) 32) = w4 at *
  refine H2'.out.mono ?_
  rintro e w5 ⟨A5, c5, rfl, f5, b5⟩
  have B5 := B4.trans (b5.mono B4.size)
  have X5 := X4.on b5 X4.lt
  have b6 : Below w5.heap.size w5 (w5.alloc (.cells (chc d2 A5 c5) 32)) := (Below.refl _ _).alloc (Nat.le_refl _) _
  have Y6 := cx_new w5 d2 A5 c5
  have X6 := X5.on b6 X5.lt
  have B6 := B5.trans (b6.mono B5.size)
  have l5 := X5.lt
  clear H2' X4 X5 B4 B5 b5 b6 f5
  obtain ⟨p0, p1, p2, p3, p4, p5, p6, p7, p8⟩ := id X6.cc
  obtain ⟨q0, q1, q2, q3, q4, q5, q6, q7, q8⟩ := id Y6.cc
  rw [e1.out] at p0
  rw [e2.out] at q0
  have H3' := H3 (w5.alloc (.cells (chc d2 A5 c5) 32))
  clear H3
  go_wp2_with fail
  generalize w5.alloc (.cells (chc d2 A5 c5) 32) = w6 at *
  refine H3'.out.mono ?_
  rintro e w7 ⟨rfl, b7⟩
  have B7 := B6.trans (b7.mono B6.size)
  clear H3'
  go_wp2
  go_ret
  exact ⟨rfl, B7⟩

end Go.Proofs.Ytgmfjoegfbaebaa.Rg
