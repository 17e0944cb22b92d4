/-
  The walk of the statements' own first step ('awake'). No conditions.
-/
import Derived.Test.YtnfjfpiijikniaaCm
namespace Go.Proofs.Ytnfjfpiijikniaa.Gp
open Go.RowKit Go.Shelf
set_option linter.unusedVariables false

theorem am3 : am 3 = 3 := by decide
section
variable {E : Nat → Nat → Prop}
theorem step_as {m k : Nat} {T U : Nat → Prop} {r : List (List Nat)} {c : List Nat} (hc : cmp E m k = c) (hl : Lf E m T k) (h : Out E m U r) (hU : ∀ x, x < m → (U x ↔ (T x ∨ x ∈ c))) : Out E m T (c :: r) := by
  subst hc
  exact .step hl (h.congr hU)
/-- 0 and 1 wait for each other, 2 waits for 1. -/
theorem out_one (h01 : Rt E 0 1) (h10 : Rt E 1 0) (h21 : Rt E 2 1) (n02 : ¬ Rt E 0 2) (n12 : ¬ Rt E 1 2) : Out E 3 (fun _ => False) [[0, 1], [2]] := by
  have h20 := h21.trans h10
  have c0 : cmp E 3 0 = [0, 1] := by simp [cmp, List.range_succ, rb, *, Rt.refl]
  have c2 : cmp E 3 2 = [2] := by simp [cmp, List.range_succ, rb, *, Rt.refl]
  refine step_as c0 ⟨by omega, fun f => f, fun j hj r => .inl ?_, fun j hj => by omega⟩ (step_as (U := fun _ => True) c2 (T := fun x => x = 0 ∨ x = 1) ⟨by omega, by omega, fun j hj r => ?_, fun j hj hn => by omega⟩ (.done fun _ _ => trivial) fun x hx => ?_) fun x hx => by simp
  · have : j = 0 ∨ j = 1 ∨ j = 2 := by omega
    rcases this with rfl | rfl | rfl
    · exact .refl
    · exact h10
    · exact absurd r n02
  · have : j = 0 ∨ j = 1 ∨ j = 2 := by omega
    rcases this with rfl | rfl | rfl
    · exact .inr (.inl rfl)
    · exact .inr (.inr rfl)
    · exact .inl .refl
  · simp
    omega
/-- 0 waits for 2. -/
theorem out_two (h02 : Rt E 0 2) (h1 : ∀ x, Rt E 1 x → x = 1) (h2 : ∀ x, Rt E 2 x → x = 2) (h0 : ¬ Rt E 0 1) : Out E 3 (fun _ => False) [[1], [2], [0]] := by
  have n10 : ¬ Rt E 1 0 := fun h => by have := h1 0 h; omega
  have n12 : ¬ Rt E 1 2 := fun h => by have := h1 2 h; omega
  have n20 : ¬ Rt E 2 0 := fun h => by have := h2 0 h; omega
  have n21 : ¬ Rt E 2 1 := fun h => by have := h2 1 h; omega
  have c0 : cmp E 3 0 = [0] := by simp [cmp, List.range_succ, rb, *, Rt.refl]
  have c1 : cmp E 3 1 = [1] := by simp [cmp, List.range_succ, rb, *, Rt.refl]
  have c2 : cmp E 3 2 = [2] := by simp [cmp, List.range_succ, rb, *, Rt.refl]
  refine step_as c1 ⟨by omega, fun f => f, fun j hj r => .inl ?_, fun j hj hn hf => ?_⟩
    (step_as c2 (T := fun x => x = 1) ⟨by omega, by omega, fun j hj r => .inl ?_, fun j hj hn hf => ?_⟩
    (step_as (U := fun _ => True) c0 (T := fun x => x = 1 ∨ x = 2) ⟨by omega, by omega, fun j hj r => ?_, fun j hj => by omega⟩ (.done fun _ _ => trivial) fun x hx => by simp; omega) fun x hx => by simp) fun x hx => by simp
  · rw [h1 j r]; exact .refl
  · obtain rfl : j = 0 := by omega
    rcases hf 2 (by omega) h02 with k | k
    · exact n20 k
    · exact k
  · rw [h2 j r]; exact .refl
  · obtain rfl : j = 0 := by omega
    rcases hf 2 (by omega) h02 with k | k
    · exact n20 k
    · omega
  · have : j = 0 ∨ j = 1 ∨ j = 2 := by omega
    rcases this with rfl | rfl | rfl
    · exact .inl .refl
    · exact .inr (.inl rfl)
    · exact .inr (.inr rfl)
end
theorem out_aw1 : Out (Ed 3 [(0, 1), (1, 0), (2, 1)]) 3 (fun _ => False) [[0, 1], [2]] := by
  have hs : ∀ x y, x ≤ 1 → Ed 3 [(0, 1), (1, 0), (2, 1)] x y → y ≤ 1 := fun x y hx e => by
    have := e.2.2
    simp at this
    omega
  refine out_one (.one ⟨by omega, by omega, by simp⟩) (.one ⟨by omega, by omega, by simp⟩) (.one ⟨by omega, by omega, by simp⟩) (fun h => ?_) (fun h => ?_)
  · have := h.stays (· ≤ 1) (by omega) hs; omega
  · have := h.stays (· ≤ 1) (by omega) hs; omega
theorem out_aw2 : Out (Ed 3 [(0, 2)]) 3 (fun _ => False) [[1], [2], [0]] := by
  have hs : ∀ k, k ≠ 0 → ∀ x y, x = k → Ed 3 [(0, 2)] x y → y = k := fun k hk x y hx e => by
    have := e.2.2
    simp at this
    omega
  have hs0 : ∀ x y, x ≠ 1 → Ed 3 [(0, 2)] x y → y ≠ 1 := fun x y hx e => by
    have := e.2.2
    simp at this
    omega
  exact out_two (.one ⟨by omega, by omega, by simp⟩) (fun x h => h.stays (· = 1) rfl (hs 1 (by omega))) (fun x h => h.stays (· = 2) rfl (hs 2 (by omega))) (fun h => h.stays (· ≠ 1) (by omega) hs0 rfl)

theorem es_alloc {w : World} {cs : Array Value} {l : List (Int × Int)} (h : ∀ i r, l[i]? = some r → cs[i * 2]? = some (.int .i64 r.1) ∧ cs[i * 2 + 1]? = some (.int .i64 r.2)) (t : TypeId) : Es (w.alloc (.cells cs t)) (w.alloc (.cells cs t)).heap.size (some ⟨w.heap.size, 0, none⟩) l :=
  .inr ⟨w.heap.size, 0, rfl, by simp, fun i r hr => by
    have hn := heap_alloc_new w (.cells cs t)
    rw [Nat.zero_add, cell_of_row _ _ _ cs t _ hn, cell_of_row _ _ _ cs t _ hn]
    exact h i r hr⟩
theorem rz_aw : rz 3 [(0, 2)] 0 2 = true := by
  unfold rz cz
  rw [am3]
  refine decide_eq_true ?_
  rw [if_pos (by omega)]
  have : (2 : Nat) ∈ clo (Ed 3 [(0, 2)]) 3 0 := mem_clo.2 ⟨by omega, .one ⟨by omega, by omega, by simp⟩⟩
  exact List.mem_map.2 ⟨2, this, rfl⟩

set_option maxHeartbeats 1000000 in
theorem awake_any (w : World) : Calls Try.prog 10 #[] w (UpPost w) := by
  have H1 : Hid (Calls Try.prog 12 #[.int .i64 3, .slice (some ⟨w.heap.size, 0, none⟩) 3 3] (w.alloc (.cells #[.int .i64 0, .int .i64 1, .int .i64 1, .int .i64 0, .int .i64 2, .int .i64 1] 33)) (OutPost (w.alloc (.cells #[.int .i64 0, .int .i64 1, .int .i64 1, .int .i64 0, .int .i64 2, .int .i64 1] 33)) 3 [(0, 1), (1, 0), (2, 1)])) :=
    Components_any 3 _ 3 [(0, 1), (1, 0), (2, 1)] (by decide) _ (es_alloc (fun i r hr => by
      rcases i with _ | _ | _ | i <;> simp at hr ⊢ <;> subst hr <;> simp) 33)
  have H2 : Hid (∀ W : World, Calls Try.prog 12 #[.int .i64 3, .slice (some ⟨W.heap.size, 0, none⟩) 1 1] (W.alloc (.cells #[.int .i64 0, .int .i64 2] 33)) (OutPost (W.alloc (.cells #[.int .i64 0, .int .i64 2] 33)) 3 [(0, 2)])) := fun W =>
    Components_any 3 _ 1 [(0, 2)] (by decide) _ (es_alloc (fun i r hr => by
      rcases i with _ | i <;> simp at hr ⊢ ; subst hr; simp) 33)
  have H3 : Hid (∀ W : World, Calls Try.prog 17 #[.int .i64 3, .slice (some ⟨W.heap.size, 0, none⟩) 1 1, .int .i64 0, .int .i64 2] (W.alloc (.cells #[.int .i64 0, .int .i64 2] 33)) (BoolPost (W.alloc (.cells #[.int .i64 0, .int .i64 2] 33)) true)) := fun W => by
    have := Reaches_any 3 (some ⟨W.heap.size, 0, none⟩) 1 [(0, 2)] 0 2 (by decide) (W.alloc (.cells #[.int .i64 0, .int .i64 2] 33)) (es_alloc (fun i r hr => by
      rcases i with _ | i <;> simp at hr ⊢ ; subst hr; simp) 33)
    rw [rz_aw] at this
    exact this
  go_enter Try.func10, Try.ntmps10
  go_wp2_with fail
  refine H1.out.mono ?_
  rintro e w1 ⟨out, hO, A, c, rfl, hL, B1⟩
  rw [am3] at hO
  obtain rfl := hO.one out_aw1
  have B2 : Below w.heap.size w w1 := ((Below.refl _ w).alloc (Nat.le_refl _) _).trans (B1.mono (by simp))
  have HL := Lib.hid hL
  have HB := Lib.hid B2
  clear hO hL B1 B2 H1
  go_wp2_with fail
  refine (H2.out _).mono ?_
  rintro e w2 ⟨out, hO, A2, c2, rfl, hL2, B3⟩
  rw [am3] at hO
  obtain rfl := hO.one out_aw2
  have B4 : Below w1.heap.size w1 w2 := ((Below.refl _ w1).alloc (Nat.le_refl _) _).trans (B3.mono (by simp))
  have hL1 := HL.out.below B4
  have HB2 := Lib.hid (HB.out.trans (B4.mono HB.out.size))
  clear hO B3 B4 HL HB H2
  rcases hL1 with h | ⟨b1, o1, rfl, _, hc1⟩
  · simp [zs] at h
  rcases hL2 with h | ⟨b2, o2, rfl, _, hc2⟩
  · simp [zs] at h
  obtain ⟨X, cx, k1, _⟩ := hc1 0 (zs [0, 1]) rfl
  obtain ⟨Y, cy, k2, s2⟩ := hc2 0 (zs [1]) rfl
  obtain ⟨Z, cz, k3, s3⟩ := hc2 1 (zs [2]) rfl
  rcases s2 with h | ⟨by_, oy, rfl, _, q2⟩
  · simp [zs] at h
  rcases s3 with h | ⟨bz, oz, rfl, _, q3⟩
  · simp [zs] at h
  have q2 := q2 0 1 rfl
  have q3 := q3 0 2 rfl
  simp only [zs, Nat.add_zero, List.map_cons, List.map_nil, List.length_cons, List.length_nil, Nat.zero_add] at k1 k2 k3 q2 q3
  clear hc1 hc2
  go_wp2_with fail
  refine (H3.out _).mono ?_
  rintro e w3 ⟨rfl, B5⟩
  have B6 : Below w2.heap.size w2 w3 := ((Below.refl _ w2).alloc (Nat.le_refl _) _).trans (B5.mono (by simp))
  go_wp2
  go_ret
  exact ⟨rfl, HB2.out.trans (B6.mono HB2.out.size)⟩

end Go.Proofs.Ytnfjfpiijikniaa.Gp
