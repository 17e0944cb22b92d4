/-
  The walk of Cmp: how two ballots compare. No conditions.
-/
import Derived.Test.YtgmfjoegfbaebaaBaMo
namespace Go.Proofs.Ytgmfjoegfbaebaa.Ba
open Go.RowKit
set_option linter.unusedVariables false
attribute [local go_sem ↓ high] eq23 guard23 neq23 guard23n

theorem gr_two (x y u v : Int) (h : ¬ (x = u ∧ y = v)) : (ms [(x, y), (u, v)] = (x, y) ∧ cm x y u v = 1) ∨ (ms [(x, y), (u, v)] = (u, v) ∧ cm x y u v = -1) := by
  rw [ms_two]
  by_cases k : u < x ∨ (x = u ∧ v < y)
  · refine .inl ⟨if_neg ?_, cm_one.2 k⟩
    rw [ab_iff]; omega
  · exact .inr ⟨if_pos (ab_iff.2 (by omega)), cm_less.2 (by omega)⟩

set_option maxHeartbeats 1000000 in
theorem cmp_core (x y u v mx my r : Int) (b : Bool) (w : World) (hn : ((x == u) && (y == v)) = false) (hb : ((mx == x) && (my == y)) = b) (hr : r = if b = true then 1 else -1)
    (HM : ∀ (W : World) (A : Option Addr), Bs W W.heap.size A [(x, y), (u, v)] → Hid (Calls Try.prog 44 #[.slice A 2 2] W (BalPost W mx my))) :
    Calls Try.prog 36 #[.agg #[.int .i64 x, .int .i64 y], .agg #[.int .i64 u, .int .i64 v]] w (IntPost w r) := by
  have hr' := Lib.hid hr
  clear hr
  have C0 := (w2_first w x y u v).bb
  have C1 := (w2_box w x y u v).bb
  have BW := two_below w x y u v
  have Z0 : ((w.alloc (.cells #[.int .i64 x, .int .i64 y] 40)).alloc (.cells #[.int .i64 u, .int .i64 v] 40)).heap.size = w.heap.size + 1 + 1 := by simp
  obtain ⟨p0, r0⟩ := id C0
  obtain ⟨p1, r1⟩ := id C1
  go_enter Try.func36, Try.ntmps36
  go_wp2_with fail
  generalize ((w.alloc (.cells #[.int .i64 x, .int .i64 y] 40)).alloc (.cells #[.int .i64 u, .int .i64 v] 40)) = W0 at *
  have z0 : w.heap.size < W0.heap.size := by omega
  have z1 : w.heap.size + 1 < W0.heap.size := by omega
  have S0 : Bb W0 w.heap.size x y ∧ Bb W0 (w.heap.size + 1) u v ∧ Below W0.heap.size W0 W0 := ⟨C0, C1, Below.refl _ _⟩
  have KB : ∀ a b, Below W0.heap.size a b → (Bb a w.heap.size x y ∧ Bb a (w.heap.size + 1) u v ∧ Below W0.heap.size W0 a) → (Bb b w.heap.size x y ∧ Bb b (w.heap.size + 1) u v ∧ Below W0.heap.size W0 b) := fun a b hb hS => ⟨hS.1.on hb z0, hS.2.1.on hb z1, hS.2.2.trans hb⟩
  have KD : Hid (∀ a, (Bb a w.heap.size x y ∧ Bb a (w.heap.size + 1) u v ∧ Below W0.heap.size W0 a) → (Bb a.drew w.heap.size x y ∧ Bb a.drew (w.heap.size + 1) u v ∧ Below W0.heap.size W0 a.drew)) := fun a hS => KB _ _ (Below.refl _ _).drew hS
  have KA : Hid (∀ a o, (Bb a w.heap.size x y ∧ Bb a (w.heap.size + 1) u v ∧ Below W0.heap.size W0 a) → (Bb (a.alloc o) w.heap.size x y ∧ Bb (a.alloc o) (w.heap.size + 1) u v ∧ Below W0.heap.size W0 (a.alloc o))) := fun a o hS => KB _ _ ((Below.refl _ _).alloc hS.2.2.size o) hS
  have KS : Hid (∀ a b, Below a.heap.size a b → (Bb a w.heap.size x y ∧ Bb a (w.heap.size + 1) u v ∧ Below W0.heap.size W0 a) → (Bb b w.heap.size x y ∧ Bb b (w.heap.size + 1) u v ∧ Below W0.heap.size W0 b)) := fun a b hb hS => KB _ _ (hb.mono hS.2.2.size) hS
  clear KB
  have GM : Hid (Calls Try.prog 44 #[.slice (some ⟨W0.heap.size, 0, none⟩) 2 2] (W0.alloc (.cells #[.int .i64 x, .int .i64 y, .int .i64 u, .int .i64 v] 40)).drew (BalPost (W0.alloc (.cells #[.int .i64 x, .int .i64 y, .int .i64 u, .int .i64 v] 40)).drew mx my)) :=
    HM _ _ (bs_two_at (by simp) (by simp) (by simp) (by simp))
  clear HM C0 C1 Z0
  go_region_held3 (fun a => (a.cell? ⟨w.heap.size, 0, none⟩ = some (.int .i64 x) ∧ a.cell? ⟨w.heap.size, 1, none⟩ = some (.int .i64 y)) ∧ (a.cell? ⟨w.heap.size + 1, 0, none⟩ = some (.int .i64 u) ∧ a.cell? ⟨w.heap.size + 1, 1, none⟩ = some (.int .i64 v)) ∧ Below W0.heap.size W0 a)
    (first | (exact S0) | (exact KD.out _ S0) | (exact KD.out _ (KA.out _ _ S0)) | (refine KS.out _ _ hbm ?_; first | assumption | exact KD.out _ (KA.out _ _ S0)) | (refine KA.out _ _ ?_; first | assumption | exact KD.out _ S0) | (refine KD.out _ ?_; assumption))
    (first | (go_at_call 44; (with_reducible refine GM.out.mono ?_); rintro e wm ⟨rfl, hbm⟩))
  all_goals (
    rename_i hSx
    have BX := BW.trans (hSx.2.2.mono BW.size)
    clear GM KD KA KS S0 p0 r0 p1 r1
    cases b
    · go_wp2
      go_ret
      exact ⟨by rw [hr'.out]; rfl, BX⟩
    · go_wp2
      go_ret
      exact ⟨by rw [hr'.out]; rfl, BX⟩)

theorem cmp_any (x y u v : Int) (w : World) : Calls Try.prog 36 #[.agg #[.int .i64 x, .int .i64 y], .agg #[.int .i64 u, .int .i64 v]] w (IntPost w (cm x y u v)) := by
  by_cases h0 : x = u ∧ y = v
  · obtain ⟨rfl, rfl⟩ := h0
    have H := Lib.hid (cm_eq x y)
    go_enter Try.func36, Try.ntmps36
    go_wp2
    go_ret
    exact ⟨by rw [H.out]; rfl, two_below ..⟩
  · have HM : ∀ (W : World) (A : Option Addr), Bs W W.heap.size A [(x, y), (u, v)] → Hid (Calls Try.prog 44 #[.slice A 2 2] W (BalPost W (ms [(x, y), (u, v)]).1 (ms [(x, y), (u, v)]).2)) := fun W A h => most_any A 2 _ W (by simp) (by simp) h
    rcases gr_two x y u v h0 with ⟨e1, e2⟩ | ⟨e1, e2⟩
    · rw [e1] at HM
      exact cmp_core x y u v x y _ true w (not_same h0) (by simp) (by rw [e2]; rfl) HM
    · rw [e1] at HM
      exact cmp_core x y u v u v _ false w (not_same h0) (not_same (fun k => h0 ⟨k.1.symm, k.2.symm⟩)) (by rw [e2]; rfl) HM

end Go.Proofs.Ytgmfjoegfbaebaa.Ba
