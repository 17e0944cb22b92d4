/-
  The walks of the functions of package vlq, and of the document's answer, that only reckon: allowed, Size, and the document's Size. No conditions beyond the bounds of an int.
-/
import Derived.Test.YteajbcngimccmaaDoorMem
namespace Go.Proofs.YteajbcngimccmaaDoor
open Go.RowKit

/-- May the number be? -/
def okB (n : Int) : Bool := decide (0 ≤ n ∧ n < 72057594037927936)
theorem okB_yes {n : Int} (h0 : 0 ≤ n) (h : n < 72057594037927936) : okB n = true := by simp [okB, h0, h]
theorem okB_no {n : Int} (h : n < 0 ∨ 72057594037927936 ≤ n) : okB n = false := by simp [okB]; omega
theorem okB_bd {n : Int} (h : okB n = true) : 0 ≤ n ∧ n < 72057594037927936 := by simpa [okB] using h
theorem okB_nb {n : Int} (h : okB n = false) : n < 0 ∨ 72057594037927936 ≤ n := by simp [okB] at h; omega

theorem allowed_yes (n : Int) (w : World) (h0 : 0 ≤ n) (h : n < 72057594037927936) : Calls Tryd.prog 29 #[.int .i64 n] w fun e w' => e = .returned (.bool true) ∧ w = w' := by
  go_enter Tryd.func29, Tryd.ntmps29
  go_wp2
  go_ret
  exact ⟨rfl, rfl⟩

theorem allowed_no (n : Int) (w : World) (h : n < 0 ∨ 72057594037927936 ≤ n) : Calls Tryd.prog 29 #[.int .i64 n] w fun e w' => e = .returned (.bool false) ∧ w = w' := by
  by_cases h0 : n < 0
  · go_enter Tryd.func29, Tryd.ntmps29
    go_wp2
    go_ret
    exact ⟨rfl, rfl⟩
  · have h1 : 0 ≤ n := by omega
    have h2 : 72057594037927936 ≤ n := by omega
    have h3 : decide (n < 72057594037927936) = false := by simpa using h2
    clear h h0
    go_enter Tryd.func29, Tryd.ntmps29
    go_wp2
    go_ret
    exact ⟨rfl, rfl⟩

theorem ret_int {k : IntKind} {a b : Int} (h : a = b) : Ending.returned (.int k a) = .returned (.int k b) := by rw [h]

theorem rsize_yes (n : Int) (w : World) (h0 : 0 ≤ n) (h : n < 72057594037927936) : Calls Tryd.prog 37 #[.int .i64 n] w fun e w' => e = .returned (.int .i64 ((vb n 0).length : Int)) ∧ w = w' := by
  have hd1 : decide (n < 0) = false := by simp; omega
  have hd2 : decide (72057594037927936 ≤ n) = false := by simp; omega
  go_enter Tryd.func37, Tryd.ntmps37
  go_wp2
  go_loop [0, 3] (fun t s => ∃ (m : Int) (k : Nat), 0 ≤ m ∧ m < 72057594037927936 ∧ t = .int .i64 m ∧ s = .int .i64 (k : Int) ∧ 1 ≤ k ∧ k + (vb m 0).length = (vb n 0).length + 1) (fun t _ => (intOf t).toNat)
  case atStart => exact ⟨n, 1, h0, h, rfl, rfl, by omega, by omega⟩
  case round =>
    obtain ⟨m, k, m0, m1, rfl, rfl, hk, hl⟩ := hrel
    have hb : (vb n 0).length ≤ 8 := vb_le8 h
    have hp := vb_pos m 0
    have HL := Lib.hid hl
    have hk8 : k ≤ 8 := by omega
    clear hl
    by_cases hm : m < 128
    · go_wp2
      go_ret
      refine ⟨ret_int ?_, rfl⟩
      have := HL.out
      rw [vb_lo hm] at this
      simp at this
      omega
    · have hs := vb_step (m := 0) (m' := 0) hm
      have HS := Lib.hid hs
      clear hs
      have hm' : 128 ≤ m := by omega
      go_wp2
      go_round
      case rel => exact ⟨m / 128, k + 1, by omega, by omega, rfl, by go_num, by omega, by have := HL.out; have := HS.out; omega⟩
      case measure => simp [intOf]; omega

theorem rsize_no (n : Int) (w : World) (h : n < 0 ∨ 72057594037927936 ≤ n) : Calls Tryd.prog 37 #[.int .i64 n] w fun e w' => e = .returned (.int .i64 0) ∧ w = w' := by
  by_cases h0 : n < 0
  · go_enter Tryd.func37, Tryd.ntmps37
    go_wp2
    go_ret
    exact ⟨rfl, rfl⟩
  · have h1 : decide (n < 0) = false := by simpa using h0
    have h2 : 72057594037927936 ≤ n := by omega
    clear h
    go_enter Tryd.func37, Tryd.ntmps37
    go_wp2
    go_ret
    exact ⟨rfl, rfl⟩

end Go.Proofs.YteajbcngimccmaaDoor
