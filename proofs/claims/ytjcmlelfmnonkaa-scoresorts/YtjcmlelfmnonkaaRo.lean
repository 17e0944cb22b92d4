/-
  The walk of sort.rotate_func at this translation: two parts of a row of numbers changed round. Conditions: neither is empty, both lie inside the row.
-/
import Derived.Test.YtjcmlelfmnonkaaSw
namespace Go.Proofs.Ytjcmlelfmnonkaa
open Go.Shelf Go.RowKit Go.Sort
set_option linter.unusedVariables false
set_option maxRecDepth 100000

set_option maxHeartbeats 1600000 in
theorem rotate_any (lb sb : Array Value) (blk off n : Nat) (d : Array Nat) (hs : d.size = n) (a m b : Nat) (h1 : a < m) (h2 : m < b) (h3 : b ≤ n) (hn : n < 1152921504606846976) (W : World) (R : Rdy lb sb blk off n W) (hH : Holds en W blk off d) :
    Hid (Calls Try.prog 59 #[dat lb sb, .int .i64 (a : Int), .int .i64 (m : Int), .int .i64 (b : Int)] W (SPost W blk off n fun d' => St.Rot (fn d) (fn d') a m b)) := by
  refine Lib.hid ?_
  have RV := Lib.hid (R.box (bx lb sb))
  have HV := Lib.hid (holds_box R.blt hH (bx lb sb))
  have hbl := R.blt
  have SV := Lib.hid (SW.start HV.out)
  clear hH R
  unfold dat
  go_enter Try.func59, Try.ntmps59
  go_wp2
  go_loopw [8, 9] (fun u v wr => ∃ (i j : Nat) (dk : Array Nat), u = .int .i64 (i : Int) ∧ v = .int .i64 (j : Int) ∧ 0 < i ∧ 0 < j ∧ i + a ≤ m ∧ m + j ≤ b ∧ dk.size = n ∧ Hid (SW en (W.alloc (bx lb sb)) blk off dk wr) ∧
    Hid (∀ g, St.Rot (fn dk) g (m - i) m (m + j) → St.Rot (fn d) g a m b)) (fun u v _ => (intOf u).toNat + (intOf v).toNat)
  case atStart => exact ⟨m - a, b - m, d, by go_num, by go_num, by omega, by omega, by omega, by omega, hs, SV, Lib.hid (fun g r => by rw [show m - (m - a) = a by omega, show m + (b - m) = b by omega] at r; exact r)⟩
  case round =>
    obtain ⟨i, j, dk, rfl, rfl, i0, j0, hi, hj, hsk, HS, HF⟩ := hrel
    obtain ⟨c0, c1⟩ := box_cell hbl HS.out
    have RW := Lib.hid (RV.out.on HS.out hsk)
    have HW := Lib.hid (HS.out.holds RV.out.blt HV.out (by omega))
    by_cases heq : i = j
    · subst heq
      have HC := range_any lb sb blk off n dk hsk (m - i) m i (by omega) (by omega) hn wr RW.out HW.out
      unfold dat at HC
      rw [show ((m - i : Nat) : Int) = (m : Int) - (i : Int) by omega] at HC
      go_wp2_with (go_at_call 62; refine HC.out.mono ?_; rintro e w2 ⟨rfl, d2, s2, q2, z2⟩)
      go_end0
      refine ⟨rfl, d2, s2, HF.out _ ?_, sw_base hbl (sw_then RV.out.blt HS.out z2 (by omega))⟩
      rw [show fn d2 = St.sw (fn dk) (m - i) m i from funext q2]
      exact St.rot_end (by omega)
    · by_cases hgt : j < i
      · have HC := range_any lb sb blk off n dk hsk (m - i) m j (by omega) (by omega) hn wr RW.out HW.out
        unfold dat at HC
        rw [show ((m - i : Nat) : Int) = (m : Int) - (i : Int) by omega] at HC
        go_wp2_with (go_at_call 62; refine HC.out.mono ?_; rintro e w2 ⟨rfl, d2, s2, q2, z2⟩)
        go_roundw
        case rel =>
          refine ⟨i - j, j, d2, by go_num, by go_num, by omega, j0, by omega, hj, s2, Lib.hid (sw_then RV.out.blt HS.out z2 (by omega)), Lib.hid (fun g r => HF.out g (St.rot_left (by omega) hgt ?_))⟩
          rw [← show fn d2 = St.sw (fn dk) (m - i) m j from funext q2]
          exact r
        case measure => simp [intOf]; omega
      · have HC := range_any lb sb blk off n dk hsk (m - i) (m + j - i) i (by omega) (by omega) hn wr RW.out HW.out
        unfold dat at HC
        rw [show ((m - i : Nat) : Int) = (m : Int) - (i : Int) by omega, show ((m + j - i : Nat) : Int) = (m : Int) + (j : Int) - (i : Int) by omega] at HC
        go_wp2_with (go_at_call 62; refine HC.out.mono ?_; rintro e w2 ⟨rfl, d2, s2, q2, z2⟩)
        go_roundw
        case rel =>
          refine ⟨i, j - i, d2, by go_num, by go_num, i0, by omega, hi, by omega, s2, Lib.hid (sw_then RV.out.blt HS.out z2 (by omega)), Lib.hid (fun g r => HF.out g (St.rot_right (by omega) (by omega) ?_))⟩
          rw [← show fn d2 = St.sw (fn dk) (m - i) (m + j - i) i from funext q2]
          exact r
        case measure => simp [intOf]; omega
end Go.Proofs.Ytjcmlelfmnonkaa
