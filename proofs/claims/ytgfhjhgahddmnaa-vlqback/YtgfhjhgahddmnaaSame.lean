/-
  The walk of the document's Same, at two slices that read as the same list: it answers true. Conditions: fewer than 2^62 elements.
-/
import Derived.Test.YtgfhjhgahddmnaaGall
import Derived.Deep.QuietTactic
import Derived.BigQuiet
namespace Go.Proofs.Ytgfhjhgahddmnaa
open Go.RowKit

set_option maxHeartbeats 400000 in
theorem same_any (A A' : Option Addr) (c c' : Nat) (xs : List Int) (w : World) (hl : xs.length ≤ 4611686018427387904) (hs : Sl w w.heap.size .i64 A xs) (hs' : Sl w w.heap.size .i64 A' xs) :
    Calls Try.prog 22 #[.slice A xs.length c, .slice A' xs.length c'] w (UpPost w) := by
  go_enter Try.func22, Try.ntmps22
  go_wp2
  go_loopw [5] (fun i wr => ∃ k : Nat, k ≤ xs.length ∧ i = .int .i64 (k : Int) ∧ Below w.heap.size w wr) (fun i _ => xs.length - (intOf i).toNat)
  case atStart => exact ⟨0, by omega, rfl, Below.refl _ _⟩
  case round =>
    obtain ⟨k, hk, rfl, hbel⟩ := hrel
    by_cases hlt : k < xs.length
    · obtain ⟨b, off, rfl, hb, hcell⟩ := (hs.below hbel).at_ hlt
      obtain ⟨b', off', rfl, hb', hcell'⟩ := (hs'.below hbel).at_ hlt
      generalize xs.getD k 0 = x at hcell hcell'
      go_wp2
      go_quiet (fail)
      go_wp2
      go_roundw
      case rel => exact ⟨k + 1, by omega, by go_num, ⟨hbel.os, hbel.tape, hbel.output, hbel.size, hbel.block⟩⟩
      case measure => simp [intOf]; omega
    · go_wp2
      go_ret
      exact ⟨rfl, hbel⟩

end Go.Proofs.Ytgfhjhgahddmnaa
