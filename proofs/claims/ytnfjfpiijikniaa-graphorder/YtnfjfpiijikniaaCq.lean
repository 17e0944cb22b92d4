/-
  The walk of graph.Components once more: what it gives lies in rows whose types are known. Conditions: at most 1000 edges.
-/
import Derived.Test.YtnfjfpiijikniaaIq
namespace Go.Proofs.Ytnfjfpiijikniaa.Gp
open Go.RowKit Go.Shelf
set_option linter.unusedVariables false

/-- The call gave the components in the order in which they are told, in rows. -/
def OutPr (w : World) (n : Int) (l : List (Int × Int)) (e : Ending) (w' : World) : Prop := ∃ out, Out (Ed (am n) l) (am n) (fun _ => False) out ∧ ∃ A c bs, e = .returned (.slice A out.length c) ∧ Pr w' bs (.slice A out.length c) out ∧ Below w.heap.size w w'

set_option maxHeartbeats 1000000 in
theorem ComponentsP_any (n : Int) (A : Option Addr) (c : Nat) (l : List (Int × Int)) (hl : l.length ≤ 1000) (w : World) (hs : Es w w.heap.size A l) : Calls Try.prog 12 #[.int .i64 n, .slice A l.length c] w (OutPr w n l) := by
  have HR := Lib.hid (read_any n A c l hl w hs)
  have hle := am_le n
  generalize hm : am n = m at *
  go_enter Try.func12, Try.ntmps12
  go_wp2_with fail
  refine HR.out.mono ?_
  rintro e w1 ⟨b, R, rfl, hG, hb, hRb, B1⟩
  have HC := Lib.hid (components_any b R m (ge l) (by omega) w1 hG)
  go_wp2_with fail
  refine HC.out.mono ?_
  rintro e w2 ⟨qs, v, rfl, hRem, hPr, B2⟩
  have HI := Lib.hid (inOrderP_any b R m (ge l) (by omega) w1.heap.size v qs hRem w2 (hG.up B2) hPr)
  have Hv : Hid (∀ r, v.ownBlock = some r → w.heap.size ≤ r) := fun r hr => by
    obtain ⟨hs, ho, _⟩ := hPr
    exact Nat.le_trans B1.size (ho.lt r hr).1
  go_wp2_with fail
  refine HI.out.mono ?_
  rintro e w3 ⟨out, A, c, rfl, hOut, hLl, hOff, bs, hPs⟩
  have B := (B1.trans (B2.mono B1.size)).trans (hOff.below Hv.out (Nat.le_trans B1.size B2.size))
  rw [eg_ge] at hOut
  have HO := Lib.hid hOut
  have HB := Lib.hid B
  clear B hOut hOff
  go_wp2
  go_ret
  exact ⟨out, by rw [hm]; exact HO.out, A, c, bs, rfl, hPs, HB.out⟩

end Go.Proofs.Ytnfjfpiijikniaa.Gp
