/-
  The walk of the law GraphReaches. No conditions.
-/
import Derived.Test.YtnfjfpiijikniaaAw
namespace Go.Proofs.Ytnfjfpiijikniaa.Gp
open Go.RowKit
set_option linter.unusedVariables false

set_option maxHeartbeats 2000000 in
theorem lreaches_any (n : Int) (A : Option Addr) (c : Nat) (l : List (Int × Int)) (f t : Int) (w : World) (hs : Es w w.heap.size A l) : Calls Try.prog 4 #[.int .i64 n, .slice A l.length c, .int .i64 f, .int .i64 t] w (UpPost w) := by
  have HW := Lib.hid (awake_any w)
  have HS := Lib.hid hs
  clear hs
  by_cases hl : (300 : Int) < (l.length : Int)
  · go_enter Try.func4, Try.ntmps4
    go_wp2_with fail
    refine HW.out.mono ?_
    rintro e w1 ⟨rfl, B1⟩
    go_wp2
    go_ret
    exact ⟨rfl, B1⟩
  · have hl2 : decide ((300 : Int) < (l.length : Int)) = false := decide_eq_false hl
    have hl3 : l.length ≤ 1000 := by omega
    have hcz := cz_len n l f
    have HC := Lib.hid (fun W h => Closure_any n A c l f hl3 W h)
    have HR := Lib.hid (fun W h => rClosure_any n A c l f hl3 W h)
    have HQ := Lib.hid (fun W h => Reaches_any n A c l f t hl3 W h)
    have HQ2 := Lib.hid (fun W h => rReaches_any n A c l f t hl3 W h)
    have hzl : (zs (cz n l f)).length ≤ 1000 := by rw [zs_len]; omega
    have HE := Lib.hid (fun A A' c c' W h h' => same1_any A A' c c' (zs (cz n l f)) (zs (cz n l f)) true (by simp) hzl W h h')
    generalize zs (cz n l f) = xs at *
    generalize rz n l f t = r at *
    go_enter Try.func4, Try.ntmps4
    go_wp2_with fail
    refine HW.out.mono ?_
    rintro e w1 ⟨rfl, B1⟩
    go_wp2_with fail
    refine (HC.out w1 (HS.out.to B1 B1.size)).mono ?_
    rintro e w2 ⟨A2, c2, rfl, s2, B2⟩
    have B2' := B1.trans (B2.mono B1.size)
    go_wp2_with fail
    refine (HR.out w2 (HS.out.to B2' B2'.size)).mono ?_
    rintro e w3 ⟨A3, c3, rfl, s3, B3⟩
    have B3' := B2'.trans (B3.mono B2'.size)
    go_wp2_with fail
    refine (HE.out A2 A3 c2 c3 w3 (s2.to B3 B3.size) s3).mono ?_
    rintro e w4 ⟨rfl, B4⟩
    have B4' := B3'.trans (B4.mono B3'.size)
    go_wp2_with fail
    refine (HQ.out w4 (HS.out.to B4' B4'.size)).mono ?_
    rintro e w5 ⟨rfl, B5⟩
    have B5' := B4'.trans (B5.mono B4'.size)
    go_wp2_with fail
    refine (HQ2.out w5 (HS.out.to B5' B5'.size)).mono ?_
    rintro e w6 ⟨rfl, B6⟩
    have B6' := B5'.trans (B6.mono B5'.size)
    cases r <;>
    · go_wp2
      go_ret
      exact ⟨rfl, B6'⟩

end Go.Proofs.Ytnfjfpiijikniaa.Gp
