/-
  The walk of awake: the chapter's example. No conditions.
-/
import Derived.Test.YtdeaaeejkpghaaaDoorInDoes
namespace Go.Proofs.YtdeaaeejkpghaaaDoor.In
open Go.RowKit
set_option linter.unusedVariables false
attribute [local go_sem ↓ high] Ba.eq23 Ba.guard23 Ba.neq23 Ba.guard23n eqc guardc

set_option maxHeartbeats 4000000 in
theorem awake_any (w : World) : Calls Tryd.prog 5 #[] w (UpPost w) := by
  have H1 : ∀ (W : World) (A : Option Addr) (c : Nat), Hid (Calls Tryd.prog 14 #[.agg #[.int .i64 0, .int .i64 0, .int .i64 0, .int .i64 0, .int .i64 0, .int .i64 0, .int .i64 0, .int .i64 0, .int .i64 0, .int .i64 0, .string ⟨#[]⟩, .int .i64 0, .slice A 0 c], bv 1 2] W (VotePost W ⟨0, 1, 2, 0, 0, 0, 0, 0, 0, 0, ⟨#[]⟩, 0, []⟩ true)) := fun W A c => by
    have h := promise_any ⟨0, 0, 0, 0, 0, 0, 0, 0, 0, 0, ⟨#[]⟩, 0, []⟩ A c 1 2 W (.inl rfl) (by simp)
    rw [show pm ⟨0, 0, 0, 0, 0, 0, 0, 0, 0, 0, ⟨#[]⟩, 0, []⟩ 1 2 = ⟨0, 1, 2, 0, 0, 0, 0, 0, 0, 0, ⟨#[]⟩, 0, []⟩ by rfl, show rf ⟨0, 0, 0, 0, 0, 0, 0, 0, 0, 0, ⟨#[]⟩, 0, []⟩ 0 1 2 = false by decide] at h
    exact h
  have H2 : ∀ (W : World) (A : Option Addr) (c : Nat), Hid (Calls Tryd.prog 15 #[.agg #[.int .i64 0, .int .i64 1, .int .i64 2, .int .i64 0, .int .i64 0, .int .i64 0, .int .i64 0, .int .i64 0, .int .i64 0, .int .i64 0, .string ⟨#[]⟩, .int .i64 0, .slice A 0 c], bv 0 1, cv 0 0 0 0 0 ⟨#[]⟩, av 0 none 0 0] W (VotePost W ⟨0, 1, 2, 0, 0, 0, 0, 0, 0, 0, ⟨#[]⟩, 0, []⟩ false)) := fun W A c => by
    have h := preaccept_any ⟨0, 1, 2, 0, 0, 0, 0, 0, 0, 0, ⟨#[]⟩, 0, []⟩ A none c 0 0 1 0 0 0 0 0 ⟨#[]⟩ 0 [] W (.inl rfl) (.inl rfl) (by simp) (by simp)
    rw [show vt ⟨0, 1, 2, 0, 0, 0, 0, 0, 0, 0, ⟨#[]⟩, 0, []⟩ 1 0 1 0 0 0 0 0 ⟨#[]⟩ 0 [] = ⟨0, 1, 2, 0, 0, 0, 0, 0, 0, 0, ⟨#[]⟩, 0, []⟩ by rfl, show rf ⟨0, 1, 2, 0, 0, 0, 0, 0, 0, 0, ⟨#[]⟩, 0, []⟩ 1 0 1 = true by decide] at h
    exact h
  have H3 : ∀ (W : World) (A : Option Addr) (c : Nat), Hid (Calls Tryd.prog 15 #[.agg #[.int .i64 0, .int .i64 1, .int .i64 2, .int .i64 0, .int .i64 0, .int .i64 0, .int .i64 0, .int .i64 0, .int .i64 0, .int .i64 0, .string ⟨#[]⟩, .int .i64 0, .slice A 0 c], bv 1 2, cv 0 0 0 0 0 ⟨#[]⟩, av 0 none 0 0] W (VotePost W ⟨1, 1, 2, 1, 2, 0, 0, 0, 0, 0, ⟨#[]⟩, 0, []⟩ true)) := fun W A c => by
    have h := preaccept_any ⟨0, 1, 2, 0, 0, 0, 0, 0, 0, 0, ⟨#[]⟩, 0, []⟩ A none c 0 1 2 0 0 0 0 0 ⟨#[]⟩ 0 [] W (.inl rfl) (.inl rfl) (by simp) (by simp)
    rw [show vt ⟨0, 1, 2, 0, 0, 0, 0, 0, 0, 0, ⟨#[]⟩, 0, []⟩ 1 1 2 0 0 0 0 0 ⟨#[]⟩ 0 [] = ⟨1, 1, 2, 1, 2, 0, 0, 0, 0, 0, ⟨#[]⟩, 0, []⟩ by rfl, show rf ⟨0, 1, 2, 0, 0, 0, 0, 0, 0, 0, ⟨#[]⟩, 0, []⟩ 1 1 2 = false by decide] at h
    exact h
  have H4 : ∀ (W : World) (A : Option Addr) (c : Nat), Hid (Calls Tryd.prog 16 #[.agg #[.int .i64 1, .int .i64 1, .int .i64 2, .int .i64 1, .int .i64 2, .int .i64 0, .int .i64 0, .int .i64 0, .int .i64 0, .int .i64 0, .string ⟨#[]⟩, .int .i64 0, .slice A 0 c], bv 1 2, cv 0 0 0 0 0 ⟨#[]⟩, av 0 none 0 0] W (VotePost W ⟨2, 1, 2, 1, 2, 0, 0, 0, 0, 0, ⟨#[]⟩, 0, []⟩ true)) := fun W A c => by
    have h := accept_any ⟨1, 1, 2, 1, 2, 0, 0, 0, 0, 0, ⟨#[]⟩, 0, []⟩ A none c 0 1 2 0 0 0 0 0 ⟨#[]⟩ 0 [] W (.inl rfl) (.inl rfl) (by simp) (by simp)
    rw [show vt ⟨1, 1, 2, 1, 2, 0, 0, 0, 0, 0, ⟨#[]⟩, 0, []⟩ 2 1 2 0 0 0 0 0 ⟨#[]⟩ 0 [] = ⟨2, 1, 2, 1, 2, 0, 0, 0, 0, 0, ⟨#[]⟩, 0, []⟩ by rfl, show rf ⟨1, 1, 2, 1, 2, 0, 0, 0, 0, 0, ⟨#[]⟩, 0, []⟩ 2 1 2 = false by decide] at h
    exact h
  have H5 : ∀ (W : World) (A : Option Addr) (c : Nat), Hid (Calls Tryd.prog 15 #[.agg #[.int .i64 2, .int .i64 1, .int .i64 2, .int .i64 1, .int .i64 2, .int .i64 0, .int .i64 0, .int .i64 0, .int .i64 0, .int .i64 0, .string ⟨#[]⟩, .int .i64 0, .slice A 0 c], bv 1 2, cv 0 0 0 0 0 ⟨#[]⟩, av 0 none 0 0] W (VotePost W ⟨2, 1, 2, 1, 2, 0, 0, 0, 0, 0, ⟨#[]⟩, 0, []⟩ false)) := fun W A c => by
    have h := preaccept_any ⟨2, 1, 2, 1, 2, 0, 0, 0, 0, 0, ⟨#[]⟩, 0, []⟩ A none c 0 1 2 0 0 0 0 0 ⟨#[]⟩ 0 [] W (.inl rfl) (.inl rfl) (by simp) (by simp)
    rw [show vt ⟨2, 1, 2, 1, 2, 0, 0, 0, 0, 0, ⟨#[]⟩, 0, []⟩ 1 1 2 0 0 0 0 0 ⟨#[]⟩ 0 [] = ⟨2, 1, 2, 1, 2, 0, 0, 0, 0, 0, ⟨#[]⟩, 0, []⟩ by rfl, show rf ⟨2, 1, 2, 1, 2, 0, 0, 0, 0, 0, ⟨#[]⟩, 0, []⟩ 1 1 2 = true by decide] at h
    exact h
  go_enter Tryd.func5, Tryd.ntmps5
  go_wp2_with fail
  refine (H1 w none 0).out.mono ?_
  rintro e w1 ⟨A1, c1, rfl, f1, b1⟩
  clear H1
  go_wp2_with fail
  have R1 : Rx (w1.alloc (.cells #[.int .i64 0, .int .i64 1, .int .i64 2, .int .i64 0, .int .i64 0, .int .i64 0, .int .i64 0, .int .i64 0, .int .i64 0, .int .i64 0, .string ⟨#[]⟩, .int .i64 0, .slice A1 0 c1] 30)) w1.heap.size ⟨0, 1, 2, 0, 0, 0, 0, 0, 0, 0, ⟨#[]⟩, 0, []⟩ A1 c1 := rx_new w1 ⟨0, 1, 2, 0, 0, 0, 0, 0, 0, 0, ⟨#[]⟩, 0, []⟩ A1 c1
  have E1 : Below w.heap.size w (w1.alloc (.cells #[.int .i64 0, .int .i64 1, .int .i64 2, .int .i64 0, .int .i64 0, .int .i64 0, .int .i64 0, .int .i64 0, .int .i64 0, .int .i64 0, .string ⟨#[]⟩, .int .i64 0, .slice A1 0 c1] 30)) := b1.alloc (b1.size) _
  generalize (w1.alloc (.cells #[.int .i64 0, .int .i64 1, .int .i64 2, .int .i64 0, .int .i64 0, .int .i64 0, .int .i64 0, .int .i64 0, .int .i64 0, .int .i64 0, .string ⟨#[]⟩, .int .i64 0, .slice A1 0 c1] 30)) = V1 at *
  refine (H2 V1 A1 c1).out.mono ?_
  rintro e w2 ⟨A2, c2, rfl, f2, b2⟩
  clear H2
  have D2 := E1.trans (b2.mono E1.size)
  have K1 := R1.on b2 R1.lt
  have k1 := K1.lt
  obtain ⟨p0, p1, p2, p3, p4, p5, p6, p7, p8, p9, p10, p11, p12⟩ := id K1.rb
  go_wp2_with fail
  have R2 : Rx (w2.alloc (.cells #[.int .i64 0, .int .i64 1, .int .i64 2, .int .i64 0, .int .i64 0, .int .i64 0, .int .i64 0, .int .i64 0, .int .i64 0, .int .i64 0, .string ⟨#[]⟩, .int .i64 0, .slice A2 0 c2] 30)) w2.heap.size ⟨0, 1, 2, 0, 0, 0, 0, 0, 0, 0, ⟨#[]⟩, 0, []⟩ A2 c2 := rx_new w2 ⟨0, 1, 2, 0, 0, 0, 0, 0, 0, 0, ⟨#[]⟩, 0, []⟩ A2 c2
  have E2 : Below w.heap.size w (w2.alloc (.cells #[.int .i64 0, .int .i64 1, .int .i64 2, .int .i64 0, .int .i64 0, .int .i64 0, .int .i64 0, .int .i64 0, .int .i64 0, .int .i64 0, .string ⟨#[]⟩, .int .i64 0, .slice A2 0 c2] 30)) := D2.alloc (D2.size) _
  have K1_2 := K1.old (.cells #[.int .i64 0, .int .i64 1, .int .i64 2, .int .i64 0, .int .i64 0, .int .i64 0, .int .i64 0, .int .i64 0, .int .i64 0, .int .i64 0, .string ⟨#[]⟩, .int .i64 0, .slice A2 0 c2] 30)
  clear p0 p1 p2 p3 p4 p5 p6 p7 p8 p9 p10 p11 p12
  generalize (w2.alloc (.cells #[.int .i64 0, .int .i64 1, .int .i64 2, .int .i64 0, .int .i64 0, .int .i64 0, .int .i64 0, .int .i64 0, .int .i64 0, .int .i64 0, .string ⟨#[]⟩, .int .i64 0, .slice A2 0 c2] 30)) = V2 at *
  refine (H3 V2 A1 c1).out.mono ?_
  rintro e w3 ⟨A3, c3, rfl, f3, b3⟩
  clear H3 K1 R1 R2 K1_2
  have D3 := E2.trans (b3.mono E2.size)
  go_wp2_with fail
  have R3 : Rx (w3.alloc (.cells #[.int .i64 1, .int .i64 1, .int .i64 2, .int .i64 1, .int .i64 2, .int .i64 0, .int .i64 0, .int .i64 0, .int .i64 0, .int .i64 0, .string ⟨#[]⟩, .int .i64 0, .slice A3 0 c3] 30)) w3.heap.size ⟨1, 1, 2, 1, 2, 0, 0, 0, 0, 0, ⟨#[]⟩, 0, []⟩ A3 c3 := rx_new w3 ⟨1, 1, 2, 1, 2, 0, 0, 0, 0, 0, ⟨#[]⟩, 0, []⟩ A3 c3
  have E3 : Below w.heap.size w (w3.alloc (.cells #[.int .i64 1, .int .i64 1, .int .i64 2, .int .i64 1, .int .i64 2, .int .i64 0, .int .i64 0, .int .i64 0, .int .i64 0, .int .i64 0, .string ⟨#[]⟩, .int .i64 0, .slice A3 0 c3] 30)) := D3.alloc (D3.size) _
  generalize (w3.alloc (.cells #[.int .i64 1, .int .i64 1, .int .i64 2, .int .i64 1, .int .i64 2, .int .i64 0, .int .i64 0, .int .i64 0, .int .i64 0, .int .i64 0, .string ⟨#[]⟩, .int .i64 0, .slice A3 0 c3] 30)) = V3 at *
  refine (H4 V3 A3 c3).out.mono ?_
  rintro e w4 ⟨A4, c4, rfl, f4, b4⟩
  clear H4
  have D4 := E3.trans (b4.mono E3.size)
  have K3 := R3.on b4 R3.lt
  have k3 := K3.lt
  go_wp2_with fail
  have R4 : Rx (w4.alloc (.cells #[.int .i64 2, .int .i64 1, .int .i64 2, .int .i64 1, .int .i64 2, .int .i64 0, .int .i64 0, .int .i64 0, .int .i64 0, .int .i64 0, .string ⟨#[]⟩, .int .i64 0, .slice A4 0 c4] 30)) w4.heap.size ⟨2, 1, 2, 1, 2, 0, 0, 0, 0, 0, ⟨#[]⟩, 0, []⟩ A4 c4 := rx_new w4 ⟨2, 1, 2, 1, 2, 0, 0, 0, 0, 0, ⟨#[]⟩, 0, []⟩ A4 c4
  have E4 : Below w.heap.size w (w4.alloc (.cells #[.int .i64 2, .int .i64 1, .int .i64 2, .int .i64 1, .int .i64 2, .int .i64 0, .int .i64 0, .int .i64 0, .int .i64 0, .int .i64 0, .string ⟨#[]⟩, .int .i64 0, .slice A4 0 c4] 30)) := D4.alloc (D4.size) _
  have K3_4 := K3.old (.cells #[.int .i64 2, .int .i64 1, .int .i64 2, .int .i64 1, .int .i64 2, .int .i64 0, .int .i64 0, .int .i64 0, .int .i64 0, .int .i64 0, .string ⟨#[]⟩, .int .i64 0, .slice A4 0 c4] 30)
  generalize (w4.alloc (.cells #[.int .i64 2, .int .i64 1, .int .i64 2, .int .i64 1, .int .i64 2, .int .i64 0, .int .i64 0, .int .i64 0, .int .i64 0, .int .i64 0, .string ⟨#[]⟩, .int .i64 0, .slice A4 0 c4] 30)) = V4 at *
  refine (H5 V4 A4 c4).out.mono ?_
  rintro e w5 ⟨A5, c5, rfl, f5, b5⟩
  clear H5
  have D5 := E4.trans (b5.mono E4.size)
  have K5 := K3_4.on b5 K3_4.lt
  have K6 := R4.on b5 R4.lt
  have k5 := K5.lt
  have k6 := K6.lt
  have n0 := K5.rb.1
  have m0 := K6.rb.1
  have D6 := Lib.hid (D5.alloc D5.size (.cells #[.int .i64 2, .int .i64 1, .int .i64 2, .int .i64 1, .int .i64 2, .int .i64 0, .int .i64 0, .int .i64 0, .int .i64 0, .int .i64 0, .string ⟨#[]⟩, .int .i64 0, .slice A5 0 c5] 30))
  clear K3 K3_4 R3 R4 K5 K6
  go_wp2
  go_ret
  exact ⟨rfl, D6.out⟩

end Go.Proofs.YtdeaaeejkpghaaaDoor.In
