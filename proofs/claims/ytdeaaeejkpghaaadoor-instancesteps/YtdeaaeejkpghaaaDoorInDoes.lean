/-
  The walks of does (a step), and of Few. Conditions: at most 1000 deps.
-/
import Derived.Test.YtdeaaeejkpghaaaDoorInProm
import Derived.Test.YtdeaaeejkpghaaaDoorInCom
import Derived.Test.YtdeaaeejkpghaaaDoorInSame
namespace Go.Proofs.YtdeaaeejkpghaaaDoor.In
open Go.RowKit
set_option linter.unusedVariables false
attribute [local go_sem ↓ high] Ba.eq23 Ba.guard23 Ba.neq23 Ba.guard23n eqc guardc

/-- What a step makes of what is known, and whether it is not too late. -/
def ds (r : Rd) (p : Sd) : Rd := if (p.g == 0) = true then pm r p.x p.y else if (p.g == 1) = true then vt r 1 p.x p.y p.u p.s p.k p.h p.n p.t p.q p.xs else if (p.g == 2) = true then vt r 2 p.x p.y p.u p.s p.k p.h p.n p.t p.q p.xs else co r p.u p.s p.k p.h p.n p.t p.q p.xs
def db (r : Rd) (p : Sd) : Bool := if (p.g == 0) = true then !rf r 0 p.x p.y else if (p.g == 1) = true then !rf r 1 p.x p.y else if (p.g == 2) = true then !rf r 2 p.x p.y else true

theorem run_res_does {V : World} {tm : Array Value} {B : Nat} {r : Rd} {A : Option Addr} {c : Nat} {b : Bool} (h2 : tm[4]?.getD undef = .pointer (some ⟨B, 0, none⟩)) (h3 : tm[5]?.getD undef = .bool b) (hb : Rb V B r A c) :
    (results Tryd.f8 tm).run Tryd.prog V = .ok (.tuple #[rv r A c, .bool b]) V := by
  obtain ⟨c0, c1, c2, c3, c4, c5, c6, c7, c8, c9, c10, c11, c12⟩ := hb
  simp [results, Tryd.results8, h2, h3, go_sem, c0, c1, c2, c3, c4, c5, c6, c7, c8, c9, c10, c11, c12]

set_option maxHeartbeats 4000000 in
theorem does_0 (r : Rd) (p : Sd) (A A' : Option Addr) (c c' : Nat) (w : World) (hs : At.Sl w w.heap.size .i64 A r.xs) (hs' : At.Sl w w.heap.size .i64 A' p.xs) (hl : r.xs.length ≤ 1000) (hl' : p.xs.length ≤ 1000) (h0 : (p.g == 0) = true) : Calls Tryd.prog 8 #[rv r A c, sv p A' c'] w (VotePost w (pm r p.x p.y) (!rf r 0 p.x p.y)) := by
  have HV : ∀ W, At.Sl W W.heap.size .i64 A r.xs → At.Sl W W.heap.size .i64 A' p.xs → Hid (Calls Tryd.prog 14 #[rv r A c, bv p.x p.y] W (VotePost W (pm r p.x p.y) (!rf r 0 p.x p.y))) := fun W g g' => promise_any r A c p.x p.y W g hl
  have X0 : Rx ((((w.alloc (.cells (rcs r A c) 30)).alloc (.cells (scs p A' c') 32)).alloc (.cells #[.int .i64 0, .int .i64 0, .int .i64 0, .int .i64 0, .int .i64 0, .int .i64 0, .int .i64 0, .int .i64 0, .int .i64 0, .int .i64 0, .string ⟨#[]⟩, .int .i64 0, .slice none 0 0] 30)).alloc (.cells (rcs r A c) 30)) (w.heap.size) r A c := by
    have h0 := rx_new w r A c
    exact (((h0.old _).old _).old _)
  have P0 : Sb ((((w.alloc (.cells (rcs r A c) 30)).alloc (.cells (scs p A' c') 32)).alloc (.cells #[.int .i64 0, .int .i64 0, .int .i64 0, .int .i64 0, .int .i64 0, .int .i64 0, .int .i64 0, .int .i64 0, .int .i64 0, .int .i64 0, .string ⟨#[]⟩, .int .i64 0, .slice none 0 0] 30)).alloc (.cells (rcs r A c) 30)) (w.heap.size + 1) p A' c' := by
    have h0 := sb_new (w.alloc (.cells (rcs r A c) 30)) p A' c'
    rw [show (w.alloc (.cells (rcs r A c) 30)).heap.size = w.heap.size + 1 by simp] at h0
    exact ((h0.old _).old _)
  have Z0 : Rx ((((w.alloc (.cells (rcs r A c) 30)).alloc (.cells (scs p A' c') 32)).alloc (.cells #[.int .i64 0, .int .i64 0, .int .i64 0, .int .i64 0, .int .i64 0, .int .i64 0, .int .i64 0, .int .i64 0, .int .i64 0, .int .i64 0, .string ⟨#[]⟩, .int .i64 0, .slice none 0 0] 30)).alloc (.cells (rcs r A c) 30)) (w.heap.size + 1 + 1) ⟨0, 0, 0, 0, 0, 0, 0, 0, 0, 0, ⟨#[]⟩, 0, []⟩ none 0 := by
    have h0 := zero_box ((w.alloc (.cells (rcs r A c) 30)).alloc (.cells (scs p A' c') 32)) 
    rw [show ((w.alloc (.cells (rcs r A c) 30)).alloc (.cells (scs p A' c') 32)).heap.size = w.heap.size + 1 + 1 by simp] at h0
    exact (h0.old _)
  have X3 : Rx ((((w.alloc (.cells (rcs r A c) 30)).alloc (.cells (scs p A' c') 32)).alloc (.cells #[.int .i64 0, .int .i64 0, .int .i64 0, .int .i64 0, .int .i64 0, .int .i64 0, .int .i64 0, .int .i64 0, .int .i64 0, .int .i64 0, .string ⟨#[]⟩, .int .i64 0, .slice none 0 0] 30)).alloc (.cells (rcs r A c) 30)) (w.heap.size + 1 + 1 + 1) r A c := by
    have h0 := rx_new (((w.alloc (.cells (rcs r A c) 30)).alloc (.cells (scs p A' c') 32)).alloc (.cells #[.int .i64 0, .int .i64 0, .int .i64 0, .int .i64 0, .int .i64 0, .int .i64 0, .int .i64 0, .int .i64 0, .int .i64 0, .int .i64 0, .string ⟨#[]⟩, .int .i64 0, .slice none 0 0] 30)) r A c
    rw [show (((w.alloc (.cells (rcs r A c) 30)).alloc (.cells (scs p A' c') 32)).alloc (.cells #[.int .i64 0, .int .i64 0, .int .i64 0, .int .i64 0, .int .i64 0, .int .i64 0, .int .i64 0, .int .i64 0, .int .i64 0, .int .i64 0, .string ⟨#[]⟩, .int .i64 0, .slice none 0 0] 30)).heap.size = w.heap.size + 1 + 1 + 1 by simp] at h0
    exact h0
  have B0 : Below w.heap.size w ((((w.alloc (.cells (rcs r A c) 30)).alloc (.cells (scs p A' c') 32)).alloc (.cells #[.int .i64 0, .int .i64 0, .int .i64 0, .int .i64 0, .int .i64 0, .int .i64 0, .int .i64 0, .int .i64 0, .int .i64 0, .int .i64 0, .string ⟨#[]⟩, .int .i64 0, .slice none 0 0] 30)).alloc (.cells (rcs r A c) 30)) := (((((Below.refl _ _).alloc (Nat.le_refl _) _).alloc (by first | (simp; done) | (simp; omega)) _).alloc (by first | (simp; done) | (simp; omega)) _).alloc (by first | (simp; done) | (simp; omega)) _)
  have S0 := hs.to B0 B0.size
  have S0' := hs'.to B0 B0.size
  generalize pm r p.x p.y = o at *
  generalize (!rf r 0 p.x p.y) = L at *
  go_enter Tryd.func8, Tryd.ntmps8
  go_wp2_with fail
  generalize ((((w.alloc (.cells (rcs r A c) 30)).alloc (.cells (scs p A' c') 32)).alloc (.cells #[.int .i64 0, .int .i64 0, .int .i64 0, .int .i64 0, .int .i64 0, .int .i64 0, .int .i64 0, .int .i64 0, .int .i64 0, .int .i64 0, .string ⟨#[]⟩, .int .i64 0, .slice none 0 0] 30)).alloc (.cells (rcs r A c) 30)) = W0 at *
  refine (HV _ S0 S0').out.mono ?_
  rintro e w2 ⟨A8, c8, rfl, f2, b2⟩
  have x3lt := X3.lt
  have z0lt := Z0.lt
  have X8 := X3.on b2 X3.lt
  have Z8 := Z0.on b2 Z0.lt
  have B8 := B0.trans (b2.mono B0.size)
  have fx := X8.free
  obtain ⟨p0, p1, p2, p3, p4, p5, p6, p7, p8, p9, p10, p11, p12⟩ := id X8.rb
  have X9 := X8.put o A8 c8
  have Z9 := Z8.past (B := w.heap.size + 1 + 1 + 1) (by omega) o A8 c8
  have B9 := below_put B8 (B := w.heap.size + 1 + 1 + 1) (by omega) o A8 c8
  have F9 := f2.put (B := w.heap.size + 1 + 1 + 1) x3lt o A8 c8
  obtain ⟨V, hV⟩ : ∃ V, In.put w2 (w.heap.size + 1 + 1 + 1) o A8 c8 = V := ⟨_, rfl⟩
  rw [hV] at X9 Z9 B9 F9
  have hV' : (((((((((((((w2.setCell ⟨w.heap.size + 1 + 1 + 1, 0, none⟩ (.int .i64 o.st)).setCell ⟨w.heap.size + 1 + 1 + 1, 1, none⟩ (.int .i64 o.pn)).setCell ⟨w.heap.size + 1 + 1 + 1, 2, none⟩ (.int .i64 o.pb)).setCell ⟨w.heap.size + 1 + 1 + 1, 3, none⟩ (.int .i64 o.vn)).setCell ⟨w.heap.size + 1 + 1 + 1, 4, none⟩ (.int .i64 o.vb)).setCell ⟨w.heap.size + 1 + 1 + 1, 5, none⟩ (.int .i64 o.u)).setCell ⟨w.heap.size + 1 + 1 + 1, 6, none⟩ (.int .i64 o.s)).setCell ⟨w.heap.size + 1 + 1 + 1, 7, none⟩ (.int .i64 o.k)).setCell ⟨w.heap.size + 1 + 1 + 1, 8, none⟩ (.int .i64 o.h)).setCell ⟨w.heap.size + 1 + 1 + 1, 9, none⟩ (.int .i64 o.n)).setCell ⟨w.heap.size + 1 + 1 + 1, 10, none⟩ (.string o.t)).setCell ⟨w.heap.size + 1 + 1 + 1, 11, none⟩ (.int .i64 o.q)).setCell ⟨w.heap.size + 1 + 1 + 1, 12, none⟩ (.slice A8 o.xs.length c8)) = V := hV
  have fz := Z9.free
  obtain ⟨n0, n1, n2, n3, n4, n5, n6, n7, n8, n9, n10, n11, n12⟩ := id X9.rb
  obtain ⟨z0, z1, z2, z3, z4, z5, z6, z7, z8, z9, z10, z11, z12⟩ := id Z9.rb
  have hq9 := B0.size
  have fin := Lib.hid (And.intro (Z9.put o A8 c8).rb (And.intro ((F9.put (B := w.heap.size + 1 + 1) z0lt o A8 c8).mono (D' := w.heap.size) hq9) (below_put B9 (B := w.heap.size + 1 + 1) (by omega) o A8 c8)))
  clear HV S0 S0' X0 P0 Z0 X3 B0 hs hs' hl hl' x3lt z0lt X8 Z8 B8 X9 Z9 B9 F9 f2 b2 hV hq9
  go_wp2
  exact bodyPost_ret (run_res_does (B := w.heap.size + 1 + 1) rfl rfl fin.out.1) rfl ⟨A8, c8, rfl, fin.out.2.1, fin.out.2.2⟩

set_option maxHeartbeats 4000000 in
theorem does_1 (r : Rd) (p : Sd) (A A' : Option Addr) (c c' : Nat) (w : World) (hs : At.Sl w w.heap.size .i64 A r.xs) (hs' : At.Sl w w.heap.size .i64 A' p.xs) (hl : r.xs.length ≤ 1000) (hl' : p.xs.length ≤ 1000) (h0 : (p.g == 0) = false) (h1 : (p.g == 1) = true) : Calls Tryd.prog 8 #[rv r A c, sv p A' c'] w (VotePost w (vt r 1 p.x p.y p.u p.s p.k p.h p.n p.t p.q p.xs) (!rf r 1 p.x p.y)) := by
  have HV : ∀ W, At.Sl W W.heap.size .i64 A r.xs → At.Sl W W.heap.size .i64 A' p.xs → Hid (Calls Tryd.prog 15 #[rv r A c, bv p.x p.y, cv p.u p.s p.k p.h p.n p.t, av p.q A' p.xs.length c'] W (VotePost W (vt r 1 p.x p.y p.u p.s p.k p.h p.n p.t p.q p.xs) (!rf r 1 p.x p.y))) := fun W g g' => preaccept_any r A A' c c' p.x p.y p.u p.s p.k p.h p.n p.t p.q p.xs W g g' hl hl'
  have X0 : Rx ((((w.alloc (.cells (rcs r A c) 30)).alloc (.cells (scs p A' c') 32)).alloc (.cells #[.int .i64 0, .int .i64 0, .int .i64 0, .int .i64 0, .int .i64 0, .int .i64 0, .int .i64 0, .int .i64 0, .int .i64 0, .int .i64 0, .string ⟨#[]⟩, .int .i64 0, .slice none 0 0] 30)).alloc (.cells (rcs r A c) 30)) (w.heap.size) r A c := by
    have h0 := rx_new w r A c
    exact (((h0.old _).old _).old _)
  have P0 : Sb ((((w.alloc (.cells (rcs r A c) 30)).alloc (.cells (scs p A' c') 32)).alloc (.cells #[.int .i64 0, .int .i64 0, .int .i64 0, .int .i64 0, .int .i64 0, .int .i64 0, .int .i64 0, .int .i64 0, .int .i64 0, .int .i64 0, .string ⟨#[]⟩, .int .i64 0, .slice none 0 0] 30)).alloc (.cells (rcs r A c) 30)) (w.heap.size + 1) p A' c' := by
    have h0 := sb_new (w.alloc (.cells (rcs r A c) 30)) p A' c'
    rw [show (w.alloc (.cells (rcs r A c) 30)).heap.size = w.heap.size + 1 by simp] at h0
    exact ((h0.old _).old _)
  have Z0 : Rx ((((w.alloc (.cells (rcs r A c) 30)).alloc (.cells (scs p A' c') 32)).alloc (.cells #[.int .i64 0, .int .i64 0, .int .i64 0, .int .i64 0, .int .i64 0, .int .i64 0, .int .i64 0, .int .i64 0, .int .i64 0, .int .i64 0, .string ⟨#[]⟩, .int .i64 0, .slice none 0 0] 30)).alloc (.cells (rcs r A c) 30)) (w.heap.size + 1 + 1) ⟨0, 0, 0, 0, 0, 0, 0, 0, 0, 0, ⟨#[]⟩, 0, []⟩ none 0 := by
    have h0 := zero_box ((w.alloc (.cells (rcs r A c) 30)).alloc (.cells (scs p A' c') 32)) 
    rw [show ((w.alloc (.cells (rcs r A c) 30)).alloc (.cells (scs p A' c') 32)).heap.size = w.heap.size + 1 + 1 by simp] at h0
    exact (h0.old _)
  have X3 : Rx ((((w.alloc (.cells (rcs r A c) 30)).alloc (.cells (scs p A' c') 32)).alloc (.cells #[.int .i64 0, .int .i64 0, .int .i64 0, .int .i64 0, .int .i64 0, .int .i64 0, .int .i64 0, .int .i64 0, .int .i64 0, .int .i64 0, .string ⟨#[]⟩, .int .i64 0, .slice none 0 0] 30)).alloc (.cells (rcs r A c) 30)) (w.heap.size + 1 + 1 + 1) r A c := by
    have h0 := rx_new (((w.alloc (.cells (rcs r A c) 30)).alloc (.cells (scs p A' c') 32)).alloc (.cells #[.int .i64 0, .int .i64 0, .int .i64 0, .int .i64 0, .int .i64 0, .int .i64 0, .int .i64 0, .int .i64 0, .int .i64 0, .int .i64 0, .string ⟨#[]⟩, .int .i64 0, .slice none 0 0] 30)) r A c
    rw [show (((w.alloc (.cells (rcs r A c) 30)).alloc (.cells (scs p A' c') 32)).alloc (.cells #[.int .i64 0, .int .i64 0, .int .i64 0, .int .i64 0, .int .i64 0, .int .i64 0, .int .i64 0, .int .i64 0, .int .i64 0, .int .i64 0, .string ⟨#[]⟩, .int .i64 0, .slice none 0 0] 30)).heap.size = w.heap.size + 1 + 1 + 1 by simp] at h0
    exact h0
  have B0 : Below w.heap.size w ((((w.alloc (.cells (rcs r A c) 30)).alloc (.cells (scs p A' c') 32)).alloc (.cells #[.int .i64 0, .int .i64 0, .int .i64 0, .int .i64 0, .int .i64 0, .int .i64 0, .int .i64 0, .int .i64 0, .int .i64 0, .int .i64 0, .string ⟨#[]⟩, .int .i64 0, .slice none 0 0] 30)).alloc (.cells (rcs r A c) 30)) := (((((Below.refl _ _).alloc (Nat.le_refl _) _).alloc (by first | (simp; done) | (simp; omega)) _).alloc (by first | (simp; done) | (simp; omega)) _).alloc (by first | (simp; done) | (simp; omega)) _)
  have S0 := hs.to B0 B0.size
  have S0' := hs'.to B0 B0.size
  generalize vt r 1 p.x p.y p.u p.s p.k p.h p.n p.t p.q p.xs = o at *
  generalize (!rf r 1 p.x p.y) = L at *
  go_enter Tryd.func8, Tryd.ntmps8
  go_wp2_with fail
  generalize ((((w.alloc (.cells (rcs r A c) 30)).alloc (.cells (scs p A' c') 32)).alloc (.cells #[.int .i64 0, .int .i64 0, .int .i64 0, .int .i64 0, .int .i64 0, .int .i64 0, .int .i64 0, .int .i64 0, .int .i64 0, .int .i64 0, .string ⟨#[]⟩, .int .i64 0, .slice none 0 0] 30)).alloc (.cells (rcs r A c) 30)) = W0 at *
  refine (HV _ S0 S0').out.mono ?_
  rintro e w2 ⟨A8, c8, rfl, f2, b2⟩
  have x3lt := X3.lt
  have z0lt := Z0.lt
  have X8 := X3.on b2 X3.lt
  have Z8 := Z0.on b2 Z0.lt
  have B8 := B0.trans (b2.mono B0.size)
  have fx := X8.free
  obtain ⟨p0, p1, p2, p3, p4, p5, p6, p7, p8, p9, p10, p11, p12⟩ := id X8.rb
  have X9 := X8.put o A8 c8
  have Z9 := Z8.past (B := w.heap.size + 1 + 1 + 1) (by omega) o A8 c8
  have B9 := below_put B8 (B := w.heap.size + 1 + 1 + 1) (by omega) o A8 c8
  have F9 := f2.put (B := w.heap.size + 1 + 1 + 1) x3lt o A8 c8
  obtain ⟨V, hV⟩ : ∃ V, In.put w2 (w.heap.size + 1 + 1 + 1) o A8 c8 = V := ⟨_, rfl⟩
  rw [hV] at X9 Z9 B9 F9
  have hV' : (((((((((((((w2.setCell ⟨w.heap.size + 1 + 1 + 1, 0, none⟩ (.int .i64 o.st)).setCell ⟨w.heap.size + 1 + 1 + 1, 1, none⟩ (.int .i64 o.pn)).setCell ⟨w.heap.size + 1 + 1 + 1, 2, none⟩ (.int .i64 o.pb)).setCell ⟨w.heap.size + 1 + 1 + 1, 3, none⟩ (.int .i64 o.vn)).setCell ⟨w.heap.size + 1 + 1 + 1, 4, none⟩ (.int .i64 o.vb)).setCell ⟨w.heap.size + 1 + 1 + 1, 5, none⟩ (.int .i64 o.u)).setCell ⟨w.heap.size + 1 + 1 + 1, 6, none⟩ (.int .i64 o.s)).setCell ⟨w.heap.size + 1 + 1 + 1, 7, none⟩ (.int .i64 o.k)).setCell ⟨w.heap.size + 1 + 1 + 1, 8, none⟩ (.int .i64 o.h)).setCell ⟨w.heap.size + 1 + 1 + 1, 9, none⟩ (.int .i64 o.n)).setCell ⟨w.heap.size + 1 + 1 + 1, 10, none⟩ (.string o.t)).setCell ⟨w.heap.size + 1 + 1 + 1, 11, none⟩ (.int .i64 o.q)).setCell ⟨w.heap.size + 1 + 1 + 1, 12, none⟩ (.slice A8 o.xs.length c8)) = V := hV
  have fz := Z9.free
  obtain ⟨n0, n1, n2, n3, n4, n5, n6, n7, n8, n9, n10, n11, n12⟩ := id X9.rb
  obtain ⟨z0, z1, z2, z3, z4, z5, z6, z7, z8, z9, z10, z11, z12⟩ := id Z9.rb
  have hq9 := B0.size
  have fin := Lib.hid (And.intro (Z9.put o A8 c8).rb (And.intro ((F9.put (B := w.heap.size + 1 + 1) z0lt o A8 c8).mono (D' := w.heap.size) hq9) (below_put B9 (B := w.heap.size + 1 + 1) (by omega) o A8 c8)))
  clear HV S0 S0' X0 P0 Z0 X3 B0 hs hs' hl hl' x3lt z0lt X8 Z8 B8 X9 Z9 B9 F9 f2 b2 hV hq9
  go_wp2
  exact bodyPost_ret (run_res_does (B := w.heap.size + 1 + 1) rfl rfl fin.out.1) rfl ⟨A8, c8, rfl, fin.out.2.1, fin.out.2.2⟩

set_option maxHeartbeats 4000000 in
theorem does_2 (r : Rd) (p : Sd) (A A' : Option Addr) (c c' : Nat) (w : World) (hs : At.Sl w w.heap.size .i64 A r.xs) (hs' : At.Sl w w.heap.size .i64 A' p.xs) (hl : r.xs.length ≤ 1000) (hl' : p.xs.length ≤ 1000) (h0 : (p.g == 0) = false) (h1 : (p.g == 1) = false) (h2 : (p.g == 2) = true) : Calls Tryd.prog 8 #[rv r A c, sv p A' c'] w (VotePost w (vt r 2 p.x p.y p.u p.s p.k p.h p.n p.t p.q p.xs) (!rf r 2 p.x p.y)) := by
  have HV : ∀ W, At.Sl W W.heap.size .i64 A r.xs → At.Sl W W.heap.size .i64 A' p.xs → Hid (Calls Tryd.prog 16 #[rv r A c, bv p.x p.y, cv p.u p.s p.k p.h p.n p.t, av p.q A' p.xs.length c'] W (VotePost W (vt r 2 p.x p.y p.u p.s p.k p.h p.n p.t p.q p.xs) (!rf r 2 p.x p.y))) := fun W g g' => accept_any r A A' c c' p.x p.y p.u p.s p.k p.h p.n p.t p.q p.xs W g g' hl hl'
  have X0 : Rx ((((w.alloc (.cells (rcs r A c) 30)).alloc (.cells (scs p A' c') 32)).alloc (.cells #[.int .i64 0, .int .i64 0, .int .i64 0, .int .i64 0, .int .i64 0, .int .i64 0, .int .i64 0, .int .i64 0, .int .i64 0, .int .i64 0, .string ⟨#[]⟩, .int .i64 0, .slice none 0 0] 30)).alloc (.cells (rcs r A c) 30)) (w.heap.size) r A c := by
    have h0 := rx_new w r A c
    exact (((h0.old _).old _).old _)
  have P0 : Sb ((((w.alloc (.cells (rcs r A c) 30)).alloc (.cells (scs p A' c') 32)).alloc (.cells #[.int .i64 0, .int .i64 0, .int .i64 0, .int .i64 0, .int .i64 0, .int .i64 0, .int .i64 0, .int .i64 0, .int .i64 0, .int .i64 0, .string ⟨#[]⟩, .int .i64 0, .slice none 0 0] 30)).alloc (.cells (rcs r A c) 30)) (w.heap.size + 1) p A' c' := by
    have h0 := sb_new (w.alloc (.cells (rcs r A c) 30)) p A' c'
    rw [show (w.alloc (.cells (rcs r A c) 30)).heap.size = w.heap.size + 1 by simp] at h0
    exact ((h0.old _).old _)
  have Z0 : Rx ((((w.alloc (.cells (rcs r A c) 30)).alloc (.cells (scs p A' c') 32)).alloc (.cells #[.int .i64 0, .int .i64 0, .int .i64 0, .int .i64 0, .int .i64 0, .int .i64 0, .int .i64 0, .int .i64 0, .int .i64 0, .int .i64 0, .string ⟨#[]⟩, .int .i64 0, .slice none 0 0] 30)).alloc (.cells (rcs r A c) 30)) (w.heap.size + 1 + 1) ⟨0, 0, 0, 0, 0, 0, 0, 0, 0, 0, ⟨#[]⟩, 0, []⟩ none 0 := by
    have h0 := zero_box ((w.alloc (.cells (rcs r A c) 30)).alloc (.cells (scs p A' c') 32)) 
    rw [show ((w.alloc (.cells (rcs r A c) 30)).alloc (.cells (scs p A' c') 32)).heap.size = w.heap.size + 1 + 1 by simp] at h0
    exact (h0.old _)
  have X3 : Rx ((((w.alloc (.cells (rcs r A c) 30)).alloc (.cells (scs p A' c') 32)).alloc (.cells #[.int .i64 0, .int .i64 0, .int .i64 0, .int .i64 0, .int .i64 0, .int .i64 0, .int .i64 0, .int .i64 0, .int .i64 0, .int .i64 0, .string ⟨#[]⟩, .int .i64 0, .slice none 0 0] 30)).alloc (.cells (rcs r A c) 30)) (w.heap.size + 1 + 1 + 1) r A c := by
    have h0 := rx_new (((w.alloc (.cells (rcs r A c) 30)).alloc (.cells (scs p A' c') 32)).alloc (.cells #[.int .i64 0, .int .i64 0, .int .i64 0, .int .i64 0, .int .i64 0, .int .i64 0, .int .i64 0, .int .i64 0, .int .i64 0, .int .i64 0, .string ⟨#[]⟩, .int .i64 0, .slice none 0 0] 30)) r A c
    rw [show (((w.alloc (.cells (rcs r A c) 30)).alloc (.cells (scs p A' c') 32)).alloc (.cells #[.int .i64 0, .int .i64 0, .int .i64 0, .int .i64 0, .int .i64 0, .int .i64 0, .int .i64 0, .int .i64 0, .int .i64 0, .int .i64 0, .string ⟨#[]⟩, .int .i64 0, .slice none 0 0] 30)).heap.size = w.heap.size + 1 + 1 + 1 by simp] at h0
    exact h0
  have B0 : Below w.heap.size w ((((w.alloc (.cells (rcs r A c) 30)).alloc (.cells (scs p A' c') 32)).alloc (.cells #[.int .i64 0, .int .i64 0, .int .i64 0, .int .i64 0, .int .i64 0, .int .i64 0, .int .i64 0, .int .i64 0, .int .i64 0, .int .i64 0, .string ⟨#[]⟩, .int .i64 0, .slice none 0 0] 30)).alloc (.cells (rcs r A c) 30)) := (((((Below.refl _ _).alloc (Nat.le_refl _) _).alloc (by first | (simp; done) | (simp; omega)) _).alloc (by first | (simp; done) | (simp; omega)) _).alloc (by first | (simp; done) | (simp; omega)) _)
  have S0 := hs.to B0 B0.size
  have S0' := hs'.to B0 B0.size
  generalize vt r 2 p.x p.y p.u p.s p.k p.h p.n p.t p.q p.xs = o at *
  generalize (!rf r 2 p.x p.y) = L at *
  go_enter Tryd.func8, Tryd.ntmps8
  go_wp2_with fail
  generalize ((((w.alloc (.cells (rcs r A c) 30)).alloc (.cells (scs p A' c') 32)).alloc (.cells #[.int .i64 0, .int .i64 0, .int .i64 0, .int .i64 0, .int .i64 0, .int .i64 0, .int .i64 0, .int .i64 0, .int .i64 0, .int .i64 0, .string ⟨#[]⟩, .int .i64 0, .slice none 0 0] 30)).alloc (.cells (rcs r A c) 30)) = W0 at *
  refine (HV _ S0 S0').out.mono ?_
  rintro e w2 ⟨A8, c8, rfl, f2, b2⟩
  have x3lt := X3.lt
  have z0lt := Z0.lt
  have X8 := X3.on b2 X3.lt
  have Z8 := Z0.on b2 Z0.lt
  have B8 := B0.trans (b2.mono B0.size)
  have fx := X8.free
  obtain ⟨p0, p1, p2, p3, p4, p5, p6, p7, p8, p9, p10, p11, p12⟩ := id X8.rb
  have X9 := X8.put o A8 c8
  have Z9 := Z8.past (B := w.heap.size + 1 + 1 + 1) (by omega) o A8 c8
  have B9 := below_put B8 (B := w.heap.size + 1 + 1 + 1) (by omega) o A8 c8
  have F9 := f2.put (B := w.heap.size + 1 + 1 + 1) x3lt o A8 c8
  obtain ⟨V, hV⟩ : ∃ V, In.put w2 (w.heap.size + 1 + 1 + 1) o A8 c8 = V := ⟨_, rfl⟩
  rw [hV] at X9 Z9 B9 F9
  have hV' : (((((((((((((w2.setCell ⟨w.heap.size + 1 + 1 + 1, 0, none⟩ (.int .i64 o.st)).setCell ⟨w.heap.size + 1 + 1 + 1, 1, none⟩ (.int .i64 o.pn)).setCell ⟨w.heap.size + 1 + 1 + 1, 2, none⟩ (.int .i64 o.pb)).setCell ⟨w.heap.size + 1 + 1 + 1, 3, none⟩ (.int .i64 o.vn)).setCell ⟨w.heap.size + 1 + 1 + 1, 4, none⟩ (.int .i64 o.vb)).setCell ⟨w.heap.size + 1 + 1 + 1, 5, none⟩ (.int .i64 o.u)).setCell ⟨w.heap.size + 1 + 1 + 1, 6, none⟩ (.int .i64 o.s)).setCell ⟨w.heap.size + 1 + 1 + 1, 7, none⟩ (.int .i64 o.k)).setCell ⟨w.heap.size + 1 + 1 + 1, 8, none⟩ (.int .i64 o.h)).setCell ⟨w.heap.size + 1 + 1 + 1, 9, none⟩ (.int .i64 o.n)).setCell ⟨w.heap.size + 1 + 1 + 1, 10, none⟩ (.string o.t)).setCell ⟨w.heap.size + 1 + 1 + 1, 11, none⟩ (.int .i64 o.q)).setCell ⟨w.heap.size + 1 + 1 + 1, 12, none⟩ (.slice A8 o.xs.length c8)) = V := hV
  have fz := Z9.free
  obtain ⟨n0, n1, n2, n3, n4, n5, n6, n7, n8, n9, n10, n11, n12⟩ := id X9.rb
  obtain ⟨z0, z1, z2, z3, z4, z5, z6, z7, z8, z9, z10, z11, z12⟩ := id Z9.rb
  have hq9 := B0.size
  have fin := Lib.hid (And.intro (Z9.put o A8 c8).rb (And.intro ((F9.put (B := w.heap.size + 1 + 1) z0lt o A8 c8).mono (D' := w.heap.size) hq9) (below_put B9 (B := w.heap.size + 1 + 1) (by omega) o A8 c8)))
  clear HV S0 S0' X0 P0 Z0 X3 B0 hs hs' hl hl' x3lt z0lt X8 Z8 B8 X9 Z9 B9 F9 f2 b2 hV hq9
  go_wp2
  exact bodyPost_ret (run_res_does (B := w.heap.size + 1 + 1) rfl rfl fin.out.1) rfl ⟨A8, c8, rfl, fin.out.2.1, fin.out.2.2⟩

set_option maxHeartbeats 4000000 in
theorem does_3 (r : Rd) (p : Sd) (A A' : Option Addr) (c c' : Nat) (w : World) (hs : At.Sl w w.heap.size .i64 A r.xs) (hs' : At.Sl w w.heap.size .i64 A' p.xs) (hl : r.xs.length ≤ 1000) (hl' : p.xs.length ≤ 1000) (h0 : (p.g == 0) = false) (h1 : (p.g == 1) = false) (h2 : (p.g == 2) = false) : Calls Tryd.prog 8 #[rv r A c, sv p A' c'] w (VotePost w (co r p.u p.s p.k p.h p.n p.t p.q p.xs) (true)) := by
  have HV : ∀ W, At.Sl W W.heap.size .i64 A r.xs → At.Sl W W.heap.size .i64 A' p.xs → Hid (Calls Tryd.prog 17 #[rv r A c, cv p.u p.s p.k p.h p.n p.t, av p.q A' p.xs.length c'] W (RecPost W (co r p.u p.s p.k p.h p.n p.t p.q p.xs))) := fun W g g' => commit_any r A A' c c' p.u p.s p.k p.h p.n p.t p.q p.xs W g g' hl hl'
  have X0 : Rx ((((w.alloc (.cells (rcs r A c) 30)).alloc (.cells (scs p A' c') 32)).alloc (.cells #[.int .i64 0, .int .i64 0, .int .i64 0, .int .i64 0, .int .i64 0, .int .i64 0, .int .i64 0, .int .i64 0, .int .i64 0, .int .i64 0, .string ⟨#[]⟩, .int .i64 0, .slice none 0 0] 30)).alloc (.cells (rcs r A c) 30)) (w.heap.size) r A c := by
    have h0 := rx_new w r A c
    exact (((h0.old _).old _).old _)
  have P0 : Sb ((((w.alloc (.cells (rcs r A c) 30)).alloc (.cells (scs p A' c') 32)).alloc (.cells #[.int .i64 0, .int .i64 0, .int .i64 0, .int .i64 0, .int .i64 0, .int .i64 0, .int .i64 0, .int .i64 0, .int .i64 0, .int .i64 0, .string ⟨#[]⟩, .int .i64 0, .slice none 0 0] 30)).alloc (.cells (rcs r A c) 30)) (w.heap.size + 1) p A' c' := by
    have h0 := sb_new (w.alloc (.cells (rcs r A c) 30)) p A' c'
    rw [show (w.alloc (.cells (rcs r A c) 30)).heap.size = w.heap.size + 1 by simp] at h0
    exact ((h0.old _).old _)
  have Z0 : Rx ((((w.alloc (.cells (rcs r A c) 30)).alloc (.cells (scs p A' c') 32)).alloc (.cells #[.int .i64 0, .int .i64 0, .int .i64 0, .int .i64 0, .int .i64 0, .int .i64 0, .int .i64 0, .int .i64 0, .int .i64 0, .int .i64 0, .string ⟨#[]⟩, .int .i64 0, .slice none 0 0] 30)).alloc (.cells (rcs r A c) 30)) (w.heap.size + 1 + 1) ⟨0, 0, 0, 0, 0, 0, 0, 0, 0, 0, ⟨#[]⟩, 0, []⟩ none 0 := by
    have h0 := zero_box ((w.alloc (.cells (rcs r A c) 30)).alloc (.cells (scs p A' c') 32)) 
    rw [show ((w.alloc (.cells (rcs r A c) 30)).alloc (.cells (scs p A' c') 32)).heap.size = w.heap.size + 1 + 1 by simp] at h0
    exact (h0.old _)
  have X3 : Rx ((((w.alloc (.cells (rcs r A c) 30)).alloc (.cells (scs p A' c') 32)).alloc (.cells #[.int .i64 0, .int .i64 0, .int .i64 0, .int .i64 0, .int .i64 0, .int .i64 0, .int .i64 0, .int .i64 0, .int .i64 0, .int .i64 0, .string ⟨#[]⟩, .int .i64 0, .slice none 0 0] 30)).alloc (.cells (rcs r A c) 30)) (w.heap.size + 1 + 1 + 1) r A c := by
    have h0 := rx_new (((w.alloc (.cells (rcs r A c) 30)).alloc (.cells (scs p A' c') 32)).alloc (.cells #[.int .i64 0, .int .i64 0, .int .i64 0, .int .i64 0, .int .i64 0, .int .i64 0, .int .i64 0, .int .i64 0, .int .i64 0, .int .i64 0, .string ⟨#[]⟩, .int .i64 0, .slice none 0 0] 30)) r A c
    rw [show (((w.alloc (.cells (rcs r A c) 30)).alloc (.cells (scs p A' c') 32)).alloc (.cells #[.int .i64 0, .int .i64 0, .int .i64 0, .int .i64 0, .int .i64 0, .int .i64 0, .int .i64 0, .int .i64 0, .int .i64 0, .int .i64 0, .string ⟨#[]⟩, .int .i64 0, .slice none 0 0] 30)).heap.size = w.heap.size + 1 + 1 + 1 by simp] at h0
    exact h0
  have B0 : Below w.heap.size w ((((w.alloc (.cells (rcs r A c) 30)).alloc (.cells (scs p A' c') 32)).alloc (.cells #[.int .i64 0, .int .i64 0, .int .i64 0, .int .i64 0, .int .i64 0, .int .i64 0, .int .i64 0, .int .i64 0, .int .i64 0, .int .i64 0, .string ⟨#[]⟩, .int .i64 0, .slice none 0 0] 30)).alloc (.cells (rcs r A c) 30)) := (((((Below.refl _ _).alloc (Nat.le_refl _) _).alloc (by first | (simp; done) | (simp; omega)) _).alloc (by first | (simp; done) | (simp; omega)) _).alloc (by first | (simp; done) | (simp; omega)) _)
  have S0 := hs.to B0 B0.size
  have S0' := hs'.to B0 B0.size
  generalize co r p.u p.s p.k p.h p.n p.t p.q p.xs = o at *
  go_enter Tryd.func8, Tryd.ntmps8
  go_wp2_with fail
  generalize ((((w.alloc (.cells (rcs r A c) 30)).alloc (.cells (scs p A' c') 32)).alloc (.cells #[.int .i64 0, .int .i64 0, .int .i64 0, .int .i64 0, .int .i64 0, .int .i64 0, .int .i64 0, .int .i64 0, .int .i64 0, .int .i64 0, .string ⟨#[]⟩, .int .i64 0, .slice none 0 0] 30)).alloc (.cells (rcs r A c) 30)) = W0 at *
  refine (HV _ S0 S0').out.mono ?_
  rintro e w2 ⟨A8, c8, rfl, f2, b2⟩
  have x3lt := X3.lt
  have z0lt := Z0.lt
  have X8 := X3.on b2 X3.lt
  have Z8 := Z0.on b2 Z0.lt
  have B8 := B0.trans (b2.mono B0.size)
  have fx := X8.free
  obtain ⟨p0, p1, p2, p3, p4, p5, p6, p7, p8, p9, p10, p11, p12⟩ := id X8.rb
  have X9 := X8.put o A8 c8
  have Z9 := Z8.past (B := w.heap.size + 1 + 1 + 1) (by omega) o A8 c8
  have B9 := below_put B8 (B := w.heap.size + 1 + 1 + 1) (by omega) o A8 c8
  have F9 := f2.put (B := w.heap.size + 1 + 1 + 1) x3lt o A8 c8
  obtain ⟨V, hV⟩ : ∃ V, In.put w2 (w.heap.size + 1 + 1 + 1) o A8 c8 = V := ⟨_, rfl⟩
  rw [hV] at X9 Z9 B9 F9
  have hV' : (((((((((((((w2.setCell ⟨w.heap.size + 1 + 1 + 1, 0, none⟩ (.int .i64 o.st)).setCell ⟨w.heap.size + 1 + 1 + 1, 1, none⟩ (.int .i64 o.pn)).setCell ⟨w.heap.size + 1 + 1 + 1, 2, none⟩ (.int .i64 o.pb)).setCell ⟨w.heap.size + 1 + 1 + 1, 3, none⟩ (.int .i64 o.vn)).setCell ⟨w.heap.size + 1 + 1 + 1, 4, none⟩ (.int .i64 o.vb)).setCell ⟨w.heap.size + 1 + 1 + 1, 5, none⟩ (.int .i64 o.u)).setCell ⟨w.heap.size + 1 + 1 + 1, 6, none⟩ (.int .i64 o.s)).setCell ⟨w.heap.size + 1 + 1 + 1, 7, none⟩ (.int .i64 o.k)).setCell ⟨w.heap.size + 1 + 1 + 1, 8, none⟩ (.int .i64 o.h)).setCell ⟨w.heap.size + 1 + 1 + 1, 9, none⟩ (.int .i64 o.n)).setCell ⟨w.heap.size + 1 + 1 + 1, 10, none⟩ (.string o.t)).setCell ⟨w.heap.size + 1 + 1 + 1, 11, none⟩ (.int .i64 o.q)).setCell ⟨w.heap.size + 1 + 1 + 1, 12, none⟩ (.slice A8 o.xs.length c8)) = V := hV
  have fz := Z9.free
  obtain ⟨n0, n1, n2, n3, n4, n5, n6, n7, n8, n9, n10, n11, n12⟩ := id X9.rb
  obtain ⟨z0, z1, z2, z3, z4, z5, z6, z7, z8, z9, z10, z11, z12⟩ := id Z9.rb
  have hq9 := B0.size
  have fin := Lib.hid (And.intro (Z9.put o A8 c8).rb (And.intro ((F9.put (B := w.heap.size + 1 + 1) z0lt o A8 c8).mono (D' := w.heap.size) hq9) (below_put B9 (B := w.heap.size + 1 + 1) (by omega) o A8 c8)))
  clear HV S0 S0' X0 P0 Z0 X3 B0 hs hs' hl hl' x3lt z0lt X8 Z8 B8 X9 Z9 B9 F9 f2 b2 hV hq9
  go_wp2
  exact bodyPost_ret (run_res_does (B := w.heap.size + 1 + 1) rfl rfl fin.out.1) rfl ⟨A8, c8, rfl, fin.out.2.1, fin.out.2.2⟩

theorem does_any (r : Rd) (p : Sd) (A A' : Option Addr) (c c' : Nat) (w : World) (hs : At.Sl w w.heap.size .i64 A r.xs) (hs' : At.Sl w w.heap.size .i64 A' p.xs) (hl : r.xs.length ≤ 1000) (hl' : p.xs.length ≤ 1000) : Calls Tryd.prog 8 #[rv r A c, sv p A' c'] w (VotePost w (ds r p) (db r p)) := by
  rcases h0 : (p.g == 0) with _ | _
  · rcases h1 : (p.g == 1) with _ | _
    · rcases h2 : (p.g == 2) with _ | _
      · rw [ds, db, h0, h1, h2]; exact does_3 r p A A' c c' w hs hs' hl hl' h0 h1 h2
      · rw [ds, db, h0, h1, h2]; exact does_2 r p A A' c c' w hs hs' hl hl' h0 h1 h2
    · rw [ds, db, h0, h1]; exact does_1 r p A A' c c' w hs hs' hl hl' h0 h1
  · rw [ds, db, h0]; exact does_0 r p A A' c c' w hs hs' hl hl' h0

/-- At most 50 deps, and a text of at most 1000 bytes. -/
def fw (r : Rd) : Bool := decide ((r.xs.length : Int) ≤ 50) && decide ((r.t.size : Int) ≤ 1000)
theorem few9_any (r : Rd) (A : Option Addr) (c : Nat) (w : World) : Calls Tryd.prog 6 #[rv r A c] w (BoolPost w (fw r)) := by
  have X0 : Rx (w.alloc (.cells (rcs r A c) 30)) (w.heap.size) r A c := by
    have h0 := rx_new w r A c
    exact h0
  have B0 : Below w.heap.size w (w.alloc (.cells (rcs r A c) 30)) := ((Below.refl _ _).alloc (Nat.le_refl _) _)
  obtain ⟨p0, p1, p2, p3, p4, p5, p6, p7, p8, p9, p10, p11, p12⟩ := id X0.rb
  unfold fw
  by_cases h : (r.xs.length : Int) ≤ 50
  · rw [decide_eq_true h]
    go_enter Tryd.func6, Tryd.ntmps6
    go_wp2
    go_ret
    exact ⟨rfl, B0⟩
  · rw [decide_eq_false h]
    go_enter Tryd.func6, Tryd.ntmps6
    go_wp2
    go_ret
    exact ⟨rfl, B0⟩

end Go.Proofs.YtdeaaeejkpghaaaDoor.In
