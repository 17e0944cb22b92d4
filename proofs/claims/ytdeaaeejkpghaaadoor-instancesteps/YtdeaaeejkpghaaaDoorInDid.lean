/-
  The walks of did (the document's steps) and of the document's Same. Conditions: at most 1000 deps.
-/
import Derived.Test.YtdeaaeejkpghaaaDoorInRst
import Derived.Test.YtdeaaeejkpghaaaDoorAtRwi
namespace Go.Proofs.YtdeaaeejkpghaaaDoor.In
open Go.RowKit
set_option linter.unusedVariables false
attribute [local go_sem ↓ high] Ba.eq23 Ba.guard23 Ba.neq23 Ba.guard23n eqc guardc


theorem run_res_did {V : World} {tm : Array Value} {B : Nat} {r : Rd} {A : Option Addr} {c : Nat} {b : Bool} (h2 : tm[4]?.getD undef = .pointer (some ⟨B, 0, none⟩)) (h3 : tm[5]?.getD undef = .bool b) (hb : Rb V B r A c) :
    (results Tryd.f9 tm).run Tryd.prog V = .ok (.tuple #[rv r A c, .bool b]) V := by
  obtain ⟨c0, c1, c2, c3, c4, c5, c6, c7, c8, c9, c10, c11, c12⟩ := hb
  simp [results, Tryd.results9, h2, h3, go_sem, c0, c1, c2, c3, c4, c5, c6, c7, c8, c9, c10, c11, c12]

set_option maxHeartbeats 4000000 in
theorem did_0 (r : Rd) (p : Sd) (A A' : Option Addr) (c c' : Nat) (w : World) (h0 : (p.g == 0) = true) : Calls Tryd.prog 9 #[rv r A c, sv p A' c'] w (DidPost w A r.xs A' p.xs (pm r p.x p.y) (!rf r 0 p.x p.y)) := by
  have HV : ∀ W, Hid (Calls Tryd.prog 18 #[rv r A c, bv p.x p.y] W (DidPost W A r.xs A' p.xs (pm r p.x p.y) (!rf r 0 p.x p.y))) := fun W => rpromise_any r A c p.x p.y A' p.xs W
  have X0 : Rx ((((w.alloc (.cells (rcs r A c) 30)).alloc (.cells (scs p A' c') 32)).alloc (.cells #[.int .i64 0, .int .i64 0, .int .i64 0, .int .i64 0, .int .i64 0, .int .i64 0, .int .i64 0, .int .i64 0, .int .i64 0, .int .i64 0, .string ⟨#[]⟩, .int .i64 0, .slice none 0 0] 30)).alloc (.cells (rcs r A c) 30)) (w.heap.size) r A c := by
    have h0 := rx_new w r A c
    exact (((h0.old _).old _).old _)
  have P0 : Sb ((((w.alloc (.cells (rcs r A c) 30)).alloc (.cells (scs p A' c') 32)).alloc (.cells #[.int .i64 0, .int .i64 0, .int .i64 0, .int .i64 0, .int .i64 0, .int .i64 0, .int .i64 0, .int .i64 0, .int .i64 0, .int .i64 0, .string ⟨#[]⟩, .int .i64 0, .slice none 0 0] 30)).alloc (.cells (rcs r A c) 30)) (w.heap.size + 1) p A' c' := by
    have h0 := sb_new (w.alloc (.cells (rcs r A c) 30)) p A' c'
    rw [show (w.alloc (.cells (rcs r A c) 30)).heap.size = w.heap.size + 1 by simp] at h0
    exact ((h0.old _).old _)
  have Z0 : Rx ((((w.alloc (.cells (rcs r A c) 30)).alloc (.cells (scs p A' c') 32)).alloc (.cells #[.int .i64 0, .int .i64 0, .int .i64 0, .int .i64 0, .int .i64 0, .int .i64 0, .int .i64 0, .int .i64 0, .int .i64 0, .int .i64 0, .string ⟨#[]⟩, .int .i64 0, .slice none 0 0] 30)).alloc (.cells (rcs r A c) 30)) (w.heap.size + 1 + 1) ⟨0, 0, 0, 0, 0, 0, 0, 0, 0, 0, ⟨#[]⟩, 0, []⟩ none 0 := by
    have h0 := zero_box ((w.alloc (.cells (rcs r A c) 30)).alloc (.cells (scs p A' c') 32)) 
    rw [show ((w.alloc (.cells (rcs r A c) 30)).alloc (.cells (scs p A' c') 32)).heap.size = w.heap.size + 1 + 1 by simp] at h0
    exact (h0.old _)
  have X3 : Rx ((((w.alloc (.cells (rcs r A c) 30)).alloc (.cells (scs p A' c') 32)).alloc (.cells #[.int .i64 0, .int .i64 0, .int .i64 0, .int .i64 0, .int .i64 0, .int .i64 0, .int .i64 0, .int .i64 0, .int .i64 0, .int .i64 0, .string ⟨#[]⟩, .int .i64 0, .slice none 0 0] 30)).alloc (.cells (rcs r A c) 30)) (w.heap.size + 1 + 1 + 1) r A c := by
    have h0 := rx_new (((w.alloc (.cells (rcs r A c) 30)).alloc (.cells (scs p A' c') 32)).alloc (.cells #[.int .i64 0, .int .i64 0, .int .i64 0, .int .i64 0, .int .i64 0, .int .i64 0, .int .i64 0, .int .i64 0, .int .i64 0, .int .i64 0, .string ⟨#[]⟩, .int .i64 0, .slice none 0 0] 30)) r A c
    rw [show (((w.alloc (.cells (rcs r A c) 30)).alloc (.cells (scs p A' c') 32)).alloc (.cells #[.int .i64 0, .int .i64 0, .int .i64 0, .int .i64 0, .int .i64 0, .int .i64 0, .int .i64 0, .int .i64 0, .int .i64 0, .int .i64 0, .string ⟨#[]⟩, .int .i64 0, .slice none 0 0] 30)).heap.size = w.heap.size + 1 + 1 + 1 by simp] at h0
    exact h0
  have B0 : Below w.heap.size w ((((w.alloc (.cells (rcs r A c) 30)).alloc (.cells (scs p A' c') 32)).alloc (.cells #[.int .i64 0, .int .i64 0, .int .i64 0, .int .i64 0, .int .i64 0, .int .i64 0, .int .i64 0, .int .i64 0, .int .i64 0, .int .i64 0, .string ⟨#[]⟩, .int .i64 0, .slice none 0 0] 30)).alloc (.cells (rcs r A c) 30)) := (((((Below.refl _ _).alloc (Nat.le_refl _) _).alloc (by first | (simp; done) | (simp; omega)) _).alloc (by first | (simp; done) | (simp; omega)) _).alloc (by first | (simp; done) | (simp; omega)) _)
  generalize pm r p.x p.y = o at *
  generalize (!rf r 0 p.x p.y) = L at *
  go_enter Tryd.func9, Tryd.ntmps9
  go_wp2_with fail
  generalize ((((w.alloc (.cells (rcs r A c) 30)).alloc (.cells (scs p A' c') 32)).alloc (.cells #[.int .i64 0, .int .i64 0, .int .i64 0, .int .i64 0, .int .i64 0, .int .i64 0, .int .i64 0, .int .i64 0, .int .i64 0, .int .i64 0, .string ⟨#[]⟩, .int .i64 0, .slice none 0 0] 30)).alloc (.cells (rcs r A c) 30)) = W0 at *
  refine (HV _).out.mono ?_
  rintro e w2 ⟨A8, c8, rfl, g2, b2⟩
  have g2 := Lib.hid g2
  have x3lt := X3.lt
  have z0lt := Z0.lt
  have X8 := X3.on b2 X3.lt
  have Z8 := Z0.on b2 Z0.lt
  have B8 := B0.trans (b2.mono B0.size)
  have fx := X8.free
  obtain ⟨p0, p1, p2, p3, p4, p5, p6, p7, p8, p9, p10, p11, p12⟩ := id X8.rb
  have X9 := X8.put o A8 c8
  have Z9 := Z8.past (B := w.heap.size + 1 + 1 + 1) (by omega) o A8 c8
  have B9 := below_put B8 (B := w.heap.size + 1 + 1 + 1) (by omega) o A8 c8
  obtain ⟨V, hV⟩ : ∃ V, In.put w2 (w.heap.size + 1 + 1 + 1) o A8 c8 = V := ⟨_, rfl⟩
  rw [hV] at X9 Z9 B9
  have hV' : (((((((((((((w2.setCell ⟨w.heap.size + 1 + 1 + 1, 0, none⟩ (.int .i64 o.st)).setCell ⟨w.heap.size + 1 + 1 + 1, 1, none⟩ (.int .i64 o.pn)).setCell ⟨w.heap.size + 1 + 1 + 1, 2, none⟩ (.int .i64 o.pb)).setCell ⟨w.heap.size + 1 + 1 + 1, 3, none⟩ (.int .i64 o.vn)).setCell ⟨w.heap.size + 1 + 1 + 1, 4, none⟩ (.int .i64 o.vb)).setCell ⟨w.heap.size + 1 + 1 + 1, 5, none⟩ (.int .i64 o.u)).setCell ⟨w.heap.size + 1 + 1 + 1, 6, none⟩ (.int .i64 o.s)).setCell ⟨w.heap.size + 1 + 1 + 1, 7, none⟩ (.int .i64 o.k)).setCell ⟨w.heap.size + 1 + 1 + 1, 8, none⟩ (.int .i64 o.h)).setCell ⟨w.heap.size + 1 + 1 + 1, 9, none⟩ (.int .i64 o.n)).setCell ⟨w.heap.size + 1 + 1 + 1, 10, none⟩ (.string o.t)).setCell ⟨w.heap.size + 1 + 1 + 1, 11, none⟩ (.int .i64 o.q)).setCell ⟨w.heap.size + 1 + 1 + 1, 12, none⟩ (.slice A8 o.xs.length c8)) = V := hV
  have fz := Z9.free
  obtain ⟨n0, n1, n2, n3, n4, n5, n6, n7, n8, n9, n10, n11, n12⟩ := id X9.rb
  obtain ⟨z0, z1, z2, z3, z4, z5, z6, z7, z8, z9, z10, z11, z12⟩ := id Z9.rb
  have fin := Lib.hid (And.intro (Z9.put o A8 c8).rb (below_put B9 (B := w.heap.size + 1 + 1) (by omega) o A8 c8))
  clear HV X0 P0 Z0 X3 B0 x3lt z0lt X8 Z8 B8 X9 Z9 B9 b2 hV
  go_wp2
  exact bodyPost_ret (run_res_did (B := w.heap.size + 1 + 1) rfl rfl fin.out.1) rfl ⟨A8, c8, rfl, g2.out, fin.out.2⟩

set_option maxHeartbeats 4000000 in
theorem did_1 (r : Rd) (p : Sd) (A A' : Option Addr) (c c' : Nat) (w : World) (h0 : (p.g == 0) = false) (h1 : (p.g == 1) = true) : Calls Tryd.prog 9 #[rv r A c, sv p A' c'] w (DidPost w A r.xs A' p.xs (vt r 1 p.x p.y p.u p.s p.k p.h p.n p.t p.q p.xs) (!rf r 1 p.x p.y)) := by
  have HV : ∀ W, Hid (Calls Tryd.prog 19 #[rv r A c, bv p.x p.y, cv p.u p.s p.k p.h p.n p.t, av p.q A' p.xs.length c'] W (DidPost W A r.xs A' p.xs (vt r 1 p.x p.y p.u p.s p.k p.h p.n p.t p.q p.xs) (!rf r 1 p.x p.y))) := fun W => rpreaccept_any r A A' c c' p.x p.y p.u p.s p.k p.h p.n p.t p.q p.xs W
  have X0 : Rx ((((w.alloc (.cells (rcs r A c) 30)).alloc (.cells (scs p A' c') 32)).alloc (.cells #[.int .i64 0, .int .i64 0, .int .i64 0, .int .i64 0, .int .i64 0, .int .i64 0, .int .i64 0, .int .i64 0, .int .i64 0, .int .i64 0, .string ⟨#[]⟩, .int .i64 0, .slice none 0 0] 30)).alloc (.cells (rcs r A c) 30)) (w.heap.size) r A c := by
    have h0 := rx_new w r A c
    exact (((h0.old _).old _).old _)
  have P0 : Sb ((((w.alloc (.cells (rcs r A c) 30)).alloc (.cells (scs p A' c') 32)).alloc (.cells #[.int .i64 0, .int .i64 0, .int .i64 0, .int .i64 0, .int .i64 0, .int .i64 0, .int .i64 0, .int .i64 0, .int .i64 0, .int .i64 0, .string ⟨#[]⟩, .int .i64 0, .slice none 0 0] 30)).alloc (.cells (rcs r A c) 30)) (w.heap.size + 1) p A' c' := by
    have h0 := sb_new (w.alloc (.cells (rcs r A c) 30)) p A' c'
    rw [show (w.alloc (.cells (rcs r A c) 30)).heap.size = w.heap.size + 1 by simp] at h0
    exact ((h0.old _).old _)
  have Z0 : Rx ((((w.alloc (.cells (rcs r A c) 30)).alloc (.cells (scs p A' c') 32)).alloc (.cells #[.int .i64 0, .int .i64 0, .int .i64 0, .int .i64 0, .int .i64 0, .int .i64 0, .int .i64 0, .int .i64 0, .int .i64 0, .int .i64 0, .string ⟨#[]⟩, .int .i64 0, .slice none 0 0] 30)).alloc (.cells (rcs r A c) 30)) (w.heap.size + 1 + 1) ⟨0, 0, 0, 0, 0, 0, 0, 0, 0, 0, ⟨#[]⟩, 0, []⟩ none 0 := by
    have h0 := zero_box ((w.alloc (.cells (rcs r A c) 30)).alloc (.cells (scs p A' c') 32)) 
    rw [show ((w.alloc (.cells (rcs r A c) 30)).alloc (.cells (scs p A' c') 32)).heap.size = w.heap.size + 1 + 1 by simp] at h0
    exact (h0.old _)
  have X3 : Rx ((((w.alloc (.cells (rcs r A c) 30)).alloc (.cells (scs p A' c') 32)).alloc (.cells #[.int .i64 0, .int .i64 0, .int .i64 0, .int .i64 0, .int .i64 0, .int .i64 0, .int .i64 0, .int .i64 0, .int .i64 0, .int .i64 0, .string ⟨#[]⟩, .int .i64 0, .slice none 0 0] 30)).alloc (.cells (rcs r A c) 30)) (w.heap.size + 1 + 1 + 1) r A c := by
    have h0 := rx_new (((w.alloc (.cells (rcs r A c) 30)).alloc (.cells (scs p A' c') 32)).alloc (.cells #[.int .i64 0, .int .i64 0, .int .i64 0, .int .i64 0, .int .i64 0, .int .i64 0, .int .i64 0, .int .i64 0, .int .i64 0, .int .i64 0, .string ⟨#[]⟩, .int .i64 0, .slice none 0 0] 30)) r A c
    rw [show (((w.alloc (.cells (rcs r A c) 30)).alloc (.cells (scs p A' c') 32)).alloc (.cells #[.int .i64 0, .int .i64 0, .int .i64 0, .int .i64 0, .int .i64 0, .int .i64 0, .int .i64 0, .int .i64 0, .int .i64 0, .int .i64 0, .string ⟨#[]⟩, .int .i64 0, .slice none 0 0] 30)).heap.size = w.heap.size + 1 + 1 + 1 by simp] at h0
    exact h0
  have B0 : Below w.heap.size w ((((w.alloc (.cells (rcs r A c) 30)).alloc (.cells (scs p A' c') 32)).alloc (.cells #[.int .i64 0, .int .i64 0, .int .i64 0, .int .i64 0, .int .i64 0, .int .i64 0, .int .i64 0, .int .i64 0, .int .i64 0, .int .i64 0, .string ⟨#[]⟩, .int .i64 0, .slice none 0 0] 30)).alloc (.cells (rcs r A c) 30)) := (((((Below.refl _ _).alloc (Nat.le_refl _) _).alloc (by first | (simp; done) | (simp; omega)) _).alloc (by first | (simp; done) | (simp; omega)) _).alloc (by first | (simp; done) | (simp; omega)) _)
  generalize vt r 1 p.x p.y p.u p.s p.k p.h p.n p.t p.q p.xs = o at *
  generalize (!rf r 1 p.x p.y) = L at *
  go_enter Tryd.func9, Tryd.ntmps9
  go_wp2_with fail
  generalize ((((w.alloc (.cells (rcs r A c) 30)).alloc (.cells (scs p A' c') 32)).alloc (.cells #[.int .i64 0, .int .i64 0, .int .i64 0, .int .i64 0, .int .i64 0, .int .i64 0, .int .i64 0, .int .i64 0, .int .i64 0, .int .i64 0, .string ⟨#[]⟩, .int .i64 0, .slice none 0 0] 30)).alloc (.cells (rcs r A c) 30)) = W0 at *
  refine (HV _).out.mono ?_
  rintro e w2 ⟨A8, c8, rfl, g2, b2⟩
  have g2 := Lib.hid g2
  have x3lt := X3.lt
  have z0lt := Z0.lt
  have X8 := X3.on b2 X3.lt
  have Z8 := Z0.on b2 Z0.lt
  have B8 := B0.trans (b2.mono B0.size)
  have fx := X8.free
  obtain ⟨p0, p1, p2, p3, p4, p5, p6, p7, p8, p9, p10, p11, p12⟩ := id X8.rb
  have X9 := X8.put o A8 c8
  have Z9 := Z8.past (B := w.heap.size + 1 + 1 + 1) (by omega) o A8 c8
  have B9 := below_put B8 (B := w.heap.size + 1 + 1 + 1) (by omega) o A8 c8
  obtain ⟨V, hV⟩ : ∃ V, In.put w2 (w.heap.size + 1 + 1 + 1) o A8 c8 = V := ⟨_, rfl⟩
  rw [hV] at X9 Z9 B9
  have hV' : (((((((((((((w2.setCell ⟨w.heap.size + 1 + 1 + 1, 0, none⟩ (.int .i64 o.st)).setCell ⟨w.heap.size + 1 + 1 + 1, 1, none⟩ (.int .i64 o.pn)).setCell ⟨w.heap.size + 1 + 1 + 1, 2, none⟩ (.int .i64 o.pb)).setCell ⟨w.heap.size + 1 + 1 + 1, 3, none⟩ (.int .i64 o.vn)).setCell ⟨w.heap.size + 1 + 1 + 1, 4, none⟩ (.int .i64 o.vb)).setCell ⟨w.heap.size + 1 + 1 + 1, 5, none⟩ (.int .i64 o.u)).setCell ⟨w.heap.size + 1 + 1 + 1, 6, none⟩ (.int .i64 o.s)).setCell ⟨w.heap.size + 1 + 1 + 1, 7, none⟩ (.int .i64 o.k)).setCell ⟨w.heap.size + 1 + 1 + 1, 8, none⟩ (.int .i64 o.h)).setCell ⟨w.heap.size + 1 + 1 + 1, 9, none⟩ (.int .i64 o.n)).setCell ⟨w.heap.size + 1 + 1 + 1, 10, none⟩ (.string o.t)).setCell ⟨w.heap.size + 1 + 1 + 1, 11, none⟩ (.int .i64 o.q)).setCell ⟨w.heap.size + 1 + 1 + 1, 12, none⟩ (.slice A8 o.xs.length c8)) = V := hV
  have fz := Z9.free
  obtain ⟨n0, n1, n2, n3, n4, n5, n6, n7, n8, n9, n10, n11, n12⟩ := id X9.rb
  obtain ⟨z0, z1, z2, z3, z4, z5, z6, z7, z8, z9, z10, z11, z12⟩ := id Z9.rb
  have fin := Lib.hid (And.intro (Z9.put o A8 c8).rb (below_put B9 (B := w.heap.size + 1 + 1) (by omega) o A8 c8))
  clear HV X0 P0 Z0 X3 B0 x3lt z0lt X8 Z8 B8 X9 Z9 B9 b2 hV
  go_wp2
  exact bodyPost_ret (run_res_did (B := w.heap.size + 1 + 1) rfl rfl fin.out.1) rfl ⟨A8, c8, rfl, g2.out, fin.out.2⟩

set_option maxHeartbeats 4000000 in
theorem did_2 (r : Rd) (p : Sd) (A A' : Option Addr) (c c' : Nat) (w : World) (h0 : (p.g == 0) = false) (h1 : (p.g == 1) = false) (h2 : (p.g == 2) = true) : Calls Tryd.prog 9 #[rv r A c, sv p A' c'] w (DidPost w A r.xs A' p.xs (vt r 2 p.x p.y p.u p.s p.k p.h p.n p.t p.q p.xs) (!rf r 2 p.x p.y)) := by
  have HV : ∀ W, Hid (Calls Tryd.prog 20 #[rv r A c, bv p.x p.y, cv p.u p.s p.k p.h p.n p.t, av p.q A' p.xs.length c'] W (DidPost W A r.xs A' p.xs (vt r 2 p.x p.y p.u p.s p.k p.h p.n p.t p.q p.xs) (!rf r 2 p.x p.y))) := fun W => raccept_any r A A' c c' p.x p.y p.u p.s p.k p.h p.n p.t p.q p.xs W
  have X0 : Rx ((((w.alloc (.cells (rcs r A c) 30)).alloc (.cells (scs p A' c') 32)).alloc (.cells #[.int .i64 0, .int .i64 0, .int .i64 0, .int .i64 0, .int .i64 0, .int .i64 0, .int .i64 0, .int .i64 0, .int .i64 0, .int .i64 0, .string ⟨#[]⟩, .int .i64 0, .slice none 0 0] 30)).alloc (.cells (rcs r A c) 30)) (w.heap.size) r A c := by
    have h0 := rx_new w r A c
    exact (((h0.old _).old _).old _)
  have P0 : Sb ((((w.alloc (.cells (rcs r A c) 30)).alloc (.cells (scs p A' c') 32)).alloc (.cells #[.int .i64 0, .int .i64 0, .int .i64 0, .int .i64 0, .int .i64 0, .int .i64 0, .int .i64 0, .int .i64 0, .int .i64 0, .int .i64 0, .string ⟨#[]⟩, .int .i64 0, .slice none 0 0] 30)).alloc (.cells (rcs r A c) 30)) (w.heap.size + 1) p A' c' := by
    have h0 := sb_new (w.alloc (.cells (rcs r A c) 30)) p A' c'
    rw [show (w.alloc (.cells (rcs r A c) 30)).heap.size = w.heap.size + 1 by simp] at h0
    exact ((h0.old _).old _)
  have Z0 : Rx ((((w.alloc (.cells (rcs r A c) 30)).alloc (.cells (scs p A' c') 32)).alloc (.cells #[.int .i64 0, .int .i64 0, .int .i64 0, .int .i64 0, .int .i64 0, .int .i64 0, .int .i64 0, .int .i64 0, .int .i64 0, .int .i64 0, .string ⟨#[]⟩, .int .i64 0, .slice none 0 0] 30)).alloc (.cells (rcs r A c) 30)) (w.heap.size + 1 + 1) ⟨0, 0, 0, 0, 0, 0, 0, 0, 0, 0, ⟨#[]⟩, 0, []⟩ none 0 := by
    have h0 := zero_box ((w.alloc (.cells (rcs r A c) 30)).alloc (.cells (scs p A' c') 32)) 
    rw [show ((w.alloc (.cells (rcs r A c) 30)).alloc (.cells (scs p A' c') 32)).heap.size = w.heap.size + 1 + 1 by simp] at h0
    exact (h0.old _)
  have X3 : Rx ((((w.alloc (.cells (rcs r A c) 30)).alloc (.cells (scs p A' c') 32)).alloc (.cells #[.int .i64 0, .int .i64 0, .int .i64 0, .int .i64 0, .int .i64 0, .int .i64 0, .int .i64 0, .int .i64 0, .int .i64 0, .int .i64 0, .string ⟨#[]⟩, .int .i64 0, .slice none 0 0] 30)).alloc (.cells (rcs r A c) 30)) (w.heap.size + 1 + 1 + 1) r A c := by
    have h0 := rx_new (((w.alloc (.cells (rcs r A c) 30)).alloc (.cells (scs p A' c') 32)).alloc (.cells #[.int .i64 0, .int .i64 0, .int .i64 0, .int .i64 0, .int .i64 0, .int .i64 0, .int .i64 0, .int .i64 0, .int .i64 0, .int .i64 0, .string ⟨#[]⟩, .int .i64 0, .slice none 0 0] 30)) r A c
    rw [show (((w.alloc (.cells (rcs r A c) 30)).alloc (.cells (scs p A' c') 32)).alloc (.cells #[.int .i64 0, .int .i64 0, .int .i64 0, .int .i64 0, .int .i64 0, .int .i64 0, .int .i64 0, .int .i64 0, .int .i64 0, .int .i64 0, .string ⟨#[]⟩, .int .i64 0, .slice none 0 0] 30)).heap.size = w.heap.size + 1 + 1 + 1 by simp] at h0
    exact h0
  have B0 : Below w.heap.size w ((((w.alloc (.cells (rcs r A c) 30)).alloc (.cells (scs p A' c') 32)).alloc (.cells #[.int .i64 0, .int .i64 0, .int .i64 0, .int .i64 0, .int .i64 0, .int .i64 0, .int .i64 0, .int .i64 0, .int .i64 0, .int .i64 0, .string ⟨#[]⟩, .int .i64 0, .slice none 0 0] 30)).alloc (.cells (rcs r A c) 30)) := (((((Below.refl _ _).alloc (Nat.le_refl _) _).alloc (by first | (simp; done) | (simp; omega)) _).alloc (by first | (simp; done) | (simp; omega)) _).alloc (by first | (simp; done) | (simp; omega)) _)
  generalize vt r 2 p.x p.y p.u p.s p.k p.h p.n p.t p.q p.xs = o at *
  generalize (!rf r 2 p.x p.y) = L at *
  go_enter Tryd.func9, Tryd.ntmps9
  go_wp2_with fail
  generalize ((((w.alloc (.cells (rcs r A c) 30)).alloc (.cells (scs p A' c') 32)).alloc (.cells #[.int .i64 0, .int .i64 0, .int .i64 0, .int .i64 0, .int .i64 0, .int .i64 0, .int .i64 0, .int .i64 0, .int .i64 0, .int .i64 0, .string ⟨#[]⟩, .int .i64 0, .slice none 0 0] 30)).alloc (.cells (rcs r A c) 30)) = W0 at *
  refine (HV _).out.mono ?_
  rintro e w2 ⟨A8, c8, rfl, g2, b2⟩
  have g2 := Lib.hid g2
  have x3lt := X3.lt
  have z0lt := Z0.lt
  have X8 := X3.on b2 X3.lt
  have Z8 := Z0.on b2 Z0.lt
  have B8 := B0.trans (b2.mono B0.size)
  have fx := X8.free
  obtain ⟨p0, p1, p2, p3, p4, p5, p6, p7, p8, p9, p10, p11, p12⟩ := id X8.rb
  have X9 := X8.put o A8 c8
  have Z9 := Z8.past (B := w.heap.size + 1 + 1 + 1) (by omega) o A8 c8
  have B9 := below_put B8 (B := w.heap.size + 1 + 1 + 1) (by omega) o A8 c8
  obtain ⟨V, hV⟩ : ∃ V, In.put w2 (w.heap.size + 1 + 1 + 1) o A8 c8 = V := ⟨_, rfl⟩
  rw [hV] at X9 Z9 B9
  have hV' : (((((((((((((w2.setCell ⟨w.heap.size + 1 + 1 + 1, 0, none⟩ (.int .i64 o.st)).setCell ⟨w.heap.size + 1 + 1 + 1, 1, none⟩ (.int .i64 o.pn)).setCell ⟨w.heap.size + 1 + 1 + 1, 2, none⟩ (.int .i64 o.pb)).setCell ⟨w.heap.size + 1 + 1 + 1, 3, none⟩ (.int .i64 o.vn)).setCell ⟨w.heap.size + 1 + 1 + 1, 4, none⟩ (.int .i64 o.vb)).setCell ⟨w.heap.size + 1 + 1 + 1, 5, none⟩ (.int .i64 o.u)).setCell ⟨w.heap.size + 1 + 1 + 1, 6, none⟩ (.int .i64 o.s)).setCell ⟨w.heap.size + 1 + 1 + 1, 7, none⟩ (.int .i64 o.k)).setCell ⟨w.heap.size + 1 + 1 + 1, 8, none⟩ (.int .i64 o.h)).setCell ⟨w.heap.size + 1 + 1 + 1, 9, none⟩ (.int .i64 o.n)).setCell ⟨w.heap.size + 1 + 1 + 1, 10, none⟩ (.string o.t)).setCell ⟨w.heap.size + 1 + 1 + 1, 11, none⟩ (.int .i64 o.q)).setCell ⟨w.heap.size + 1 + 1 + 1, 12, none⟩ (.slice A8 o.xs.length c8)) = V := hV
  have fz := Z9.free
  obtain ⟨n0, n1, n2, n3, n4, n5, n6, n7, n8, n9, n10, n11, n12⟩ := id X9.rb
  obtain ⟨z0, z1, z2, z3, z4, z5, z6, z7, z8, z9, z10, z11, z12⟩ := id Z9.rb
  have fin := Lib.hid (And.intro (Z9.put o A8 c8).rb (below_put B9 (B := w.heap.size + 1 + 1) (by omega) o A8 c8))
  clear HV X0 P0 Z0 X3 B0 x3lt z0lt X8 Z8 B8 X9 Z9 B9 b2 hV
  go_wp2
  exact bodyPost_ret (run_res_did (B := w.heap.size + 1 + 1) rfl rfl fin.out.1) rfl ⟨A8, c8, rfl, g2.out, fin.out.2⟩

set_option maxHeartbeats 4000000 in
theorem did_3 (r : Rd) (p : Sd) (A A' : Option Addr) (c c' : Nat) (w : World) (h0 : (p.g == 0) = false) (h1 : (p.g == 1) = false) (h2 : (p.g == 2) = false) : Calls Tryd.prog 9 #[rv r A c, sv p A' c'] w (DidPost w A r.xs A' p.xs (co r p.u p.s p.k p.h p.n p.t p.q p.xs) (true)) := by
  have HV : ∀ W, Hid (Calls Tryd.prog 21 #[rv r A c, cv p.u p.s p.k p.h p.n p.t, av p.q A' p.xs.length c'] W (DidOne W A r.xs A' p.xs (co r p.u p.s p.k p.h p.n p.t p.q p.xs))) := fun W => rcommit_any r A A' c c' p.u p.s p.k p.h p.n p.t p.q p.xs W
  have X0 : Rx ((((w.alloc (.cells (rcs r A c) 30)).alloc (.cells (scs p A' c') 32)).alloc (.cells #[.int .i64 0, .int .i64 0, .int .i64 0, .int .i64 0, .int .i64 0, .int .i64 0, .int .i64 0, .int .i64 0, .int .i64 0, .int .i64 0, .string ⟨#[]⟩, .int .i64 0, .slice none 0 0] 30)).alloc (.cells (rcs r A c) 30)) (w.heap.size) r A c := by
    have h0 := rx_new w r A c
    exact (((h0.old _).old _).old _)
  have P0 : Sb ((((w.alloc (.cells (rcs r A c) 30)).alloc (.cells (scs p A' c') 32)).alloc (.cells #[.int .i64 0, .int .i64 0, .int .i64 0, .int .i64 0, .int .i64 0, .int .i64 0, .int .i64 0, .int .i64 0, .int .i64 0, .int .i64 0, .string ⟨#[]⟩, .int .i64 0, .slice none 0 0] 30)).alloc (.cells (rcs r A c) 30)) (w.heap.size + 1) p A' c' := by
    have h0 := sb_new (w.alloc (.cells (rcs r A c) 30)) p A' c'
    rw [show (w.alloc (.cells (rcs r A c) 30)).heap.size = w.heap.size + 1 by simp] at h0
    exact ((h0.old _).old _)
  have Z0 : Rx ((((w.alloc (.cells (rcs r A c) 30)).alloc (.cells (scs p A' c') 32)).alloc (.cells #[.int .i64 0, .int .i64 0, .int .i64 0, .int .i64 0, .int .i64 0, .int .i64 0, .int .i64 0, .int .i64 0, .int .i64 0, .int .i64 0, .string ⟨#[]⟩, .int .i64 0, .slice none 0 0] 30)).alloc (.cells (rcs r A c) 30)) (w.heap.size + 1 + 1) ⟨0, 0, 0, 0, 0, 0, 0, 0, 0, 0, ⟨#[]⟩, 0, []⟩ none 0 := by
    have h0 := zero_box ((w.alloc (.cells (rcs r A c) 30)).alloc (.cells (scs p A' c') 32)) 
    rw [show ((w.alloc (.cells (rcs r A c) 30)).alloc (.cells (scs p A' c') 32)).heap.size = w.heap.size + 1 + 1 by simp] at h0
    exact (h0.old _)
  have X3 : Rx ((((w.alloc (.cells (rcs r A c) 30)).alloc (.cells (scs p A' c') 32)).alloc (.cells #[.int .i64 0, .int .i64 0, .int .i64 0, .int .i64 0, .int .i64 0, .int .i64 0, .int .i64 0, .int .i64 0, .int .i64 0, .int .i64 0, .string ⟨#[]⟩, .int .i64 0, .slice none 0 0] 30)).alloc (.cells (rcs r A c) 30)) (w.heap.size + 1 + 1 + 1) r A c := by
    have h0 := rx_new (((w.alloc (.cells (rcs r A c) 30)).alloc (.cells (scs p A' c') 32)).alloc (.cells #[.int .i64 0, .int .i64 0, .int .i64 0, .int .i64 0, .int .i64 0, .int .i64 0, .int .i64 0, .int .i64 0, .int .i64 0, .int .i64 0, .string ⟨#[]⟩, .int .i64 0, .slice none 0 0] 30)) r A c
    rw [show (((w.alloc (.cells (rcs r A c) 30)).alloc (.cells (scs p A' c') 32)).alloc (.cells #[.int .i64 0, .int .i64 0, .int .i64 0, .int .i64 0, .int .i64 0, .int .i64 0, .int .i64 0, .int .i64 0, .int .i64 0, .int .i64 0, .string ⟨#[]⟩, .int .i64 0, .slice none 0 0] 30)).heap.size = w.heap.size + 1 + 1 + 1 by simp] at h0
    exact h0
  have B0 : Below w.heap.size w ((((w.alloc (.cells (rcs r A c) 30)).alloc (.cells (scs p A' c') 32)).alloc (.cells #[.int .i64 0, .int .i64 0, .int .i64 0, .int .i64 0, .int .i64 0, .int .i64 0, .int .i64 0, .int .i64 0, .int .i64 0, .int .i64 0, .string ⟨#[]⟩, .int .i64 0, .slice none 0 0] 30)).alloc (.cells (rcs r A c) 30)) := (((((Below.refl _ _).alloc (Nat.le_refl _) _).alloc (by first | (simp; done) | (simp; omega)) _).alloc (by first | (simp; done) | (simp; omega)) _).alloc (by first | (simp; done) | (simp; omega)) _)
  generalize co r p.u p.s p.k p.h p.n p.t p.q p.xs = o at *
  go_enter Tryd.func9, Tryd.ntmps9
  go_wp2_with fail
  generalize ((((w.alloc (.cells (rcs r A c) 30)).alloc (.cells (scs p A' c') 32)).alloc (.cells #[.int .i64 0, .int .i64 0, .int .i64 0, .int .i64 0, .int .i64 0, .int .i64 0, .int .i64 0, .int .i64 0, .int .i64 0, .int .i64 0, .string ⟨#[]⟩, .int .i64 0, .slice none 0 0] 30)).alloc (.cells (rcs r A c) 30)) = W0 at *
  refine (HV _).out.mono ?_
  rintro e w2 ⟨A8, c8, rfl, g2, b2⟩
  have g2 := Lib.hid g2
  have x3lt := X3.lt
  have z0lt := Z0.lt
  have X8 := X3.on b2 X3.lt
  have Z8 := Z0.on b2 Z0.lt
  have B8 := B0.trans (b2.mono B0.size)
  have fx := X8.free
  obtain ⟨p0, p1, p2, p3, p4, p5, p6, p7, p8, p9, p10, p11, p12⟩ := id X8.rb
  have X9 := X8.put o A8 c8
  have Z9 := Z8.past (B := w.heap.size + 1 + 1 + 1) (by omega) o A8 c8
  have B9 := below_put B8 (B := w.heap.size + 1 + 1 + 1) (by omega) o A8 c8
  obtain ⟨V, hV⟩ : ∃ V, In.put w2 (w.heap.size + 1 + 1 + 1) o A8 c8 = V := ⟨_, rfl⟩
  rw [hV] at X9 Z9 B9
  have hV' : (((((((((((((w2.setCell ⟨w.heap.size + 1 + 1 + 1, 0, none⟩ (.int .i64 o.st)).setCell ⟨w.heap.size + 1 + 1 + 1, 1, none⟩ (.int .i64 o.pn)).setCell ⟨w.heap.size + 1 + 1 + 1, 2, none⟩ (.int .i64 o.pb)).setCell ⟨w.heap.size + 1 + 1 + 1, 3, none⟩ (.int .i64 o.vn)).setCell ⟨w.heap.size + 1 + 1 + 1, 4, none⟩ (.int .i64 o.vb)).setCell ⟨w.heap.size + 1 + 1 + 1, 5, none⟩ (.int .i64 o.u)).setCell ⟨w.heap.size + 1 + 1 + 1, 6, none⟩ (.int .i64 o.s)).setCell ⟨w.heap.size + 1 + 1 + 1, 7, none⟩ (.int .i64 o.k)).setCell ⟨w.heap.size + 1 + 1 + 1, 8, none⟩ (.int .i64 o.h)).setCell ⟨w.heap.size + 1 + 1 + 1, 9, none⟩ (.int .i64 o.n)).setCell ⟨w.heap.size + 1 + 1 + 1, 10, none⟩ (.string o.t)).setCell ⟨w.heap.size + 1 + 1 + 1, 11, none⟩ (.int .i64 o.q)).setCell ⟨w.heap.size + 1 + 1 + 1, 12, none⟩ (.slice A8 o.xs.length c8)) = V := hV
  have fz := Z9.free
  obtain ⟨n0, n1, n2, n3, n4, n5, n6, n7, n8, n9, n10, n11, n12⟩ := id X9.rb
  obtain ⟨z0, z1, z2, z3, z4, z5, z6, z7, z8, z9, z10, z11, z12⟩ := id Z9.rb
  have fin := Lib.hid (And.intro (Z9.put o A8 c8).rb (below_put B9 (B := w.heap.size + 1 + 1) (by omega) o A8 c8))
  clear HV X0 P0 Z0 X3 B0 x3lt z0lt X8 Z8 B8 X9 Z9 B9 b2 hV
  go_wp2
  exact bodyPost_ret (run_res_did (B := w.heap.size + 1 + 1) rfl rfl fin.out.1) rfl ⟨A8, c8, rfl, g2.out, fin.out.2⟩

theorem did_any (r : Rd) (p : Sd) (A A' : Option Addr) (c c' : Nat) (w : World) : Calls Tryd.prog 9 #[rv r A c, sv p A' c'] w (DidPost w A r.xs A' p.xs (ds r p) (db r p)) := by
  rcases h0 : (p.g == 0) with _ | _
  · rcases h1 : (p.g == 1) with _ | _
    · rcases h2 : (p.g == 2) with _ | _
      · rw [ds, db, h0, h1, h2]; exact did_3 r p A A' c c' w h0 h1 h2
      · rw [ds, db, h0, h1, h2]; exact did_2 r p A A' c c' w h0 h1 h2
    · rw [ds, db, h0, h1]; exact did_1 r p A A' c c' w h0 h1
  · rw [ds, db, h0]; exact did_0 r p A A' c c' w h0

set_option maxHeartbeats 1000000 in
theorem rsame_0 (r o : Rd) (A A' : Option Addr) (c c' : Nat) (w : World) (hs : At.Sl w w.heap.size .i64 A r.xs) (hs' : At.Sl w w.heap.size .i64 A' o.xs) (hl : r.xs.length ≤ 1000) (hl' : o.xs.length ≤ 1000) (h0 : At.sa r.q r.xs o.q o.xs = false) : Calls Tryd.prog 10 #[rv r A c, rv o A' c'] w (BoolPost w (false)) := by
  have X0 : Rx ((w.alloc (.cells (rcs r A c) 30)).alloc (.cells (rcs o A' c') 30)) (w.heap.size) r A c := by
    have h0 := rx_new w r A c
    exact (h0.old _)
  have Y0 : Rx ((w.alloc (.cells (rcs r A c) 30)).alloc (.cells (rcs o A' c') 30)) (w.heap.size + 1) o A' c' := by
    have h0 := rx_new (w.alloc (.cells (rcs r A c) 30)) o A' c'
    rw [show (w.alloc (.cells (rcs r A c) 30)).heap.size = w.heap.size + 1 by simp] at h0
    exact h0
  have B0 : Below w.heap.size w ((w.alloc (.cells (rcs r A c) 30)).alloc (.cells (rcs o A' c') 30)) := (((Below.refl _ _).alloc (Nat.le_refl _) _).alloc (by first | (simp; done) | (simp; omega)) _)
  have HA : ∀ W, At.Sl W W.heap.size .i64 A r.xs → At.Sl W W.heap.size .i64 A' o.xs → Hid (Calls Tryd.prog 22 #[.agg #[.int .i64 r.q, .slice A r.xs.length c], .agg #[.int .i64 o.q, .slice A' o.xs.length c']] W (At.BoolPost W (At.sa r.q r.xs o.q o.xs))) := fun W g g' => At.rsame_any r.q o.q A A' c c' r.xs o.xs W g g' hl hl'
  have S0 := hs.to B0 B0.size
  have S0' := hs'.to B0 B0.size
  rw [h0] at HA
  clear h0
  go_enter Tryd.func10, Tryd.ntmps10
  go_wp2_with fail
  generalize ((w.alloc (.cells (rcs r A c) 30)).alloc (.cells (rcs o A' c') 30)) = W0 at *
  refine (HA _ S0 S0').out.mono ?_
  rintro e w2 ⟨rfl, b2⟩
  have B2 := B0.trans (b2.mono B0.size)
  obtain ⟨p0, p1, p2, p3, p4, p5, p6, p7, p8, p9, p10, p11, p12⟩ := (X0.on b2 X0.lt).rb
  obtain ⟨q0, q1, q2, q3, q4, q5, q6, q7, q8, q9, q10, q11, q12⟩ := (Y0.on b2 Y0.lt).rb
  clear HA S0 S0' B0 X0 Y0 b2 hs hs'
  go_wp2
  go_ret
  exact ⟨rfl, B2⟩

set_option maxHeartbeats 1000000 in
theorem rsame_1 (r o : Rd) (A A' : Option Addr) (c c' : Nat) (w : World) (hs : At.Sl w w.heap.size .i64 A r.xs) (hs' : At.Sl w w.heap.size .i64 A' o.xs) (hl : r.xs.length ≤ 1000) (hl' : o.xs.length ≤ 1000) (h0 : At.sa r.q r.xs o.q o.xs = true) (h1 : (r.st == o.st) = false) : Calls Tryd.prog 10 #[rv r A c, rv o A' c'] w (BoolPost w (false)) := by
  have X0 : Rx ((w.alloc (.cells (rcs r A c) 30)).alloc (.cells (rcs o A' c') 30)) (w.heap.size) r A c := by
    have h0 := rx_new w r A c
    exact (h0.old _)
  have Y0 : Rx ((w.alloc (.cells (rcs r A c) 30)).alloc (.cells (rcs o A' c') 30)) (w.heap.size + 1) o A' c' := by
    have h0 := rx_new (w.alloc (.cells (rcs r A c) 30)) o A' c'
    rw [show (w.alloc (.cells (rcs r A c) 30)).heap.size = w.heap.size + 1 by simp] at h0
    exact h0
  have B0 : Below w.heap.size w ((w.alloc (.cells (rcs r A c) 30)).alloc (.cells (rcs o A' c') 30)) := (((Below.refl _ _).alloc (Nat.le_refl _) _).alloc (by first | (simp; done) | (simp; omega)) _)
  have HA : ∀ W, At.Sl W W.heap.size .i64 A r.xs → At.Sl W W.heap.size .i64 A' o.xs → Hid (Calls Tryd.prog 22 #[.agg #[.int .i64 r.q, .slice A r.xs.length c], .agg #[.int .i64 o.q, .slice A' o.xs.length c']] W (At.BoolPost W (At.sa r.q r.xs o.q o.xs))) := fun W g g' => At.rsame_any r.q o.q A A' c c' r.xs o.xs W g g' hl hl'
  have S0 := hs.to B0 B0.size
  have S0' := hs'.to B0 B0.size
  rw [h0] at HA
  clear h0
  go_enter Tryd.func10, Tryd.ntmps10
  go_wp2_with fail
  generalize ((w.alloc (.cells (rcs r A c) 30)).alloc (.cells (rcs o A' c') 30)) = W0 at *
  refine (HA _ S0 S0').out.mono ?_
  rintro e w2 ⟨rfl, b2⟩
  have B2 := B0.trans (b2.mono B0.size)
  obtain ⟨p0, p1, p2, p3, p4, p5, p6, p7, p8, p9, p10, p11, p12⟩ := (X0.on b2 X0.lt).rb
  obtain ⟨q0, q1, q2, q3, q4, q5, q6, q7, q8, q9, q10, q11, q12⟩ := (Y0.on b2 Y0.lt).rb
  clear HA S0 S0' B0 X0 Y0 b2 hs hs'
  go_wp2
  go_ret
  exact ⟨rfl, B2⟩

set_option maxHeartbeats 1000000 in
theorem rsame_2 (r o : Rd) (A A' : Option Addr) (c c' : Nat) (w : World) (hs : At.Sl w w.heap.size .i64 A r.xs) (hs' : At.Sl w w.heap.size .i64 A' o.xs) (hl : r.xs.length ≤ 1000) (hl' : o.xs.length ≤ 1000) (h0 : At.sa r.q r.xs o.q o.xs = true) (h1 : (r.st == o.st) = true) (h2 : ((r.pn == o.pn) && (r.pb == o.pb)) = false) : Calls Tryd.prog 10 #[rv r A c, rv o A' c'] w (BoolPost w (false)) := by
  have X0 : Rx ((w.alloc (.cells (rcs r A c) 30)).alloc (.cells (rcs o A' c') 30)) (w.heap.size) r A c := by
    have h0 := rx_new w r A c
    exact (h0.old _)
  have Y0 : Rx ((w.alloc (.cells (rcs r A c) 30)).alloc (.cells (rcs o A' c') 30)) (w.heap.size + 1) o A' c' := by
    have h0 := rx_new (w.alloc (.cells (rcs r A c) 30)) o A' c'
    rw [show (w.alloc (.cells (rcs r A c) 30)).heap.size = w.heap.size + 1 by simp] at h0
    exact h0
  have B0 : Below w.heap.size w ((w.alloc (.cells (rcs r A c) 30)).alloc (.cells (rcs o A' c') 30)) := (((Below.refl _ _).alloc (Nat.le_refl _) _).alloc (by first | (simp; done) | (simp; omega)) _)
  have HA : ∀ W, At.Sl W W.heap.size .i64 A r.xs → At.Sl W W.heap.size .i64 A' o.xs → Hid (Calls Tryd.prog 22 #[.agg #[.int .i64 r.q, .slice A r.xs.length c], .agg #[.int .i64 o.q, .slice A' o.xs.length c']] W (At.BoolPost W (At.sa r.q r.xs o.q o.xs))) := fun W g g' => At.rsame_any r.q o.q A A' c c' r.xs o.xs W g g' hl hl'
  have S0 := hs.to B0 B0.size
  have S0' := hs'.to B0 B0.size
  rw [h0] at HA
  clear h0
  go_enter Tryd.func10, Tryd.ntmps10
  go_wp2_with fail
  generalize ((w.alloc (.cells (rcs r A c) 30)).alloc (.cells (rcs o A' c') 30)) = W0 at *
  refine (HA _ S0 S0').out.mono ?_
  rintro e w2 ⟨rfl, b2⟩
  have B2 := B0.trans (b2.mono B0.size)
  obtain ⟨p0, p1, p2, p3, p4, p5, p6, p7, p8, p9, p10, p11, p12⟩ := (X0.on b2 X0.lt).rb
  obtain ⟨q0, q1, q2, q3, q4, q5, q6, q7, q8, q9, q10, q11, q12⟩ := (Y0.on b2 Y0.lt).rb
  clear HA S0 S0' B0 X0 Y0 b2 hs hs'
  go_wp2
  go_ret
  exact ⟨rfl, B2⟩

set_option maxHeartbeats 1000000 in
theorem rsame_3 (r o : Rd) (A A' : Option Addr) (c c' : Nat) (w : World) (hs : At.Sl w w.heap.size .i64 A r.xs) (hs' : At.Sl w w.heap.size .i64 A' o.xs) (hl : r.xs.length ≤ 1000) (hl' : o.xs.length ≤ 1000) (h0 : At.sa r.q r.xs o.q o.xs = true) (h1 : (r.st == o.st) = true) (h2 : ((r.pn == o.pn) && (r.pb == o.pb)) = true) (h3 : ((r.vn == o.vn) && (r.vb == o.vb)) = false) : Calls Tryd.prog 10 #[rv r A c, rv o A' c'] w (BoolPost w (false)) := by
  have X0 : Rx ((w.alloc (.cells (rcs r A c) 30)).alloc (.cells (rcs o A' c') 30)) (w.heap.size) r A c := by
    have h0 := rx_new w r A c
    exact (h0.old _)
  have Y0 : Rx ((w.alloc (.cells (rcs r A c) 30)).alloc (.cells (rcs o A' c') 30)) (w.heap.size + 1) o A' c' := by
    have h0 := rx_new (w.alloc (.cells (rcs r A c) 30)) o A' c'
    rw [show (w.alloc (.cells (rcs r A c) 30)).heap.size = w.heap.size + 1 by simp] at h0
    exact h0
  have B0 : Below w.heap.size w ((w.alloc (.cells (rcs r A c) 30)).alloc (.cells (rcs o A' c') 30)) := (((Below.refl _ _).alloc (Nat.le_refl _) _).alloc (by first | (simp; done) | (simp; omega)) _)
  have HA : ∀ W, At.Sl W W.heap.size .i64 A r.xs → At.Sl W W.heap.size .i64 A' o.xs → Hid (Calls Tryd.prog 22 #[.agg #[.int .i64 r.q, .slice A r.xs.length c], .agg #[.int .i64 o.q, .slice A' o.xs.length c']] W (At.BoolPost W (At.sa r.q r.xs o.q o.xs))) := fun W g g' => At.rsame_any r.q o.q A A' c c' r.xs o.xs W g g' hl hl'
  have S0 := hs.to B0 B0.size
  have S0' := hs'.to B0 B0.size
  rw [h0] at HA
  clear h0
  go_enter Tryd.func10, Tryd.ntmps10
  go_wp2_with fail
  generalize ((w.alloc (.cells (rcs r A c) 30)).alloc (.cells (rcs o A' c') 30)) = W0 at *
  refine (HA _ S0 S0').out.mono ?_
  rintro e w2 ⟨rfl, b2⟩
  have B2 := B0.trans (b2.mono B0.size)
  obtain ⟨p0, p1, p2, p3, p4, p5, p6, p7, p8, p9, p10, p11, p12⟩ := (X0.on b2 X0.lt).rb
  obtain ⟨q0, q1, q2, q3, q4, q5, q6, q7, q8, q9, q10, q11, q12⟩ := (Y0.on b2 Y0.lt).rb
  clear HA S0 S0' B0 X0 Y0 b2 hs hs'
  go_wp2
  go_ret
  exact ⟨rfl, B2⟩

set_option maxHeartbeats 1000000 in
theorem rsame_4 (r o : Rd) (A A' : Option Addr) (c c' : Nat) (w : World) (hs : At.Sl w w.heap.size .i64 A r.xs) (hs' : At.Sl w w.heap.size .i64 A' o.xs) (hl : r.xs.length ≤ 1000) (hl' : o.xs.length ≤ 1000) (h0 : At.sa r.q r.xs o.q o.xs = true) (h1 : (r.st == o.st) = true) (h2 : ((r.pn == o.pn) && (r.pb == o.pb)) = true) (h3 : ((r.vn == o.vn) && (r.vb == o.vb)) = true) : Calls Tryd.prog 10 #[rv r A c, rv o A' c'] w (BoolPost w ((r.u == o.u) && (r.s == o.s) && (r.k == o.k) && (r.h == o.h) && (r.n == o.n) && decide (r.t = o.t))) := by
  have X0 : Rx ((w.alloc (.cells (rcs r A c) 30)).alloc (.cells (rcs o A' c') 30)) (w.heap.size) r A c := by
    have h0 := rx_new w r A c
    exact (h0.old _)
  have Y0 : Rx ((w.alloc (.cells (rcs r A c) 30)).alloc (.cells (rcs o A' c') 30)) (w.heap.size + 1) o A' c' := by
    have h0 := rx_new (w.alloc (.cells (rcs r A c) 30)) o A' c'
    rw [show (w.alloc (.cells (rcs r A c) 30)).heap.size = w.heap.size + 1 by simp] at h0
    exact h0
  have B0 : Below w.heap.size w ((w.alloc (.cells (rcs r A c) 30)).alloc (.cells (rcs o A' c') 30)) := (((Below.refl _ _).alloc (Nat.le_refl _) _).alloc (by first | (simp; done) | (simp; omega)) _)
  have HA : ∀ W, At.Sl W W.heap.size .i64 A r.xs → At.Sl W W.heap.size .i64 A' o.xs → Hid (Calls Tryd.prog 22 #[.agg #[.int .i64 r.q, .slice A r.xs.length c], .agg #[.int .i64 o.q, .slice A' o.xs.length c']] W (At.BoolPost W (At.sa r.q r.xs o.q o.xs))) := fun W g g' => At.rsame_any r.q o.q A A' c c' r.xs o.xs W g g' hl hl'
  have S0 := hs.to B0 B0.size
  have S0' := hs'.to B0 B0.size
  rw [h0] at HA
  clear h0
  go_enter Tryd.func10, Tryd.ntmps10
  go_wp2_with fail
  generalize ((w.alloc (.cells (rcs r A c) 30)).alloc (.cells (rcs o A' c') 30)) = W0 at *
  refine (HA _ S0 S0').out.mono ?_
  rintro e w2 ⟨rfl, b2⟩
  have B2 := B0.trans (b2.mono B0.size)
  obtain ⟨p0, p1, p2, p3, p4, p5, p6, p7, p8, p9, p10, p11, p12⟩ := (X0.on b2 X0.lt).rb
  obtain ⟨q0, q1, q2, q3, q4, q5, q6, q7, q8, q9, q10, q11, q12⟩ := (Y0.on b2 Y0.lt).rb
  clear HA S0 S0' B0 X0 Y0 b2 hs hs'
  go_wp2
  go_ret
  exact ⟨rfl, B2⟩

theorem rsame9_any (r o : Rd) (A A' : Option Addr) (c c' : Nat) (w : World) (hs : At.Sl w w.heap.size .i64 A r.xs) (hs' : At.Sl w w.heap.size .i64 A' o.xs) (hl : r.xs.length ≤ 1000) (hl' : o.xs.length ≤ 1000) : Calls Tryd.prog 10 #[rv r A c, rv o A' c'] w (BoolPost w (sm r o)) := by
  rcases h0 : At.sa r.q r.xs o.q o.xs with _ | _
  · have e : sm r o = false := by rw [sm, h0, Bool.and_false]
    rw [e]; exact rsame_0 r o A A' c c' w hs hs' hl hl' h0
  rcases h1 : (r.st == o.st) with _ | _
  · have e : sm r o = false := by rw [sm, h1]; rfl
    rw [e]; exact rsame_1 r o A A' c c' w hs hs' hl hl' h0 h1
  · rcases h2 : ((r.pn == o.pn) && (r.pb == o.pb)) with _ | _
    · have e : sm r o = false := by rw [sm, h1, h2]; rfl
      rw [e]; exact rsame_2 r o A A' c c' w hs hs' hl hl' h0 h1 h2
    · rcases h3 : ((r.vn == o.vn) && (r.vb == o.vb)) with _ | _
      · have e : sm r o = false := by rw [sm, h1, h2, h3]; rfl
        rw [e]; exact rsame_3 r o A A' c c' w hs hs' hl hl' h0 h1 h2 h3
      · have e : sm r o = ce r o := by rw [sm, h0, h1, h2, h3, Bool.and_true]; rfl
        rw [e]; exact rsame_4 r o A A' c c' w hs hs' hl hl' h0 h1 h2 h3

end Go.Proofs.YtdeaaeejkpghaaaDoor.In
