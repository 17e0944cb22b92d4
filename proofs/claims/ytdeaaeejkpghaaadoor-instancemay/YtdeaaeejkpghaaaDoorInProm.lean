/-
  The walks of Promise, PreAccept and Accept. Conditions: at most 1000 deps.
-/
import Derived.Test.YtdeaaeejkpghaaaDoorInVote
namespace Go.Proofs.YtdeaaeejkpghaaaDoor.In
open Go.RowKit
set_option linter.unusedVariables false
attribute [local go_sem ↓ high] Ba.eq23 Ba.guard23 Ba.neq23 Ba.guard23n eqc guardc

/-- What a promise makes of what is known. -/
def pm (r : Rd) (x y : Int) : Rd := if rf r 0 x y = true then r else ⟨r.st, x, y, r.vn, r.vb, r.u, r.s, r.k, r.h, r.n, r.t, r.q, r.xs⟩
theorem Rx.prom {w : World} {B : Nat} {r : Rd} {A : Option Addr} {c : Nat} (h : Rx w B r A c) (x y : Int) : Rx ((w.setCell ⟨B, 1, none⟩ (.int .i64 x)).setCell ⟨B, 2, none⟩ (.int .i64 y)) B ⟨r.st, x, y, r.vn, r.vb, r.u, r.s, r.k, r.h, r.n, r.t, r.q, r.xs⟩ A c := by
  have h0 : R13 w B (.int .i64 r.st) (.int .i64 r.pn) (.int .i64 r.pb) (.int .i64 r.vn) (.int .i64 r.vb) (.int .i64 r.u) (.int .i64 r.s) (.int .i64 r.k) (.int .i64 r.h) (.int .i64 r.n) (.string r.t) (.int .i64 r.q) (.slice A r.xs.length c) := h
  exact (h0.set1 (.int .i64 x)).set2 (.int .i64 y)

theorem run_res_Promise {V : World} {tm : Array Value} {B : Nat} {r : Rd} {A : Option Addr} {c : Nat} {b : Bool} (h2 : tm[4]?.getD undef = .pointer (some ⟨B, 0, none⟩)) (h3 : tm[5]?.getD undef = .bool b) (hb : Rb V B r A c) :
    (results Tryd.f14 tm).run Tryd.prog V = .ok (.tuple #[rv r A c, .bool b]) V := by
  obtain ⟨c0, c1, c2, c3, c4, c5, c6, c7, c8, c9, c10, c11, c12⟩ := hb
  simp [results, Tryd.results14, h2, h3, go_sem, c0, c1, c2, c3, c4, c5, c6, c7, c8, c9, c10, c11, c12]

theorem run_res_PreAccept {V : World} {tm : Array Value} {B : Nat} {r : Rd} {A : Option Addr} {c : Nat} {b : Bool} (h2 : tm[8]?.getD undef = .pointer (some ⟨B, 0, none⟩)) (h3 : tm[9]?.getD undef = .bool b) (hb : Rb V B r A c) :
    (results Tryd.f15 tm).run Tryd.prog V = .ok (.tuple #[rv r A c, .bool b]) V := by
  obtain ⟨c0, c1, c2, c3, c4, c5, c6, c7, c8, c9, c10, c11, c12⟩ := hb
  simp [results, Tryd.results15, h2, h3, go_sem, c0, c1, c2, c3, c4, c5, c6, c7, c8, c9, c10, c11, c12]

theorem run_res_Accept {V : World} {tm : Array Value} {B : Nat} {r : Rd} {A : Option Addr} {c : Nat} {b : Bool} (h2 : tm[8]?.getD undef = .pointer (some ⟨B, 0, none⟩)) (h3 : tm[9]?.getD undef = .bool b) (hb : Rb V B r A c) :
    (results Tryd.f16 tm).run Tryd.prog V = .ok (.tuple #[rv r A c, .bool b]) V := by
  obtain ⟨c0, c1, c2, c3, c4, c5, c6, c7, c8, c9, c10, c11, c12⟩ := hb
  simp [results, Tryd.results16, h2, h3, go_sem, c0, c1, c2, c3, c4, c5, c6, c7, c8, c9, c10, c11, c12]

set_option maxHeartbeats 2000000 in
theorem promise_late (r : Rd) (A : Option Addr) (c : Nat) (x y : Int) (w : World) (hs : At.Sl w w.heap.size .i64 A r.xs) (hl : r.xs.length ≤ 1000) (hr : rf r 0 x y = true) :
    Calls Tryd.prog 14 #[rv r A c, bv x y] w (VotePost w r false) := by
  have HR : ∀ W, Hid (Calls Tryd.prog 35 #[rv r A c, .int .i64 0, bv x y] W (BoolPost W (rf r 0 x y))) := fun W => refuses_any r A c 0 x y W
  have HO : ∀ W, At.Sl W W.heap.size .i64 A r.xs → Hid (Calls Tryd.prog 36 #[rv r A c] W (RecPost W r)) := fun W g => own_any r A c W g hl
  have X0 : Rx (((w.alloc (.cells (rcs r A c) 30)).alloc (.cells #[.int .i64 x, .int .i64 y] 23)).alloc (.cells #[.int .i64 0, .int .i64 0, .int .i64 0, .int .i64 0, .int .i64 0, .int .i64 0, .int .i64 0, .int .i64 0, .int .i64 0, .int .i64 0, .string ⟨#[]⟩, .int .i64 0, .slice none 0 0] 30)) (w.heap.size) r A c := by
    have h0 := rx_new w r A c
    exact ((h0.old _).old _)
  have Y0 : Ba.Bb (((w.alloc (.cells (rcs r A c) 30)).alloc (.cells #[.int .i64 x, .int .i64 y] 23)).alloc (.cells #[.int .i64 0, .int .i64 0, .int .i64 0, .int .i64 0, .int .i64 0, .int .i64 0, .int .i64 0, .int .i64 0, .int .i64 0, .int .i64 0, .string ⟨#[]⟩, .int .i64 0, .slice none 0 0] 30)) (w.heap.size + 1) x y := by
    have h0 := Ba.bx_new (w.alloc (.cells (rcs r A c) 30)) x y
    have h0 := Ba.Bx.bb h0
    rw [show (w.alloc (.cells (rcs r A c) 30)).heap.size = w.heap.size + 1 by simp] at h0
    exact (h0.old _)
  have Z0 : Rx (((w.alloc (.cells (rcs r A c) 30)).alloc (.cells #[.int .i64 x, .int .i64 y] 23)).alloc (.cells #[.int .i64 0, .int .i64 0, .int .i64 0, .int .i64 0, .int .i64 0, .int .i64 0, .int .i64 0, .int .i64 0, .int .i64 0, .int .i64 0, .string ⟨#[]⟩, .int .i64 0, .slice none 0 0] 30)) (w.heap.size + 1 + 1) ⟨0, 0, 0, 0, 0, 0, 0, 0, 0, 0, ⟨#[]⟩, 0, []⟩ none 0 := by
    have h0 := zero_box ((w.alloc (.cells (rcs r A c) 30)).alloc (.cells #[.int .i64 x, .int .i64 y] 23)) 
    rw [show ((w.alloc (.cells (rcs r A c) 30)).alloc (.cells #[.int .i64 x, .int .i64 y] 23)).heap.size = w.heap.size + 1 + 1 by simp] at h0
    exact h0
  have B0 : Below w.heap.size w (((w.alloc (.cells (rcs r A c) 30)).alloc (.cells #[.int .i64 x, .int .i64 y] 23)).alloc (.cells #[.int .i64 0, .int .i64 0, .int .i64 0, .int .i64 0, .int .i64 0, .int .i64 0, .int .i64 0, .int .i64 0, .int .i64 0, .int .i64 0, .string ⟨#[]⟩, .int .i64 0, .slice none 0 0] 30)) := ((((Below.refl _ _).alloc (Nat.le_refl _) _).alloc (by first | (simp; done) | (simp; omega)) _).alloc (by first | (simp; done) | (simp; omega)) _)
  have S0 := hs.to B0 B0.size
  rw [hr] at HR
  clear hr
  go_enter Tryd.func14, Tryd.ntmps14
  go_wp2_with fail
  generalize (((w.alloc (.cells (rcs r A c) 30)).alloc (.cells #[.int .i64 x, .int .i64 y] 23)).alloc (.cells #[.int .i64 0, .int .i64 0, .int .i64 0, .int .i64 0, .int .i64 0, .int .i64 0, .int .i64 0, .int .i64 0, .int .i64 0, .int .i64 0, .string ⟨#[]⟩, .int .i64 0, .slice none 0 0] 30)) = W0 at *
  refine (HR _).out.mono ?_
  rintro e w1 ⟨rfl, b1⟩
  have B1 := B0.trans (b1.mono B0.size)
  have X1 := X0.on b1 X0.lt
  have Z1 := Z0.on b1 Z0.lt
  have S1 := S0.up b1
  obtain ⟨p0, p1, p2, p3, p4, p5, p6, p7, p8, p9, p10, p11, p12⟩ := id X1.rb
  obtain ⟨q0, q1⟩ := Y0.on b1 Y0.lt
  clear HR X0 Y0 Z0 S0 B0 b1 hs hl X1
  go_wp2_with fail
  refine (HO _ S1).out.mono ?_
  rintro e w2 ⟨A9, c9, rfl, f2, b2⟩
  clear HO S1 p0 p1 p2 p3 p4 p5 p6 p7 p8 p9 p10 p11 p12 q0 q1
  have Z8 := Z1.on b2 Z1.lt
  have zlt8 := Z1.lt
  have B8 := B1.trans (b2.mono B1.size)
  have Z9 := Z8.put r A9 c9
  have B9 := below_put B8 (B := w.heap.size + 1 + 1) (by omega) r A9 c9
  have F9 := f2.put (B := w.heap.size + 1 + 1) zlt8 r A9 c9
  have hq9 := B1.size
  have fz := Z8.free
  obtain ⟨z0, z1, z2, z3, z4, z5, z6, z7, z8, z9, z10, z11, z12⟩ := Z8.rb
  have fin := Lib.hid (And.intro Z9.rb (And.intro (F9.mono (D' := w.heap.size) hq9) B9))
  clear Z8 Z9 B8 B9 F9 b2 f2 zlt8 hq9 
  go_wp2
  exact bodyPost_ret (run_res_Promise (B := w.heap.size + 1 + 1) rfl rfl fin.out.1) rfl ⟨A9, c9, rfl, fin.out.2.1, fin.out.2.2⟩

set_option maxHeartbeats 2000000 in
theorem promise_go (r : Rd) (A : Option Addr) (c : Nat) (x y : Int) (w : World) (hs : At.Sl w w.heap.size .i64 A r.xs) (hl : r.xs.length ≤ 1000) (hr : rf r 0 x y = false) :
    Calls Tryd.prog 14 #[rv r A c, bv x y] w (VotePost w ⟨r.st, x, y, r.vn, r.vb, r.u, r.s, r.k, r.h, r.n, r.t, r.q, r.xs⟩ true) := by
  have HR : ∀ W, Hid (Calls Tryd.prog 35 #[rv r A c, .int .i64 0, bv x y] W (BoolPost W (rf r 0 x y))) := fun W => refuses_any r A c 0 x y W
  have HO : ∀ W, At.Sl W W.heap.size .i64 A r.xs → Hid (Calls Tryd.prog 36 #[.agg #[.int .i64 r.st, .int .i64 x, .int .i64 y, .int .i64 r.vn, .int .i64 r.vb, .int .i64 r.u, .int .i64 r.s, .int .i64 r.k, .int .i64 r.h, .int .i64 r.n, .string r.t, .int .i64 r.q, .slice A r.xs.length c]] W (RecPost W ⟨r.st, x, y, r.vn, r.vb, r.u, r.s, r.k, r.h, r.n, r.t, r.q, r.xs⟩)) := fun W g => own_any ⟨r.st, x, y, r.vn, r.vb, r.u, r.s, r.k, r.h, r.n, r.t, r.q, r.xs⟩ A c W g hl
  have X0 : Rx (((w.alloc (.cells (rcs r A c) 30)).alloc (.cells #[.int .i64 x, .int .i64 y] 23)).alloc (.cells #[.int .i64 0, .int .i64 0, .int .i64 0, .int .i64 0, .int .i64 0, .int .i64 0, .int .i64 0, .int .i64 0, .int .i64 0, .int .i64 0, .string ⟨#[]⟩, .int .i64 0, .slice none 0 0] 30)) (w.heap.size) r A c := by
    have h0 := rx_new w r A c
    exact ((h0.old _).old _)
  have Y0 : Ba.Bb (((w.alloc (.cells (rcs r A c) 30)).alloc (.cells #[.int .i64 x, .int .i64 y] 23)).alloc (.cells #[.int .i64 0, .int .i64 0, .int .i64 0, .int .i64 0, .int .i64 0, .int .i64 0, .int .i64 0, .int .i64 0, .int .i64 0, .int .i64 0, .string ⟨#[]⟩, .int .i64 0, .slice none 0 0] 30)) (w.heap.size + 1) x y := by
    have h0 := Ba.bx_new (w.alloc (.cells (rcs r A c) 30)) x y
    have h0 := Ba.Bx.bb h0
    rw [show (w.alloc (.cells (rcs r A c) 30)).heap.size = w.heap.size + 1 by simp] at h0
    exact (h0.old _)
  have Z0 : Rx (((w.alloc (.cells (rcs r A c) 30)).alloc (.cells #[.int .i64 x, .int .i64 y] 23)).alloc (.cells #[.int .i64 0, .int .i64 0, .int .i64 0, .int .i64 0, .int .i64 0, .int .i64 0, .int .i64 0, .int .i64 0, .int .i64 0, .int .i64 0, .string ⟨#[]⟩, .int .i64 0, .slice none 0 0] 30)) (w.heap.size + 1 + 1) ⟨0, 0, 0, 0, 0, 0, 0, 0, 0, 0, ⟨#[]⟩, 0, []⟩ none 0 := by
    have h0 := zero_box ((w.alloc (.cells (rcs r A c) 30)).alloc (.cells #[.int .i64 x, .int .i64 y] 23)) 
    rw [show ((w.alloc (.cells (rcs r A c) 30)).alloc (.cells #[.int .i64 x, .int .i64 y] 23)).heap.size = w.heap.size + 1 + 1 by simp] at h0
    exact h0
  have B0 : Below w.heap.size w (((w.alloc (.cells (rcs r A c) 30)).alloc (.cells #[.int .i64 x, .int .i64 y] 23)).alloc (.cells #[.int .i64 0, .int .i64 0, .int .i64 0, .int .i64 0, .int .i64 0, .int .i64 0, .int .i64 0, .int .i64 0, .int .i64 0, .int .i64 0, .string ⟨#[]⟩, .int .i64 0, .slice none 0 0] 30)) := ((((Below.refl _ _).alloc (Nat.le_refl _) _).alloc (by first | (simp; done) | (simp; omega)) _).alloc (by first | (simp; done) | (simp; omega)) _)
  have S0 := hs.to B0 B0.size
  rw [hr] at HR
  clear hr
  go_enter Tryd.func14, Tryd.ntmps14
  go_wp2_with fail
  generalize (((w.alloc (.cells (rcs r A c) 30)).alloc (.cells #[.int .i64 x, .int .i64 y] 23)).alloc (.cells #[.int .i64 0, .int .i64 0, .int .i64 0, .int .i64 0, .int .i64 0, .int .i64 0, .int .i64 0, .int .i64 0, .int .i64 0, .int .i64 0, .string ⟨#[]⟩, .int .i64 0, .slice none 0 0] 30)) = W0 at *
  refine (HR _).out.mono ?_
  rintro e w1 ⟨rfl, b1⟩
  have B1 := B0.trans (b1.mono B0.size)
  have X1 := X0.on b1 X0.lt
  have Z1 := Z0.on b1 Z0.lt
  have S1 := S0.up b1
  obtain ⟨p0, p1, p2, p3, p4, p5, p6, p7, p8, p9, p10, p11, p12⟩ := id X1.rb
  obtain ⟨q0, q1⟩ := Y0.on b1 Y0.lt
  have fx := X1.free
  have z0lt := Z0.lt
  have f0 := hs
  have s0' : Hid (∀ j v, At.Sl (w1.setCell ⟨w.heap.size, j, none⟩ v) (w1.setCell ⟨w.heap.size, j, none⟩ v).heap.size .i64 A r.xs) := fun j v => hs.to (B1.setCell (p := ⟨w.heap.size, j, none⟩) (Nat.le_refl _) v) (B1.setCell (p := ⟨w.heap.size, j, none⟩) (Nat.le_refl _) v).size
  have X2 := X1.prom x y
  have Z2 := (Z1.other (p := ⟨w.heap.size, 1, none⟩) (by show w.heap.size + 1 + 1 ≠ w.heap.size; omega) (.int .i64 x)).other (p := ⟨w.heap.size, 2, none⟩) (by show w.heap.size + 1 + 1 ≠ w.heap.size; omega) (.int .i64 y)
  have B2 := (B1.setCell (p := ⟨w.heap.size, 1, none⟩) (Nat.le_refl _) (.int .i64 x)).setCell (p := ⟨w.heap.size, 2, none⟩) (Nat.le_refl _) (.int .i64 y)
  have S2 := hs.to B2 B2.size
  have HX2 := Lib.hid X2
  have HZ2 := Lib.hid Z2
  have HB2 := Lib.hid B2
  have HS2 := Lib.hid S2
  clear HR X0 Y0 Z0 S0 B0 b1 hs hl X1 X2 Z2 B2 S2 Z1 S1 B1 f0 s0'
  go_wp2_with fail
  generalize (w1.setCell ⟨w.heap.size, 1, none⟩ (.int .i64 x)).setCell ⟨w.heap.size, 2, none⟩ (.int .i64 y) = W2 at *
  refine (HO _ HS2.out).out.mono ?_
  rintro e w2 ⟨A9, c9, rfl, f2, b2⟩
  have Z2 := HZ2.out
  have B2 := HB2.out
  clear HO HX2 HZ2 HB2 HS2 p0 p1 p2 p3 p4 p5 p6 p7 p8 p9 p10 p11 p12 q0 q1 fx
  have Z8 := Z2.on b2 Z2.lt
  have zlt8 := Z2.lt
  have B8 := B2.trans (b2.mono B2.size)
  have Z9 := Z8.put ⟨r.st, x, y, r.vn, r.vb, r.u, r.s, r.k, r.h, r.n, r.t, r.q, r.xs⟩ A9 c9
  have B9 := below_put B8 (B := w.heap.size + 1 + 1) (by omega) ⟨r.st, x, y, r.vn, r.vb, r.u, r.s, r.k, r.h, r.n, r.t, r.q, r.xs⟩ A9 c9
  have F9 := f2.put (B := w.heap.size + 1 + 1) zlt8 ⟨r.st, x, y, r.vn, r.vb, r.u, r.s, r.k, r.h, r.n, r.t, r.q, r.xs⟩ A9 c9
  have hq9 := B2.size
  have fz := Z8.free
  obtain ⟨z0, z1, z2, z3, z4, z5, z6, z7, z8, z9, z10, z11, z12⟩ := Z8.rb
  have fin := Lib.hid (And.intro Z9.rb (And.intro (F9.mono (D' := w.heap.size) hq9) B9))
  clear Z8 Z9 B8 B9 F9 b2 f2 zlt8 hq9 
  go_wp2
  exact bodyPost_ret (run_res_Promise (B := w.heap.size + 1 + 1) rfl rfl fin.out.1) rfl ⟨A9, c9, rfl, fin.out.2.1, fin.out.2.2⟩

theorem promise_any (r : Rd) (A : Option Addr) (c : Nat) (x y : Int) (w : World) (hs : At.Sl w w.heap.size .i64 A r.xs) (hl : r.xs.length ≤ 1000) :
    Calls Tryd.prog 14 #[rv r A c, bv x y] w (VotePost w (pm r x y) (!rf r 0 x y)) := by
  rcases hr : rf r 0 x y with _ | _
  · rw [pm, hr]; exact promise_go r A c x y w hs hl hr
  · rw [pm, hr]; exact promise_late r A c x y w hs hl hr

set_option maxHeartbeats 2000000 in
theorem preaccept_any (r : Rd) (A A' : Option Addr) (c c' : Nat) (x y u s k h n : Int) (t : ByteArray) (q : Int) (xs : List Int) (w : World) (hs : At.Sl w w.heap.size .i64 A r.xs) (hs' : At.Sl w w.heap.size .i64 A' xs) (hl : r.xs.length ≤ 1000) (hl' : xs.length ≤ 1000) :
    Calls Tryd.prog 15 #[rv r A c, bv x y, cv u s k h n t, av q A' xs.length c'] w (VotePost w (vt r 1 x y u s k h n t q xs) (!rf r 1 x y)) := by
  have HV : ∀ W, At.Sl W W.heap.size .i64 A r.xs → At.Sl W W.heap.size .i64 A' xs → Hid (Calls Tryd.prog 37 #[rv r A c, .int .i64 1, bv x y, cv u s k h n t, av q A' xs.length c'] W (VotePost W (vt r 1 x y u s k h n t q xs) (!rf r 1 x y))) := fun W g g' => vote_any r A A' c c' 1 x y u s k h n t q xs W g g' hl hl'
  have X0 : Rx (((((w.alloc (.cells (rcs r A c) 30)).alloc (.cells #[.int .i64 x, .int .i64 y] 23)).alloc (.cells #[.int .i64 u, .int .i64 s, .int .i64 k, .int .i64 h, .int .i64 n, .string t] 25)).alloc (.cells #[.int .i64 q, .slice A' xs.length c'] 28)).alloc (.cells #[.int .i64 0, .int .i64 0, .int .i64 0, .int .i64 0, .int .i64 0, .int .i64 0, .int .i64 0, .int .i64 0, .int .i64 0, .int .i64 0, .string ⟨#[]⟩, .int .i64 0, .slice none 0 0] 30)) (w.heap.size) r A c := by
    have h0 := rx_new w r A c
    exact ((((h0.old _).old _).old _).old _)
  have Y0 : Ba.Bb (((((w.alloc (.cells (rcs r A c) 30)).alloc (.cells #[.int .i64 x, .int .i64 y] 23)).alloc (.cells #[.int .i64 u, .int .i64 s, .int .i64 k, .int .i64 h, .int .i64 n, .string t] 25)).alloc (.cells #[.int .i64 q, .slice A' xs.length c'] 28)).alloc (.cells #[.int .i64 0, .int .i64 0, .int .i64 0, .int .i64 0, .int .i64 0, .int .i64 0, .int .i64 0, .int .i64 0, .int .i64 0, .int .i64 0, .string ⟨#[]⟩, .int .i64 0, .slice none 0 0] 30)) (w.heap.size + 1) x y := by
    have h0 := Ba.bx_new (w.alloc (.cells (rcs r A c) 30)) x y
    have h0 := Ba.Bx.bb h0
    rw [show (w.alloc (.cells (rcs r A c) 30)).heap.size = w.heap.size + 1 by simp] at h0
    exact (((h0.old _).old _).old _)
  have C0 : Cb (((((w.alloc (.cells (rcs r A c) 30)).alloc (.cells #[.int .i64 x, .int .i64 y] 23)).alloc (.cells #[.int .i64 u, .int .i64 s, .int .i64 k, .int .i64 h, .int .i64 n, .string t] 25)).alloc (.cells #[.int .i64 q, .slice A' xs.length c'] 28)).alloc (.cells #[.int .i64 0, .int .i64 0, .int .i64 0, .int .i64 0, .int .i64 0, .int .i64 0, .int .i64 0, .int .i64 0, .int .i64 0, .int .i64 0, .string ⟨#[]⟩, .int .i64 0, .slice none 0 0] 30)) (w.heap.size + 1 + 1) u s k h n t := by
    have h0 := cb_new ((w.alloc (.cells (rcs r A c) 30)).alloc (.cells #[.int .i64 x, .int .i64 y] 23)) u s k h n t
    rw [show ((w.alloc (.cells (rcs r A c) 30)).alloc (.cells #[.int .i64 x, .int .i64 y] 23)).heap.size = w.heap.size + 1 + 1 by simp] at h0
    exact ((h0.old _).old _)
  have V0 : Ab (((((w.alloc (.cells (rcs r A c) 30)).alloc (.cells #[.int .i64 x, .int .i64 y] 23)).alloc (.cells #[.int .i64 u, .int .i64 s, .int .i64 k, .int .i64 h, .int .i64 n, .string t] 25)).alloc (.cells #[.int .i64 q, .slice A' xs.length c'] 28)).alloc (.cells #[.int .i64 0, .int .i64 0, .int .i64 0, .int .i64 0, .int .i64 0, .int .i64 0, .int .i64 0, .int .i64 0, .int .i64 0, .int .i64 0, .string ⟨#[]⟩, .int .i64 0, .slice none 0 0] 30)) (w.heap.size + 1 + 1 + 1) q A' xs.length c' := by
    have h0 := ab_new (((w.alloc (.cells (rcs r A c) 30)).alloc (.cells #[.int .i64 x, .int .i64 y] 23)).alloc (.cells #[.int .i64 u, .int .i64 s, .int .i64 k, .int .i64 h, .int .i64 n, .string t] 25)) q A' xs.length c'
    rw [show (((w.alloc (.cells (rcs r A c) 30)).alloc (.cells #[.int .i64 x, .int .i64 y] 23)).alloc (.cells #[.int .i64 u, .int .i64 s, .int .i64 k, .int .i64 h, .int .i64 n, .string t] 25)).heap.size = w.heap.size + 1 + 1 + 1 by simp] at h0
    exact (h0.old _)
  have Z0 : Rx (((((w.alloc (.cells (rcs r A c) 30)).alloc (.cells #[.int .i64 x, .int .i64 y] 23)).alloc (.cells #[.int .i64 u, .int .i64 s, .int .i64 k, .int .i64 h, .int .i64 n, .string t] 25)).alloc (.cells #[.int .i64 q, .slice A' xs.length c'] 28)).alloc (.cells #[.int .i64 0, .int .i64 0, .int .i64 0, .int .i64 0, .int .i64 0, .int .i64 0, .int .i64 0, .int .i64 0, .int .i64 0, .int .i64 0, .string ⟨#[]⟩, .int .i64 0, .slice none 0 0] 30)) (w.heap.size + 1 + 1 + 1 + 1) ⟨0, 0, 0, 0, 0, 0, 0, 0, 0, 0, ⟨#[]⟩, 0, []⟩ none 0 := by
    have h0 := zero_box ((((w.alloc (.cells (rcs r A c) 30)).alloc (.cells #[.int .i64 x, .int .i64 y] 23)).alloc (.cells #[.int .i64 u, .int .i64 s, .int .i64 k, .int .i64 h, .int .i64 n, .string t] 25)).alloc (.cells #[.int .i64 q, .slice A' xs.length c'] 28)) 
    rw [show ((((w.alloc (.cells (rcs r A c) 30)).alloc (.cells #[.int .i64 x, .int .i64 y] 23)).alloc (.cells #[.int .i64 u, .int .i64 s, .int .i64 k, .int .i64 h, .int .i64 n, .string t] 25)).alloc (.cells #[.int .i64 q, .slice A' xs.length c'] 28)).heap.size = w.heap.size + 1 + 1 + 1 + 1 by simp] at h0
    exact h0
  have B0 : Below w.heap.size w (((((w.alloc (.cells (rcs r A c) 30)).alloc (.cells #[.int .i64 x, .int .i64 y] 23)).alloc (.cells #[.int .i64 u, .int .i64 s, .int .i64 k, .int .i64 h, .int .i64 n, .string t] 25)).alloc (.cells #[.int .i64 q, .slice A' xs.length c'] 28)).alloc (.cells #[.int .i64 0, .int .i64 0, .int .i64 0, .int .i64 0, .int .i64 0, .int .i64 0, .int .i64 0, .int .i64 0, .int .i64 0, .int .i64 0, .string ⟨#[]⟩, .int .i64 0, .slice none 0 0] 30)) := ((((((Below.refl _ _).alloc (Nat.le_refl _) _).alloc (by first | (simp; done) | (simp; omega)) _).alloc (by first | (simp; done) | (simp; omega)) _).alloc (by first | (simp; done) | (simp; omega)) _).alloc (by first | (simp; done) | (simp; omega)) _)
  have S0 := hs.to B0 B0.size
  have S0' := hs'.to B0 B0.size
  generalize vt r 1 x y u s k h n t q xs = o at *
  generalize (!rf r 1 x y) = L at *
  go_enter Tryd.func15, Tryd.ntmps15
  go_wp2_with fail
  generalize (((((w.alloc (.cells (rcs r A c) 30)).alloc (.cells #[.int .i64 x, .int .i64 y] 23)).alloc (.cells #[.int .i64 u, .int .i64 s, .int .i64 k, .int .i64 h, .int .i64 n, .string t] 25)).alloc (.cells #[.int .i64 q, .slice A' xs.length c'] 28)).alloc (.cells #[.int .i64 0, .int .i64 0, .int .i64 0, .int .i64 0, .int .i64 0, .int .i64 0, .int .i64 0, .int .i64 0, .int .i64 0, .int .i64 0, .string ⟨#[]⟩, .int .i64 0, .slice none 0 0] 30)) = W0 at *
  refine (HV _ S0 S0').out.mono ?_
  rintro e w2 ⟨A9, c9, rfl, f2, b2⟩
  clear HV S0 S0' X0 Y0 C0 V0 hs hs' hl hl'
  have Z8 := Z0.on b2 Z0.lt
  have zlt8 := Z0.lt
  have B8 := B0.trans (b2.mono B0.size)
  have Z9 := Z8.put o A9 c9
  have B9 := below_put B8 (B := w.heap.size + 1 + 1 + 1 + 1) (by omega) o A9 c9
  have F9 := f2.put (B := w.heap.size + 1 + 1 + 1 + 1) zlt8 o A9 c9
  have hq9 := B0.size
  have fz := Z8.free
  obtain ⟨z0, z1, z2, z3, z4, z5, z6, z7, z8, z9, z10, z11, z12⟩ := Z8.rb
  have fin := Lib.hid (And.intro Z9.rb (And.intro (F9.mono (D' := w.heap.size) hq9) B9))
  clear Z8 Z9 B8 B9 F9 b2 f2 zlt8 hq9 
  go_wp2
  exact bodyPost_ret (run_res_PreAccept (B := w.heap.size + 1 + 1 + 1 + 1) rfl rfl fin.out.1) rfl ⟨A9, c9, rfl, fin.out.2.1, fin.out.2.2⟩

set_option maxHeartbeats 2000000 in
theorem accept_any (r : Rd) (A A' : Option Addr) (c c' : Nat) (x y u s k h n : Int) (t : ByteArray) (q : Int) (xs : List Int) (w : World) (hs : At.Sl w w.heap.size .i64 A r.xs) (hs' : At.Sl w w.heap.size .i64 A' xs) (hl : r.xs.length ≤ 1000) (hl' : xs.length ≤ 1000) :
    Calls Tryd.prog 16 #[rv r A c, bv x y, cv u s k h n t, av q A' xs.length c'] w (VotePost w (vt r 2 x y u s k h n t q xs) (!rf r 2 x y)) := by
  have HV : ∀ W, At.Sl W W.heap.size .i64 A r.xs → At.Sl W W.heap.size .i64 A' xs → Hid (Calls Tryd.prog 37 #[rv r A c, .int .i64 2, bv x y, cv u s k h n t, av q A' xs.length c'] W (VotePost W (vt r 2 x y u s k h n t q xs) (!rf r 2 x y))) := fun W g g' => vote_any r A A' c c' 2 x y u s k h n t q xs W g g' hl hl'
  have X0 : Rx (((((w.alloc (.cells (rcs r A c) 30)).alloc (.cells #[.int .i64 x, .int .i64 y] 23)).alloc (.cells #[.int .i64 u, .int .i64 s, .int .i64 k, .int .i64 h, .int .i64 n, .string t] 25)).alloc (.cells #[.int .i64 q, .slice A' xs.length c'] 28)).alloc (.cells #[.int .i64 0, .int .i64 0, .int .i64 0, .int .i64 0, .int .i64 0, .int .i64 0, .int .i64 0, .int .i64 0, .int .i64 0, .int .i64 0, .string ⟨#[]⟩, .int .i64 0, .slice none 0 0] 30)) (w.heap.size) r A c := by
    have h0 := rx_new w r A c
    exact ((((h0.old _).old _).old _).old _)
  have Y0 : Ba.Bb (((((w.alloc (.cells (rcs r A c) 30)).alloc (.cells #[.int .i64 x, .int .i64 y] 23)).alloc (.cells #[.int .i64 u, .int .i64 s, .int .i64 k, .int .i64 h, .int .i64 n, .string t] 25)).alloc (.cells #[.int .i64 q, .slice A' xs.length c'] 28)).alloc (.cells #[.int .i64 0, .int .i64 0, .int .i64 0, .int .i64 0, .int .i64 0, .int .i64 0, .int .i64 0, .int .i64 0, .int .i64 0, .int .i64 0, .string ⟨#[]⟩, .int .i64 0, .slice none 0 0] 30)) (w.heap.size + 1) x y := by
    have h0 := Ba.bx_new (w.alloc (.cells (rcs r A c) 30)) x y
    have h0 := Ba.Bx.bb h0
    rw [show (w.alloc (.cells (rcs r A c) 30)).heap.size = w.heap.size + 1 by simp] at h0
    exact (((h0.old _).old _).old _)
  have C0 : Cb (((((w.alloc (.cells (rcs r A c) 30)).alloc (.cells #[.int .i64 x, .int .i64 y] 23)).alloc (.cells #[.int .i64 u, .int .i64 s, .int .i64 k, .int .i64 h, .int .i64 n, .string t] 25)).alloc (.cells #[.int .i64 q, .slice A' xs.length c'] 28)).alloc (.cells #[.int .i64 0, .int .i64 0, .int .i64 0, .int .i64 0, .int .i64 0, .int .i64 0, .int .i64 0, .int .i64 0, .int .i64 0, .int .i64 0, .string ⟨#[]⟩, .int .i64 0, .slice none 0 0] 30)) (w.heap.size + 1 + 1) u s k h n t := by
    have h0 := cb_new ((w.alloc (.cells (rcs r A c) 30)).alloc (.cells #[.int .i64 x, .int .i64 y] 23)) u s k h n t
    rw [show ((w.alloc (.cells (rcs r A c) 30)).alloc (.cells #[.int .i64 x, .int .i64 y] 23)).heap.size = w.heap.size + 1 + 1 by simp] at h0
    exact ((h0.old _).old _)
  have V0 : Ab (((((w.alloc (.cells (rcs r A c) 30)).alloc (.cells #[.int .i64 x, .int .i64 y] 23)).alloc (.cells #[.int .i64 u, .int .i64 s, .int .i64 k, .int .i64 h, .int .i64 n, .string t] 25)).alloc (.cells #[.int .i64 q, .slice A' xs.length c'] 28)).alloc (.cells #[.int .i64 0, .int .i64 0, .int .i64 0, .int .i64 0, .int .i64 0, .int .i64 0, .int .i64 0, .int .i64 0, .int .i64 0, .int .i64 0, .string ⟨#[]⟩, .int .i64 0, .slice none 0 0] 30)) (w.heap.size + 1 + 1 + 1) q A' xs.length c' := by
    have h0 := ab_new (((w.alloc (.cells (rcs r A c) 30)).alloc (.cells #[.int .i64 x, .int .i64 y] 23)).alloc (.cells #[.int .i64 u, .int .i64 s, .int .i64 k, .int .i64 h, .int .i64 n, .string t] 25)) q A' xs.length c'
    rw [show (((w.alloc (.cells (rcs r A c) 30)).alloc (.cells #[.int .i64 x, .int .i64 y] 23)).alloc (.cells #[.int .i64 u, .int .i64 s, .int .i64 k, .int .i64 h, .int .i64 n, .string t] 25)).heap.size = w.heap.size + 1 + 1 + 1 by simp] at h0
    exact (h0.old _)
  have Z0 : Rx (((((w.alloc (.cells (rcs r A c) 30)).alloc (.cells #[.int .i64 x, .int .i64 y] 23)).alloc (.cells #[.int .i64 u, .int .i64 s, .int .i64 k, .int .i64 h, .int .i64 n, .string t] 25)).alloc (.cells #[.int .i64 q, .slice A' xs.length c'] 28)).alloc (.cells #[.int .i64 0, .int .i64 0, .int .i64 0, .int .i64 0, .int .i64 0, .int .i64 0, .int .i64 0, .int .i64 0, .int .i64 0, .int .i64 0, .string ⟨#[]⟩, .int .i64 0, .slice none 0 0] 30)) (w.heap.size + 1 + 1 + 1 + 1) ⟨0, 0, 0, 0, 0, 0, 0, 0, 0, 0, ⟨#[]⟩, 0, []⟩ none 0 := by
    have h0 := zero_box ((((w.alloc (.cells (rcs r A c) 30)).alloc (.cells #[.int .i64 x, .int .i64 y] 23)).alloc (.cells #[.int .i64 u, .int .i64 s, .int .i64 k, .int .i64 h, .int .i64 n, .string t] 25)).alloc (.cells #[.int .i64 q, .slice A' xs.length c'] 28)) 
    rw [show ((((w.alloc (.cells (rcs r A c) 30)).alloc (.cells #[.int .i64 x, .int .i64 y] 23)).alloc (.cells #[.int .i64 u, .int .i64 s, .int .i64 k, .int .i64 h, .int .i64 n, .string t] 25)).alloc (.cells #[.int .i64 q, .slice A' xs.length c'] 28)).heap.size = w.heap.size + 1 + 1 + 1 + 1 by simp] at h0
    exact h0
  have B0 : Below w.heap.size w (((((w.alloc (.cells (rcs r A c) 30)).alloc (.cells #[.int .i64 x, .int .i64 y] 23)).alloc (.cells #[.int .i64 u, .int .i64 s, .int .i64 k, .int .i64 h, .int .i64 n, .string t] 25)).alloc (.cells #[.int .i64 q, .slice A' xs.length c'] 28)).alloc (.cells #[.int .i64 0, .int .i64 0, .int .i64 0, .int .i64 0, .int .i64 0, .int .i64 0, .int .i64 0, .int .i64 0, .int .i64 0, .int .i64 0, .string ⟨#[]⟩, .int .i64 0, .slice none 0 0] 30)) := ((((((Below.refl _ _).alloc (Nat.le_refl _) _).alloc (by first | (simp; done) | (simp; omega)) _).alloc (by first | (simp; done) | (simp; omega)) _).alloc (by first | (simp; done) | (simp; omega)) _).alloc (by first | (simp; done) | (simp; omega)) _)
  have S0 := hs.to B0 B0.size
  have S0' := hs'.to B0 B0.size
  generalize vt r 2 x y u s k h n t q xs = o at *
  generalize (!rf r 2 x y) = L at *
  go_enter Tryd.func16, Tryd.ntmps16
  go_wp2_with fail
  generalize (((((w.alloc (.cells (rcs r A c) 30)).alloc (.cells #[.int .i64 x, .int .i64 y] 23)).alloc (.cells #[.int .i64 u, .int .i64 s, .int .i64 k, .int .i64 h, .int .i64 n, .string t] 25)).alloc (.cells #[.int .i64 q, .slice A' xs.length c'] 28)).alloc (.cells #[.int .i64 0, .int .i64 0, .int .i64 0, .int .i64 0, .int .i64 0, .int .i64 0, .int .i64 0, .int .i64 0, .int .i64 0, .int .i64 0, .string ⟨#[]⟩, .int .i64 0, .slice none 0 0] 30)) = W0 at *
  refine (HV _ S0 S0').out.mono ?_
  rintro e w2 ⟨A9, c9, rfl, f2, b2⟩
  clear HV S0 S0' X0 Y0 C0 V0 hs hs' hl hl'
  have Z8 := Z0.on b2 Z0.lt
  have zlt8 := Z0.lt
  have B8 := B0.trans (b2.mono B0.size)
  have Z9 := Z8.put o A9 c9
  have B9 := below_put B8 (B := w.heap.size + 1 + 1 + 1 + 1) (by omega) o A9 c9
  have F9 := f2.put (B := w.heap.size + 1 + 1 + 1 + 1) zlt8 o A9 c9
  have hq9 := B0.size
  have fz := Z8.free
  obtain ⟨z0, z1, z2, z3, z4, z5, z6, z7, z8, z9, z10, z11, z12⟩ := Z8.rb
  have fin := Lib.hid (And.intro Z9.rb (And.intro (F9.mono (D' := w.heap.size) hq9) B9))
  clear Z8 Z9 B8 B9 F9 b2 f2 zlt8 hq9 
  go_wp2
  exact bodyPost_ret (run_res_Accept (B := w.heap.size + 1 + 1 + 1 + 1) rfl rfl fin.out.1) rfl ⟨A9, c9, rfl, fin.out.2.1, fin.out.2.2⟩

end Go.Proofs.YtdeaaeejkpghaaaDoor.In
