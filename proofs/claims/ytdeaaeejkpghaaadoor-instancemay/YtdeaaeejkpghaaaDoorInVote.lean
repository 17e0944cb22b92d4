/-
  The walks of vote, Promise, PreAccept and Accept. Conditions: at most 1000 deps.
-/
import Derived.Test.YtdeaaeejkpghaaaDoorInRef
namespace Go.Proofs.YtdeaaeejkpghaaaDoor.In
open Go.RowKit
set_option linter.unusedVariables false
attribute [local go_sem ↓ high] Ba.eq23 Ba.guard23 Ba.neq23 Ba.guard23n eqc guardc

/-- Just that vote was given already. -/
def vs (r : Rd) (st x y : Int) : Bool := (r.st == st) && ((r.vn == x) && (r.vb == y))
/-- What a vote makes of what is known. -/
def vt (r : Rd) (st x y u s k h n : Int) (t : ByteArray) (q : Int) (xs : List Int) : Rd := if (vs r st x y || rf r st x y) = true then r else ⟨st, x, y, x, y, u, s, k, h, n, t, q, xs⟩

theorem run_res_vote {V : World} {tm : Array Value} {B : Nat} {r : Rd} {A : Option Addr} {c : Nat} {b : Bool} (h2 : tm[10]?.getD undef = .pointer (some ⟨B, 0, none⟩)) (h3 : tm[11]?.getD undef = .bool b) (hb : Rb V B r A c) :
    (results Tryd.f37 tm).run Tryd.prog V = .ok (.tuple #[rv r A c, .bool b]) V := by
  obtain ⟨c0, c1, c2, c3, c4, c5, c6, c7, c8, c9, c10, c11, c12⟩ := hb
  simp [results, Tryd.results37, h2, h3, go_sem, c0, c1, c2, c3, c4, c5, c6, c7, c8, c9, c10, c11, c12]

set_option maxHeartbeats 2000000 in
theorem vote_same (r : Rd) (A A' : Option Addr) (c c' : Nat) (st x y u s k h n : Int) (t : ByteArray) (q : Int) (xs : List Int) (w : World) (hs : At.Sl w w.heap.size .i64 A r.xs) (hs' : At.Sl w w.heap.size .i64 A' xs) (hl : r.xs.length ≤ 1000) (hl' : xs.length ≤ 1000) (h1 : (r.st == st) = true) (he : ((r.vn == x) && (r.vb == y)) = true) :
    Calls Tryd.prog 37 #[rv r A c, .int .i64 st, bv x y, cv u s k h n t, av q A' xs.length c'] w (VotePost w r (!rf r st x y)) := by
  have HR : ∀ W, Hid (Calls Tryd.prog 35 #[rv r A c, .int .i64 st, bv x y] W (BoolPost W (rf r st x y))) := fun W => refuses_any r A c st x y W
  have HO : ∀ W, At.Sl W W.heap.size .i64 A r.xs → Hid (Calls Tryd.prog 36 #[rv r A c] W (RecPost W r)) := fun W g => own_any r A c W g hl
  have X0 : Rx (((((w.alloc (.cells (rcs r A c) 30)).alloc (.cells #[.int .i64 x, .int .i64 y] 23)).alloc (.cells #[.int .i64 u, .int .i64 s, .int .i64 k, .int .i64 h, .int .i64 n, .string t] 25)).alloc (.cells #[.int .i64 q, .slice A' xs.length c'] 28)).alloc (.cells #[.int .i64 0, .int .i64 0, .int .i64 0, .int .i64 0, .int .i64 0, .int .i64 0, .int .i64 0, .int .i64 0, .int .i64 0, .int .i64 0, .string ⟨#[]⟩, .int .i64 0, .slice none 0 0] 30)) (w.heap.size) r A c := by
    have h0 := rx_new w r A c
    exact ((((h0.old _).old _).old _).old _)
  have Y0 : Ba.Bb (((((w.alloc (.cells (rcs r A c) 30)).alloc (.cells #[.int .i64 x, .int .i64 y] 23)).alloc (.cells #[.int .i64 u, .int .i64 s, .int .i64 k, .int .i64 h, .int .i64 n, .string t] 25)).alloc (.cells #[.int .i64 q, .slice A' xs.length c'] 28)).alloc (.cells #[.int .i64 0, .int .i64 0, .int .i64 0, .int .i64 0, .int .i64 0, .int .i64 0, .int .i64 0, .int .i64 0, .int .i64 0, .int .i64 0, .string ⟨#[]⟩, .int .i64 0, .slice none 0 0] 30)) (w.heap.size + 1) x y := by
    have h0 := Ba.bx_new (w.alloc (.cells (rcs r A c) 30)) x y
    have h0 := Ba.Bx.bb h0
    rw [show (w.alloc (.cells (rcs r A c) 30)).heap.size = w.heap.size + 1 by simp] at h0
    exact (((h0.old _).old _).old _)
  have C0 : Cb (((((w.alloc (.cells (rcs r A c) 30)).alloc (.cells #[.int .i64 x, .int .i64 y] 23)).alloc (.cells #[.int .i64 u, .int .i64 s, .int .i64 k, .int .i64 h, .int .i64 n, .string t] 25)).alloc (.cells #[.int .i64 q, .slice A' xs.length c'] 28)).alloc (.cells #[.int .i64 0, .int .i64 0, .int .i64 0, .int .i64 0, .int .i64 0, .int .i64 0, .int .i64 0, .int .i64 0, .int .i64 0, .int .i64 0, .string ⟨#[]⟩, .int .i64 0, .slice none 0 0] 30)) (w.heap.size + 1 + 1) u s k h n t := by
    have h0 := cb_new ((w.alloc (.cells (rcs r A c) 30)).alloc (.cells #[.int .i64 x, .int .i64 y] 23)) u s k h n t
    rw [show ((w.alloc (.cells (rcs r A c) 30)).alloc (.cells #[.int .i64 x, .int .i64 y] 23)).heap.size = w.heap.size + 1 + 1 by simp] at h0
    exact ((h0.old _).old _)
  have V0 : Ab (((((w.alloc (.cells (rcs r A c) 30)).alloc (.cells #[.int .i64 x, .int .i64 y] 23)).alloc (.cells #[.int .i64 u, .int .i64 s, .int .i64 k, .int .i64 h, .int .i64 n, .string t] 25)).alloc (.cells #[.int .i64 q, .slice A' xs.length c'] 28)).alloc (.cells #[.int .i64 0, .int .i64 0, .int .i64 0, .int .i64 0, .int .i64 0, .int .i64 0, .int .i64 0, .int .i64 0, .int .i64 0, .int .i64 0, .string ⟨#[]⟩, .int .i64 0, .slice none 0 0] 30)) (w.heap.size + 1 + 1 + 1) q A' xs.length c' := by
    have h0 := ab_new (((w.alloc (.cells (rcs r A c) 30)).alloc (.cells #[.int .i64 x, .int .i64 y] 23)).alloc (.cells #[.int .i64 u, .int .i64 s, .int .i64 k, .int .i64 h, .int .i64 n, .string t] 25)) q A' xs.length c'
    rw [show (((w.alloc (.cells (rcs r A c) 30)).alloc (.cells #[.int .i64 x, .int .i64 y] 23)).alloc (.cells #[.int .i64 u, .int .i64 s, .int .i64 k, .int .i64 h, .int .i64 n, .string t] 25)).heap.size = w.heap.size + 1 + 1 + 1 by simp] at h0
    exact (h0.old _)
  have Z0 : Rx (((((w.alloc (.cells (rcs r A c) 30)).alloc (.cells #[.int .i64 x, .int .i64 y] 23)).alloc (.cells #[.int .i64 u, .int .i64 s, .int .i64 k, .int .i64 h, .int .i64 n, .string t] 25)).alloc (.cells #[.int .i64 q, .slice A' xs.length c'] 28)).alloc (.cells #[.int .i64 0, .int .i64 0, .int .i64 0, .int .i64 0, .int .i64 0, .int .i64 0, .int .i64 0, .int .i64 0, .int .i64 0, .int .i64 0, .string ⟨#[]⟩, .int .i64 0, .slice none 0 0] 30)) (w.heap.size + 1 + 1 + 1 + 1) ⟨0, 0, 0, 0, 0, 0, 0, 0, 0, 0, ⟨#[]⟩, 0, []⟩ none 0 := by
    have h0 := zero_box ((((w.alloc (.cells (rcs r A c) 30)).alloc (.cells #[.int .i64 x, .int .i64 y] 23)).alloc (.cells #[.int .i64 u, .int .i64 s, .int .i64 k, .int .i64 h, .int .i64 n, .string t] 25)).alloc (.cells #[.int .i64 q, .slice A' xs.length c'] 28)) 
    rw [show ((((w.alloc (.cells (rcs r A c) 30)).alloc (.cells #[.int .i64 x, .int .i64 y] 23)).alloc (.cells #[.int .i64 u, .int .i64 s, .int .i64 k, .int .i64 h, .int .i64 n, .string t] 25)).alloc (.cells #[.int .i64 q, .slice A' xs.length c'] 28)).heap.size = w.heap.size + 1 + 1 + 1 + 1 by simp] at h0
    exact h0
  have B0 : Below w.heap.size w (((((w.alloc (.cells (rcs r A c) 30)).alloc (.cells #[.int .i64 x, .int .i64 y] 23)).alloc (.cells #[.int .i64 u, .int .i64 s, .int .i64 k, .int .i64 h, .int .i64 n, .string t] 25)).alloc (.cells #[.int .i64 q, .slice A' xs.length c'] 28)).alloc (.cells #[.int .i64 0, .int .i64 0, .int .i64 0, .int .i64 0, .int .i64 0, .int .i64 0, .int .i64 0, .int .i64 0, .int .i64 0, .int .i64 0, .string ⟨#[]⟩, .int .i64 0, .slice none 0 0] 30)) := ((((((Below.refl _ _).alloc (Nat.le_refl _) _).alloc (by first | (simp; done) | (simp; omega)) _).alloc (by first | (simp; done) | (simp; omega)) _).alloc (by first | (simp; done) | (simp; omega)) _).alloc (by first | (simp; done) | (simp; omega)) _)
  have S0 := hs.to B0 B0.size
  generalize rf r st x y = L at *
  go_enter Tryd.func37, Tryd.ntmps37
  go_wp2_with fail
  generalize (((((w.alloc (.cells (rcs r A c) 30)).alloc (.cells #[.int .i64 x, .int .i64 y] 23)).alloc (.cells #[.int .i64 u, .int .i64 s, .int .i64 k, .int .i64 h, .int .i64 n, .string t] 25)).alloc (.cells #[.int .i64 q, .slice A' xs.length c'] 28)).alloc (.cells #[.int .i64 0, .int .i64 0, .int .i64 0, .int .i64 0, .int .i64 0, .int .i64 0, .int .i64 0, .int .i64 0, .int .i64 0, .int .i64 0, .string ⟨#[]⟩, .int .i64 0, .slice none 0 0] 30)) = W0 at *
  refine (HR _).out.mono ?_
  rintro e w1 ⟨rfl, b1⟩
  have B1 := B0.trans (b1.mono B0.size)
  have Z1 := Z0.on b1 Z0.lt
  have S1 := S0.up b1
  obtain ⟨p0, p1, p2, p3, p4, p5, p6, p7, p8, p9, p10, p11, p12⟩ := (X0.on b1 X0.lt).rb
  obtain ⟨q0, q1⟩ := Y0.on b1 Y0.lt
  obtain ⟨d0, d1, d2, d3, d4, d5⟩ := C0.on b1 C0.lt
  obtain ⟨g0, g1⟩ := V0.on b1 V0.lt
  clear HR X0 Y0 C0 V0 Z0 S0 B0 b1 hs hs' hl hl'
  go_wp2_with fail
  refine (HO _ S1).out.mono ?_
  rintro e w2 ⟨A9, c9, rfl, f2, b2⟩
  clear HO S1 p0 p1 p2 p3 p4 p5 p6 p7 p8 p9 p10 p11 p12 q0 q1 d0 d1 d2 d3 d4 d5 g0 g1
  have Z8 := Z1.on b2 Z1.lt
  have zlt8 := Z1.lt
  have B8 := B1.trans (b2.mono B1.size)
  have Z9 := Z8.put r A9 c9
  have B9 := below_put B8 (B := w.heap.size + 1 + 1 + 1 + 1) (by omega) r A9 c9
  have F9 := f2.put (B := w.heap.size + 1 + 1 + 1 + 1) zlt8 r A9 c9
  have hq9 := B1.size
  have fz := Z8.free
  obtain ⟨z0, z1, z2, z3, z4, z5, z6, z7, z8, z9, z10, z11, z12⟩ := Z8.rb
  have fin := Lib.hid (And.intro Z9.rb (And.intro (F9.mono (D' := w.heap.size) hq9) B9))
  clear Z8 Z9 B8 B9 F9 b2 f2 zlt8 hq9 
  go_wp2
  exact bodyPost_ret (run_res_vote (B := w.heap.size + 1 + 1 + 1 + 1) rfl rfl fin.out.1) rfl ⟨A9, c9, rfl, fin.out.2.1, fin.out.2.2⟩

set_option maxHeartbeats 2000000 in
theorem vote_late (r : Rd) (A A' : Option Addr) (c c' : Nat) (st x y u s k h n : Int) (t : ByteArray) (q : Int) (xs : List Int) (w : World) (hs : At.Sl w w.heap.size .i64 A r.xs) (hs' : At.Sl w w.heap.size .i64 A' xs) (hl : r.xs.length ≤ 1000) (hl' : xs.length ≤ 1000) (h1 : (r.st == st) = true) (he : ((r.vn == x) && (r.vb == y)) = false) (hr : rf r st x y = true) :
    Calls Tryd.prog 37 #[rv r A c, .int .i64 st, bv x y, cv u s k h n t, av q A' xs.length c'] w (VotePost w r (false)) := by
  have HR : ∀ W, Hid (Calls Tryd.prog 35 #[rv r A c, .int .i64 st, bv x y] W (BoolPost W (rf r st x y))) := fun W => refuses_any r A c st x y W
  have HO : ∀ W, At.Sl W W.heap.size .i64 A r.xs → Hid (Calls Tryd.prog 36 #[rv r A c] W (RecPost W r)) := fun W g => own_any r A c W g hl
  have X0 : Rx (((((w.alloc (.cells (rcs r A c) 30)).alloc (.cells #[.int .i64 x, .int .i64 y] 23)).alloc (.cells #[.int .i64 u, .int .i64 s, .int .i64 k, .int .i64 h, .int .i64 n, .string t] 25)).alloc (.cells #[.int .i64 q, .slice A' xs.length c'] 28)).alloc (.cells #[.int .i64 0, .int .i64 0, .int .i64 0, .int .i64 0, .int .i64 0, .int .i64 0, .int .i64 0, .int .i64 0, .int .i64 0, .int .i64 0, .string ⟨#[]⟩, .int .i64 0, .slice none 0 0] 30)) (w.heap.size) r A c := by
    have h0 := rx_new w r A c
    exact ((((h0.old _).old _).old _).old _)
  have Y0 : Ba.Bb (((((w.alloc (.cells (rcs r A c) 30)).alloc (.cells #[.int .i64 x, .int .i64 y] 23)).alloc (.cells #[.int .i64 u, .int .i64 s, .int .i64 k, .int .i64 h, .int .i64 n, .string t] 25)).alloc (.cells #[.int .i64 q, .slice A' xs.length c'] 28)).alloc (.cells #[.int .i64 0, .int .i64 0, .int .i64 0, .int .i64 0, .int .i64 0, .int .i64 0, .int .i64 0, .int .i64 0, .int .i64 0, .int .i64 0, .string ⟨#[]⟩, .int .i64 0, .slice none 0 0] 30)) (w.heap.size + 1) x y := by
    have h0 := Ba.bx_new (w.alloc (.cells (rcs r A c) 30)) x y
    have h0 := Ba.Bx.bb h0
    rw [show (w.alloc (.cells (rcs r A c) 30)).heap.size = w.heap.size + 1 by simp] at h0
    exact (((h0.old _).old _).old _)
  have C0 : Cb (((((w.alloc (.cells (rcs r A c) 30)).alloc (.cells #[.int .i64 x, .int .i64 y] 23)).alloc (.cells #[.int .i64 u, .int .i64 s, .int .i64 k, .int .i64 h, .int .i64 n, .string t] 25)).alloc (.cells #[.int .i64 q, .slice A' xs.length c'] 28)).alloc (.cells #[.int .i64 0, .int .i64 0, .int .i64 0, .int .i64 0, .int .i64 0, .int .i64 0, .int .i64 0, .int .i64 0, .int .i64 0, .int .i64 0, .string ⟨#[]⟩, .int .i64 0, .slice none 0 0] 30)) (w.heap.size + 1 + 1) u s k h n t := by
    have h0 := cb_new ((w.alloc (.cells (rcs r A c) 30)).alloc (.cells #[.int .i64 x, .int .i64 y] 23)) u s k h n t
    rw [show ((w.alloc (.cells (rcs r A c) 30)).alloc (.cells #[.int .i64 x, .int .i64 y] 23)).heap.size = w.heap.size + 1 + 1 by simp] at h0
    exact ((h0.old _).old _)
  have V0 : Ab (((((w.alloc (.cells (rcs r A c) 30)).alloc (.cells #[.int .i64 x, .int .i64 y] 23)).alloc (.cells #[.int .i64 u, .int .i64 s, .int .i64 k, .int .i64 h, .int .i64 n, .string t] 25)).alloc (.cells #[.int .i64 q, .slice A' xs.length c'] 28)).alloc (.cells #[.int .i64 0, .int .i64 0, .int .i64 0, .int .i64 0, .int .i64 0, .int .i64 0, .int .i64 0, .int .i64 0, .int .i64 0, .int .i64 0, .string ⟨#[]⟩, .int .i64 0, .slice none 0 0] 30)) (w.heap.size + 1 + 1 + 1) q A' xs.length c' := by
    have h0 := ab_new (((w.alloc (.cells (rcs r A c) 30)).alloc (.cells #[.int .i64 x, .int .i64 y] 23)).alloc (.cells #[.int .i64 u, .int .i64 s, .int .i64 k, .int .i64 h, .int .i64 n, .string t] 25)) q A' xs.length c'
    rw [show (((w.alloc (.cells (rcs r A c) 30)).alloc (.cells #[.int .i64 x, .int .i64 y] 23)).alloc (.cells #[.int .i64 u, .int .i64 s, .int .i64 k, .int .i64 h, .int .i64 n, .string t] 25)).heap.size = w.heap.size + 1 + 1 + 1 by simp] at h0
    exact (h0.old _)
  have Z0 : Rx (((((w.alloc (.cells (rcs r A c) 30)).alloc (.cells #[.int .i64 x, .int .i64 y] 23)).alloc (.cells #[.int .i64 u, .int .i64 s, .int .i64 k, .int .i64 h, .int .i64 n, .string t] 25)).alloc (.cells #[.int .i64 q, .slice A' xs.length c'] 28)).alloc (.cells #[.int .i64 0, .int .i64 0, .int .i64 0, .int .i64 0, .int .i64 0, .int .i64 0, .int .i64 0, .int .i64 0, .int .i64 0, .int .i64 0, .string ⟨#[]⟩, .int .i64 0, .slice none 0 0] 30)) (w.heap.size + 1 + 1 + 1 + 1) ⟨0, 0, 0, 0, 0, 0, 0, 0, 0, 0, ⟨#[]⟩, 0, []⟩ none 0 := by
    have h0 := zero_box ((((w.alloc (.cells (rcs r A c) 30)).alloc (.cells #[.int .i64 x, .int .i64 y] 23)).alloc (.cells #[.int .i64 u, .int .i64 s, .int .i64 k, .int .i64 h, .int .i64 n, .string t] 25)).alloc (.cells #[.int .i64 q, .slice A' xs.length c'] 28)) 
    rw [show ((((w.alloc (.cells (rcs r A c) 30)).alloc (.cells #[.int .i64 x, .int .i64 y] 23)).alloc (.cells #[.int .i64 u, .int .i64 s, .int .i64 k, .int .i64 h, .int .i64 n, .string t] 25)).alloc (.cells #[.int .i64 q, .slice A' xs.length c'] 28)).heap.size = w.heap.size + 1 + 1 + 1 + 1 by simp] at h0
    exact h0
  have B0 : Below w.heap.size w (((((w.alloc (.cells (rcs r A c) 30)).alloc (.cells #[.int .i64 x, .int .i64 y] 23)).alloc (.cells #[.int .i64 u, .int .i64 s, .int .i64 k, .int .i64 h, .int .i64 n, .string t] 25)).alloc (.cells #[.int .i64 q, .slice A' xs.length c'] 28)).alloc (.cells #[.int .i64 0, .int .i64 0, .int .i64 0, .int .i64 0, .int .i64 0, .int .i64 0, .int .i64 0, .int .i64 0, .int .i64 0, .int .i64 0, .string ⟨#[]⟩, .int .i64 0, .slice none 0 0] 30)) := ((((((Below.refl _ _).alloc (Nat.le_refl _) _).alloc (by first | (simp; done) | (simp; omega)) _).alloc (by first | (simp; done) | (simp; omega)) _).alloc (by first | (simp; done) | (simp; omega)) _).alloc (by first | (simp; done) | (simp; omega)) _)
  have S0 := hs.to B0 B0.size
  rw [hr] at HR
  clear hr
  go_enter Tryd.func37, Tryd.ntmps37
  go_wp2_with fail
  generalize (((((w.alloc (.cells (rcs r A c) 30)).alloc (.cells #[.int .i64 x, .int .i64 y] 23)).alloc (.cells #[.int .i64 u, .int .i64 s, .int .i64 k, .int .i64 h, .int .i64 n, .string t] 25)).alloc (.cells #[.int .i64 q, .slice A' xs.length c'] 28)).alloc (.cells #[.int .i64 0, .int .i64 0, .int .i64 0, .int .i64 0, .int .i64 0, .int .i64 0, .int .i64 0, .int .i64 0, .int .i64 0, .int .i64 0, .string ⟨#[]⟩, .int .i64 0, .slice none 0 0] 30)) = W0 at *
  refine (HR _).out.mono ?_
  rintro e w1 ⟨rfl, b1⟩
  have B1 := B0.trans (b1.mono B0.size)
  have Z1 := Z0.on b1 Z0.lt
  have S1 := S0.up b1
  obtain ⟨p0, p1, p2, p3, p4, p5, p6, p7, p8, p9, p10, p11, p12⟩ := (X0.on b1 X0.lt).rb
  obtain ⟨q0, q1⟩ := Y0.on b1 Y0.lt
  obtain ⟨d0, d1, d2, d3, d4, d5⟩ := C0.on b1 C0.lt
  obtain ⟨g0, g1⟩ := V0.on b1 V0.lt
  clear HR X0 Y0 C0 V0 Z0 S0 B0 b1 hs hs' hl hl'
  go_wp2_with fail
  refine (HO _ S1).out.mono ?_
  rintro e w2 ⟨A9, c9, rfl, f2, b2⟩
  clear HO S1 p0 p1 p2 p3 p4 p5 p6 p7 p8 p9 p10 p11 p12 q0 q1 d0 d1 d2 d3 d4 d5 g0 g1
  have Z8 := Z1.on b2 Z1.lt
  have zlt8 := Z1.lt
  have B8 := B1.trans (b2.mono B1.size)
  have Z9 := Z8.put r A9 c9
  have B9 := below_put B8 (B := w.heap.size + 1 + 1 + 1 + 1) (by omega) r A9 c9
  have F9 := f2.put (B := w.heap.size + 1 + 1 + 1 + 1) zlt8 r A9 c9
  have hq9 := B1.size
  have fz := Z8.free
  obtain ⟨z0, z1, z2, z3, z4, z5, z6, z7, z8, z9, z10, z11, z12⟩ := Z8.rb
  have fin := Lib.hid (And.intro Z9.rb (And.intro (F9.mono (D' := w.heap.size) hq9) B9))
  clear Z8 Z9 B8 B9 F9 b2 f2 zlt8 hq9 
  go_wp2
  exact bodyPost_ret (run_res_vote (B := w.heap.size + 1 + 1 + 1 + 1) rfl rfl fin.out.1) rfl ⟨A9, c9, rfl, fin.out.2.1, fin.out.2.2⟩

set_option maxHeartbeats 2000000 in
theorem vote_new (r : Rd) (A A' : Option Addr) (c c' : Nat) (st x y u s k h n : Int) (t : ByteArray) (q : Int) (xs : List Int) (w : World) (hs : At.Sl w w.heap.size .i64 A r.xs) (hs' : At.Sl w w.heap.size .i64 A' xs) (hl : r.xs.length ≤ 1000) (hl' : xs.length ≤ 1000) (h1 : (r.st == st) = true) (he : ((r.vn == x) && (r.vb == y)) = false) (hr : rf r st x y = false) :
    Calls Tryd.prog 37 #[rv r A c, .int .i64 st, bv x y, cv u s k h n t, av q A' xs.length c'] w (VotePost w ⟨st, x, y, x, y, u, s, k, h, n, t, q, xs⟩ (true)) := by
  have HR : ∀ W, Hid (Calls Tryd.prog 35 #[rv r A c, .int .i64 st, bv x y] W (BoolPost W (rf r st x y))) := fun W => refuses_any r A c st x y W
  have HO : ∀ W, At.Sl W W.heap.size .i64 A' xs → Hid (Calls Tryd.prog 36 #[.agg #[.int .i64 st, .int .i64 x, .int .i64 y, .int .i64 x, .int .i64 y, .int .i64 u, .int .i64 s, .int .i64 k, .int .i64 h, .int .i64 n, .string t, .int .i64 q, .slice A' xs.length c']] W (RecPost W ⟨st, x, y, x, y, u, s, k, h, n, t, q, xs⟩)) := fun W g => own_any ⟨st, x, y, x, y, u, s, k, h, n, t, q, xs⟩ A' c' W g hl'
  have X0 : Rx (((((w.alloc (.cells (rcs r A c) 30)).alloc (.cells #[.int .i64 x, .int .i64 y] 23)).alloc (.cells #[.int .i64 u, .int .i64 s, .int .i64 k, .int .i64 h, .int .i64 n, .string t] 25)).alloc (.cells #[.int .i64 q, .slice A' xs.length c'] 28)).alloc (.cells #[.int .i64 0, .int .i64 0, .int .i64 0, .int .i64 0, .int .i64 0, .int .i64 0, .int .i64 0, .int .i64 0, .int .i64 0, .int .i64 0, .string ⟨#[]⟩, .int .i64 0, .slice none 0 0] 30)) (w.heap.size) r A c := by
    have h0 := rx_new w r A c
    exact ((((h0.old _).old _).old _).old _)
  have Y0 : Ba.Bb (((((w.alloc (.cells (rcs r A c) 30)).alloc (.cells #[.int .i64 x, .int .i64 y] 23)).alloc (.cells #[.int .i64 u, .int .i64 s, .int .i64 k, .int .i64 h, .int .i64 n, .string t] 25)).alloc (.cells #[.int .i64 q, .slice A' xs.length c'] 28)).alloc (.cells #[.int .i64 0, .int .i64 0, .int .i64 0, .int .i64 0, .int .i64 0, .int .i64 0, .int .i64 0, .int .i64 0, .int .i64 0, .int .i64 0, .string ⟨#[]⟩, .int .i64 0, .slice none 0 0] 30)) (w.heap.size + 1) x y := by
    have h0 := Ba.bx_new (w.alloc (.cells (rcs r A c) 30)) x y
    have h0 := Ba.Bx.bb h0
    rw [show (w.alloc (.cells (rcs r A c) 30)).heap.size = w.heap.size + 1 by simp] at h0
    exact (((h0.old _).old _).old _)
  have C0 : Cb (((((w.alloc (.cells (rcs r A c) 30)).alloc (.cells #[.int .i64 x, .int .i64 y] 23)).alloc (.cells #[.int .i64 u, .int .i64 s, .int .i64 k, .int .i64 h, .int .i64 n, .string t] 25)).alloc (.cells #[.int .i64 q, .slice A' xs.length c'] 28)).alloc (.cells #[.int .i64 0, .int .i64 0, .int .i64 0, .int .i64 0, .int .i64 0, .int .i64 0, .int .i64 0, .int .i64 0, .int .i64 0, .int .i64 0, .string ⟨#[]⟩, .int .i64 0, .slice none 0 0] 30)) (w.heap.size + 1 + 1) u s k h n t := by
    have h0 := cb_new ((w.alloc (.cells (rcs r A c) 30)).alloc (.cells #[.int .i64 x, .int .i64 y] 23)) u s k h n t
    rw [show ((w.alloc (.cells (rcs r A c) 30)).alloc (.cells #[.int .i64 x, .int .i64 y] 23)).heap.size = w.heap.size + 1 + 1 by simp] at h0
    exact ((h0.old _).old _)
  have V0 : Ab (((((w.alloc (.cells (rcs r A c) 30)).alloc (.cells #[.int .i64 x, .int .i64 y] 23)).alloc (.cells #[.int .i64 u, .int .i64 s, .int .i64 k, .int .i64 h, .int .i64 n, .string t] 25)).alloc (.cells #[.int .i64 q, .slice A' xs.length c'] 28)).alloc (.cells #[.int .i64 0, .int .i64 0, .int .i64 0, .int .i64 0, .int .i64 0, .int .i64 0, .int .i64 0, .int .i64 0, .int .i64 0, .int .i64 0, .string ⟨#[]⟩, .int .i64 0, .slice none 0 0] 30)) (w.heap.size + 1 + 1 + 1) q A' xs.length c' := by
    have h0 := ab_new (((w.alloc (.cells (rcs r A c) 30)).alloc (.cells #[.int .i64 x, .int .i64 y] 23)).alloc (.cells #[.int .i64 u, .int .i64 s, .int .i64 k, .int .i64 h, .int .i64 n, .string t] 25)) q A' xs.length c'
    rw [show (((w.alloc (.cells (rcs r A c) 30)).alloc (.cells #[.int .i64 x, .int .i64 y] 23)).alloc (.cells #[.int .i64 u, .int .i64 s, .int .i64 k, .int .i64 h, .int .i64 n, .string t] 25)).heap.size = w.heap.size + 1 + 1 + 1 by simp] at h0
    exact (h0.old _)
  have Z0 : Rx (((((w.alloc (.cells (rcs r A c) 30)).alloc (.cells #[.int .i64 x, .int .i64 y] 23)).alloc (.cells #[.int .i64 u, .int .i64 s, .int .i64 k, .int .i64 h, .int .i64 n, .string t] 25)).alloc (.cells #[.int .i64 q, .slice A' xs.length c'] 28)).alloc (.cells #[.int .i64 0, .int .i64 0, .int .i64 0, .int .i64 0, .int .i64 0, .int .i64 0, .int .i64 0, .int .i64 0, .int .i64 0, .int .i64 0, .string ⟨#[]⟩, .int .i64 0, .slice none 0 0] 30)) (w.heap.size + 1 + 1 + 1 + 1) ⟨0, 0, 0, 0, 0, 0, 0, 0, 0, 0, ⟨#[]⟩, 0, []⟩ none 0 := by
    have h0 := zero_box ((((w.alloc (.cells (rcs r A c) 30)).alloc (.cells #[.int .i64 x, .int .i64 y] 23)).alloc (.cells #[.int .i64 u, .int .i64 s, .int .i64 k, .int .i64 h, .int .i64 n, .string t] 25)).alloc (.cells #[.int .i64 q, .slice A' xs.length c'] 28)) 
    rw [show ((((w.alloc (.cells (rcs r A c) 30)).alloc (.cells #[.int .i64 x, .int .i64 y] 23)).alloc (.cells #[.int .i64 u, .int .i64 s, .int .i64 k, .int .i64 h, .int .i64 n, .string t] 25)).alloc (.cells #[.int .i64 q, .slice A' xs.length c'] 28)).heap.size = w.heap.size + 1 + 1 + 1 + 1 by simp] at h0
    exact h0
  have B0 : Below w.heap.size w (((((w.alloc (.cells (rcs r A c) 30)).alloc (.cells #[.int .i64 x, .int .i64 y] 23)).alloc (.cells #[.int .i64 u, .int .i64 s, .int .i64 k, .int .i64 h, .int .i64 n, .string t] 25)).alloc (.cells #[.int .i64 q, .slice A' xs.length c'] 28)).alloc (.cells #[.int .i64 0, .int .i64 0, .int .i64 0, .int .i64 0, .int .i64 0, .int .i64 0, .int .i64 0, .int .i64 0, .int .i64 0, .int .i64 0, .string ⟨#[]⟩, .int .i64 0, .slice none 0 0] 30)) := ((((((Below.refl _ _).alloc (Nat.le_refl _) _).alloc (by first | (simp; done) | (simp; omega)) _).alloc (by first | (simp; done) | (simp; omega)) _).alloc (by first | (simp; done) | (simp; omega)) _).alloc (by first | (simp; done) | (simp; omega)) _)
  have S0 := hs'.to B0 B0.size
  rw [hr] at HR
  clear hr
  go_enter Tryd.func37, Tryd.ntmps37
  go_wp2_with fail
  generalize (((((w.alloc (.cells (rcs r A c) 30)).alloc (.cells #[.int .i64 x, .int .i64 y] 23)).alloc (.cells #[.int .i64 u, .int .i64 s, .int .i64 k, .int .i64 h, .int .i64 n, .string t] 25)).alloc (.cells #[.int .i64 q, .slice A' xs.length c'] 28)).alloc (.cells #[.int .i64 0, .int .i64 0, .int .i64 0, .int .i64 0, .int .i64 0, .int .i64 0, .int .i64 0, .int .i64 0, .int .i64 0, .int .i64 0, .string ⟨#[]⟩, .int .i64 0, .slice none 0 0] 30)) = W0 at *
  refine (HR _).out.mono ?_
  rintro e w1 ⟨rfl, b1⟩
  have B1 := B0.trans (b1.mono B0.size)
  have Z1 := Z0.on b1 Z0.lt
  have S1 := S0.up b1
  obtain ⟨p0, p1, p2, p3, p4, p5, p6, p7, p8, p9, p10, p11, p12⟩ := (X0.on b1 X0.lt).rb
  obtain ⟨q0, q1⟩ := Y0.on b1 Y0.lt
  obtain ⟨d0, d1, d2, d3, d4, d5⟩ := C0.on b1 C0.lt
  obtain ⟨g0, g1⟩ := V0.on b1 V0.lt
  clear HR X0 Y0 C0 V0 Z0 S0 B0 b1 hs hs' hl hl'
  go_wp2_with fail
  refine (HO _ S1).out.mono ?_
  rintro e w2 ⟨A9, c9, rfl, f2, b2⟩
  clear HO S1 p0 p1 p2 p3 p4 p5 p6 p7 p8 p9 p10 p11 p12 q0 q1 d0 d1 d2 d3 d4 d5 g0 g1
  have Z8 := Z1.on b2 Z1.lt
  have zlt8 := Z1.lt
  have B8 := B1.trans (b2.mono B1.size)
  have Z9 := Z8.put ⟨st, x, y, x, y, u, s, k, h, n, t, q, xs⟩ A9 c9
  have B9 := below_put B8 (B := w.heap.size + 1 + 1 + 1 + 1) (by omega) ⟨st, x, y, x, y, u, s, k, h, n, t, q, xs⟩ A9 c9
  have F9 := f2.put (B := w.heap.size + 1 + 1 + 1 + 1) zlt8 ⟨st, x, y, x, y, u, s, k, h, n, t, q, xs⟩ A9 c9
  have hq9 := B1.size
  have fz := Z8.free
  obtain ⟨z0, z1, z2, z3, z4, z5, z6, z7, z8, z9, z10, z11, z12⟩ := Z8.rb
  have fin := Lib.hid (And.intro Z9.rb (And.intro (F9.mono (D' := w.heap.size) hq9) B9))
  clear Z8 Z9 B8 B9 F9 b2 f2 zlt8 hq9 
  go_wp2
  exact bodyPost_ret (run_res_vote (B := w.heap.size + 1 + 1 + 1 + 1) rfl rfl fin.out.1) rfl ⟨A9, c9, rfl, fin.out.2.1, fin.out.2.2⟩

set_option maxHeartbeats 2000000 in
theorem vote_late2 (r : Rd) (A A' : Option Addr) (c c' : Nat) (st x y u s k h n : Int) (t : ByteArray) (q : Int) (xs : List Int) (w : World) (hs : At.Sl w w.heap.size .i64 A r.xs) (hs' : At.Sl w w.heap.size .i64 A' xs) (hl : r.xs.length ≤ 1000) (hl' : xs.length ≤ 1000) (h1 : (r.st == st) = false) (hr : rf r st x y = true) :
    Calls Tryd.prog 37 #[rv r A c, .int .i64 st, bv x y, cv u s k h n t, av q A' xs.length c'] w (VotePost w r (false)) := by
  have HR : ∀ W, Hid (Calls Tryd.prog 35 #[rv r A c, .int .i64 st, bv x y] W (BoolPost W (rf r st x y))) := fun W => refuses_any r A c st x y W
  have HO : ∀ W, At.Sl W W.heap.size .i64 A r.xs → Hid (Calls Tryd.prog 36 #[rv r A c] W (RecPost W r)) := fun W g => own_any r A c W g hl
  have X0 : Rx (((((w.alloc (.cells (rcs r A c) 30)).alloc (.cells #[.int .i64 x, .int .i64 y] 23)).alloc (.cells #[.int .i64 u, .int .i64 s, .int .i64 k, .int .i64 h, .int .i64 n, .string t] 25)).alloc (.cells #[.int .i64 q, .slice A' xs.length c'] 28)).alloc (.cells #[.int .i64 0, .int .i64 0, .int .i64 0, .int .i64 0, .int .i64 0, .int .i64 0, .int .i64 0, .int .i64 0, .int .i64 0, .int .i64 0, .string ⟨#[]⟩, .int .i64 0, .slice none 0 0] 30)) (w.heap.size) r A c := by
    have h0 := rx_new w r A c
    exact ((((h0.old _).old _).old _).old _)
  have Y0 : Ba.Bb (((((w.alloc (.cells (rcs r A c) 30)).alloc (.cells #[.int .i64 x, .int .i64 y] 23)).alloc (.cells #[.int .i64 u, .int .i64 s, .int .i64 k, .int .i64 h, .int .i64 n, .string t] 25)).alloc (.cells #[.int .i64 q, .slice A' xs.length c'] 28)).alloc (.cells #[.int .i64 0, .int .i64 0, .int .i64 0, .int .i64 0, .int .i64 0, .int .i64 0, .int .i64 0, .int .i64 0, .int .i64 0, .int .i64 0, .string ⟨#[]⟩, .int .i64 0, .slice none 0 0] 30)) (w.heap.size + 1) x y := by
    have h0 := Ba.bx_new (w.alloc (.cells (rcs r A c) 30)) x y
    have h0 := Ba.Bx.bb h0
    rw [show (w.alloc (.cells (rcs r A c) 30)).heap.size = w.heap.size + 1 by simp] at h0
    exact (((h0.old _).old _).old _)
  have C0 : Cb (((((w.alloc (.cells (rcs r A c) 30)).alloc (.cells #[.int .i64 x, .int .i64 y] 23)).alloc (.cells #[.int .i64 u, .int .i64 s, .int .i64 k, .int .i64 h, .int .i64 n, .string t] 25)).alloc (.cells #[.int .i64 q, .slice A' xs.length c'] 28)).alloc (.cells #[.int .i64 0, .int .i64 0, .int .i64 0, .int .i64 0, .int .i64 0, .int .i64 0, .int .i64 0, .int .i64 0, .int .i64 0, .int .i64 0, .string ⟨#[]⟩, .int .i64 0, .slice none 0 0] 30)) (w.heap.size + 1 + 1) u s k h n t := by
    have h0 := cb_new ((w.alloc (.cells (rcs r A c) 30)).alloc (.cells #[.int .i64 x, .int .i64 y] 23)) u s k h n t
    rw [show ((w.alloc (.cells (rcs r A c) 30)).alloc (.cells #[.int .i64 x, .int .i64 y] 23)).heap.size = w.heap.size + 1 + 1 by simp] at h0
    exact ((h0.old _).old _)
  have V0 : Ab (((((w.alloc (.cells (rcs r A c) 30)).alloc (.cells #[.int .i64 x, .int .i64 y] 23)).alloc (.cells #[.int .i64 u, .int .i64 s, .int .i64 k, .int .i64 h, .int .i64 n, .string t] 25)).alloc (.cells #[.int .i64 q, .slice A' xs.length c'] 28)).alloc (.cells #[.int .i64 0, .int .i64 0, .int .i64 0, .int .i64 0, .int .i64 0, .int .i64 0, .int .i64 0, .int .i64 0, .int .i64 0, .int .i64 0, .string ⟨#[]⟩, .int .i64 0, .slice none 0 0] 30)) (w.heap.size + 1 + 1 + 1) q A' xs.length c' := by
    have h0 := ab_new (((w.alloc (.cells (rcs r A c) 30)).alloc (.cells #[.int .i64 x, .int .i64 y] 23)).alloc (.cells #[.int .i64 u, .int .i64 s, .int .i64 k, .int .i64 h, .int .i64 n, .string t] 25)) q A' xs.length c'
    rw [show (((w.alloc (.cells (rcs r A c) 30)).alloc (.cells #[.int .i64 x, .int .i64 y] 23)).alloc (.cells #[.int .i64 u, .int .i64 s, .int .i64 k, .int .i64 h, .int .i64 n, .string t] 25)).heap.size = w.heap.size + 1 + 1 + 1 by simp] at h0
    exact (h0.old _)
  have Z0 : Rx (((((w.alloc (.cells (rcs r A c) 30)).alloc (.cells #[.int .i64 x, .int .i64 y] 23)).alloc (.cells #[.int .i64 u, .int .i64 s, .int .i64 k, .int .i64 h, .int .i64 n, .string t] 25)).alloc (.cells #[.int .i64 q, .slice A' xs.length c'] 28)).alloc (.cells #[.int .i64 0, .int .i64 0, .int .i64 0, .int .i64 0, .int .i64 0, .int .i64 0, .int .i64 0, .int .i64 0, .int .i64 0, .int .i64 0, .string ⟨#[]⟩, .int .i64 0, .slice none 0 0] 30)) (w.heap.size + 1 + 1 + 1 + 1) ⟨0, 0, 0, 0, 0, 0, 0, 0, 0, 0, ⟨#[]⟩, 0, []⟩ none 0 := by
    have h0 := zero_box ((((w.alloc (.cells (rcs r A c) 30)).alloc (.cells #[.int .i64 x, .int .i64 y] 23)).alloc (.cells #[.int .i64 u, .int .i64 s, .int .i64 k, .int .i64 h, .int .i64 n, .string t] 25)).alloc (.cells #[.int .i64 q, .slice A' xs.length c'] 28)) 
    rw [show ((((w.alloc (.cells (rcs r A c) 30)).alloc (.cells #[.int .i64 x, .int .i64 y] 23)).alloc (.cells #[.int .i64 u, .int .i64 s, .int .i64 k, .int .i64 h, .int .i64 n, .string t] 25)).alloc (.cells #[.int .i64 q, .slice A' xs.length c'] 28)).heap.size = w.heap.size + 1 + 1 + 1 + 1 by simp] at h0
    exact h0
  have B0 : Below w.heap.size w (((((w.alloc (.cells (rcs r A c) 30)).alloc (.cells #[.int .i64 x, .int .i64 y] 23)).alloc (.cells #[.int .i64 u, .int .i64 s, .int .i64 k, .int .i64 h, .int .i64 n, .string t] 25)).alloc (.cells #[.int .i64 q, .slice A' xs.length c'] 28)).alloc (.cells #[.int .i64 0, .int .i64 0, .int .i64 0, .int .i64 0, .int .i64 0, .int .i64 0, .int .i64 0, .int .i64 0, .int .i64 0, .int .i64 0, .string ⟨#[]⟩, .int .i64 0, .slice none 0 0] 30)) := ((((((Below.refl _ _).alloc (Nat.le_refl _) _).alloc (by first | (simp; done) | (simp; omega)) _).alloc (by first | (simp; done) | (simp; omega)) _).alloc (by first | (simp; done) | (simp; omega)) _).alloc (by first | (simp; done) | (simp; omega)) _)
  have S0 := hs.to B0 B0.size
  rw [hr] at HR
  clear hr
  go_enter Tryd.func37, Tryd.ntmps37
  go_wp2_with fail
  generalize (((((w.alloc (.cells (rcs r A c) 30)).alloc (.cells #[.int .i64 x, .int .i64 y] 23)).alloc (.cells #[.int .i64 u, .int .i64 s, .int .i64 k, .int .i64 h, .int .i64 n, .string t] 25)).alloc (.cells #[.int .i64 q, .slice A' xs.length c'] 28)).alloc (.cells #[.int .i64 0, .int .i64 0, .int .i64 0, .int .i64 0, .int .i64 0, .int .i64 0, .int .i64 0, .int .i64 0, .int .i64 0, .int .i64 0, .string ⟨#[]⟩, .int .i64 0, .slice none 0 0] 30)) = W0 at *
  refine (HR _).out.mono ?_
  rintro e w1 ⟨rfl, b1⟩
  have B1 := B0.trans (b1.mono B0.size)
  have Z1 := Z0.on b1 Z0.lt
  have S1 := S0.up b1
  obtain ⟨p0, p1, p2, p3, p4, p5, p6, p7, p8, p9, p10, p11, p12⟩ := (X0.on b1 X0.lt).rb
  obtain ⟨q0, q1⟩ := Y0.on b1 Y0.lt
  obtain ⟨d0, d1, d2, d3, d4, d5⟩ := C0.on b1 C0.lt
  obtain ⟨g0, g1⟩ := V0.on b1 V0.lt
  clear HR X0 Y0 C0 V0 Z0 S0 B0 b1 hs hs' hl hl'
  go_wp2_with fail
  refine (HO _ S1).out.mono ?_
  rintro e w2 ⟨A9, c9, rfl, f2, b2⟩
  clear HO S1 p0 p1 p2 p3 p4 p5 p6 p7 p8 p9 p10 p11 p12 q0 q1 d0 d1 d2 d3 d4 d5 g0 g1
  have Z8 := Z1.on b2 Z1.lt
  have zlt8 := Z1.lt
  have B8 := B1.trans (b2.mono B1.size)
  have Z9 := Z8.put r A9 c9
  have B9 := below_put B8 (B := w.heap.size + 1 + 1 + 1 + 1) (by omega) r A9 c9
  have F9 := f2.put (B := w.heap.size + 1 + 1 + 1 + 1) zlt8 r A9 c9
  have hq9 := B1.size
  have fz := Z8.free
  obtain ⟨z0, z1, z2, z3, z4, z5, z6, z7, z8, z9, z10, z11, z12⟩ := Z8.rb
  have fin := Lib.hid (And.intro Z9.rb (And.intro (F9.mono (D' := w.heap.size) hq9) B9))
  clear Z8 Z9 B8 B9 F9 b2 f2 zlt8 hq9 
  go_wp2
  exact bodyPost_ret (run_res_vote (B := w.heap.size + 1 + 1 + 1 + 1) rfl rfl fin.out.1) rfl ⟨A9, c9, rfl, fin.out.2.1, fin.out.2.2⟩

set_option maxHeartbeats 2000000 in
theorem vote_new2 (r : Rd) (A A' : Option Addr) (c c' : Nat) (st x y u s k h n : Int) (t : ByteArray) (q : Int) (xs : List Int) (w : World) (hs : At.Sl w w.heap.size .i64 A r.xs) (hs' : At.Sl w w.heap.size .i64 A' xs) (hl : r.xs.length ≤ 1000) (hl' : xs.length ≤ 1000) (h1 : (r.st == st) = false) (hr : rf r st x y = false) :
    Calls Tryd.prog 37 #[rv r A c, .int .i64 st, bv x y, cv u s k h n t, av q A' xs.length c'] w (VotePost w ⟨st, x, y, x, y, u, s, k, h, n, t, q, xs⟩ (true)) := by
  have HR : ∀ W, Hid (Calls Tryd.prog 35 #[rv r A c, .int .i64 st, bv x y] W (BoolPost W (rf r st x y))) := fun W => refuses_any r A c st x y W
  have HO : ∀ W, At.Sl W W.heap.size .i64 A' xs → Hid (Calls Tryd.prog 36 #[.agg #[.int .i64 st, .int .i64 x, .int .i64 y, .int .i64 x, .int .i64 y, .int .i64 u, .int .i64 s, .int .i64 k, .int .i64 h, .int .i64 n, .string t, .int .i64 q, .slice A' xs.length c']] W (RecPost W ⟨st, x, y, x, y, u, s, k, h, n, t, q, xs⟩)) := fun W g => own_any ⟨st, x, y, x, y, u, s, k, h, n, t, q, xs⟩ A' c' W g hl'
  have X0 : Rx (((((w.alloc (.cells (rcs r A c) 30)).alloc (.cells #[.int .i64 x, .int .i64 y] 23)).alloc (.cells #[.int .i64 u, .int .i64 s, .int .i64 k, .int .i64 h, .int .i64 n, .string t] 25)).alloc (.cells #[.int .i64 q, .slice A' xs.length c'] 28)).alloc (.cells #[.int .i64 0, .int .i64 0, .int .i64 0, .int .i64 0, .int .i64 0, .int .i64 0, .int .i64 0, .int .i64 0, .int .i64 0, .int .i64 0, .string ⟨#[]⟩, .int .i64 0, .slice none 0 0] 30)) (w.heap.size) r A c := by
    have h0 := rx_new w r A c
    exact ((((h0.old _).old _).old _).old _)
  have Y0 : Ba.Bb (((((w.alloc (.cells (rcs r A c) 30)).alloc (.cells #[.int .i64 x, .int .i64 y] 23)).alloc (.cells #[.int .i64 u, .int .i64 s, .int .i64 k, .int .i64 h, .int .i64 n, .string t] 25)).alloc (.cells #[.int .i64 q, .slice A' xs.length c'] 28)).alloc (.cells #[.int .i64 0, .int .i64 0, .int .i64 0, .int .i64 0, .int .i64 0, .int .i64 0, .int .i64 0, .int .i64 0, .int .i64 0, .int .i64 0, .string ⟨#[]⟩, .int .i64 0, .slice none 0 0] 30)) (w.heap.size + 1) x y := by
    have h0 := Ba.bx_new (w.alloc (.cells (rcs r A c) 30)) x y
    have h0 := Ba.Bx.bb h0
    rw [show (w.alloc (.cells (rcs r A c) 30)).heap.size = w.heap.size + 1 by simp] at h0
    exact (((h0.old _).old _).old _)
  have C0 : Cb (((((w.alloc (.cells (rcs r A c) 30)).alloc (.cells #[.int .i64 x, .int .i64 y] 23)).alloc (.cells #[.int .i64 u, .int .i64 s, .int .i64 k, .int .i64 h, .int .i64 n, .string t] 25)).alloc (.cells #[.int .i64 q, .slice A' xs.length c'] 28)).alloc (.cells #[.int .i64 0, .int .i64 0, .int .i64 0, .int .i64 0, .int .i64 0, .int .i64 0, .int .i64 0, .int .i64 0, .int .i64 0, .int .i64 0, .string ⟨#[]⟩, .int .i64 0, .slice none 0 0] 30)) (w.heap.size + 1 + 1) u s k h n t := by
    have h0 := cb_new ((w.alloc (.cells (rcs r A c) 30)).alloc (.cells #[.int .i64 x, .int .i64 y] 23)) u s k h n t
    rw [show ((w.alloc (.cells (rcs r A c) 30)).alloc (.cells #[.int .i64 x, .int .i64 y] 23)).heap.size = w.heap.size + 1 + 1 by simp] at h0
    exact ((h0.old _).old _)
  have V0 : Ab (((((w.alloc (.cells (rcs r A c) 30)).alloc (.cells #[.int .i64 x, .int .i64 y] 23)).alloc (.cells #[.int .i64 u, .int .i64 s, .int .i64 k, .int .i64 h, .int .i64 n, .string t] 25)).alloc (.cells #[.int .i64 q, .slice A' xs.length c'] 28)).alloc (.cells #[.int .i64 0, .int .i64 0, .int .i64 0, .int .i64 0, .int .i64 0, .int .i64 0, .int .i64 0, .int .i64 0, .int .i64 0, .int .i64 0, .string ⟨#[]⟩, .int .i64 0, .slice none 0 0] 30)) (w.heap.size + 1 + 1 + 1) q A' xs.length c' := by
    have h0 := ab_new (((w.alloc (.cells (rcs r A c) 30)).alloc (.cells #[.int .i64 x, .int .i64 y] 23)).alloc (.cells #[.int .i64 u, .int .i64 s, .int .i64 k, .int .i64 h, .int .i64 n, .string t] 25)) q A' xs.length c'
    rw [show (((w.alloc (.cells (rcs r A c) 30)).alloc (.cells #[.int .i64 x, .int .i64 y] 23)).alloc (.cells #[.int .i64 u, .int .i64 s, .int .i64 k, .int .i64 h, .int .i64 n, .string t] 25)).heap.size = w.heap.size + 1 + 1 + 1 by simp] at h0
    exact (h0.old _)
  have Z0 : Rx (((((w.alloc (.cells (rcs r A c) 30)).alloc (.cells #[.int .i64 x, .int .i64 y] 23)).alloc (.cells #[.int .i64 u, .int .i64 s, .int .i64 k, .int .i64 h, .int .i64 n, .string t] 25)).alloc (.cells #[.int .i64 q, .slice A' xs.length c'] 28)).alloc (.cells #[.int .i64 0, .int .i64 0, .int .i64 0, .int .i64 0, .int .i64 0, .int .i64 0, .int .i64 0, .int .i64 0, .int .i64 0, .int .i64 0, .string ⟨#[]⟩, .int .i64 0, .slice none 0 0] 30)) (w.heap.size + 1 + 1 + 1 + 1) ⟨0, 0, 0, 0, 0, 0, 0, 0, 0, 0, ⟨#[]⟩, 0, []⟩ none 0 := by
    have h0 := zero_box ((((w.alloc (.cells (rcs r A c) 30)).alloc (.cells #[.int .i64 x, .int .i64 y] 23)).alloc (.cells #[.int .i64 u, .int .i64 s, .int .i64 k, .int .i64 h, .int .i64 n, .string t] 25)).alloc (.cells #[.int .i64 q, .slice A' xs.length c'] 28)) 
    rw [show ((((w.alloc (.cells (rcs r A c) 30)).alloc (.cells #[.int .i64 x, .int .i64 y] 23)).alloc (.cells #[.int .i64 u, .int .i64 s, .int .i64 k, .int .i64 h, .int .i64 n, .string t] 25)).alloc (.cells #[.int .i64 q, .slice A' xs.length c'] 28)).heap.size = w.heap.size + 1 + 1 + 1 + 1 by simp] at h0
    exact h0
  have B0 : Below w.heap.size w (((((w.alloc (.cells (rcs r A c) 30)).alloc (.cells #[.int .i64 x, .int .i64 y] 23)).alloc (.cells #[.int .i64 u, .int .i64 s, .int .i64 k, .int .i64 h, .int .i64 n, .string t] 25)).alloc (.cells #[.int .i64 q, .slice A' xs.length c'] 28)).alloc (.cells #[.int .i64 0, .int .i64 0, .int .i64 0, .int .i64 0, .int .i64 0, .int .i64 0, .int .i64 0, .int .i64 0, .int .i64 0, .int .i64 0, .string ⟨#[]⟩, .int .i64 0, .slice none 0 0] 30)) := ((((((Below.refl _ _).alloc (Nat.le_refl _) _).alloc (by first | (simp; done) | (simp; omega)) _).alloc (by first | (simp; done) | (simp; omega)) _).alloc (by first | (simp; done) | (simp; omega)) _).alloc (by first | (simp; done) | (simp; omega)) _)
  have S0 := hs'.to B0 B0.size
  rw [hr] at HR
  clear hr
  go_enter Tryd.func37, Tryd.ntmps37
  go_wp2_with fail
  generalize (((((w.alloc (.cells (rcs r A c) 30)).alloc (.cells #[.int .i64 x, .int .i64 y] 23)).alloc (.cells #[.int .i64 u, .int .i64 s, .int .i64 k, .int .i64 h, .int .i64 n, .string t] 25)).alloc (.cells #[.int .i64 q, .slice A' xs.length c'] 28)).alloc (.cells #[.int .i64 0, .int .i64 0, .int .i64 0, .int .i64 0, .int .i64 0, .int .i64 0, .int .i64 0, .int .i64 0, .int .i64 0, .int .i64 0, .string ⟨#[]⟩, .int .i64 0, .slice none 0 0] 30)) = W0 at *
  refine (HR _).out.mono ?_
  rintro e w1 ⟨rfl, b1⟩
  have B1 := B0.trans (b1.mono B0.size)
  have Z1 := Z0.on b1 Z0.lt
  have S1 := S0.up b1
  obtain ⟨p0, p1, p2, p3, p4, p5, p6, p7, p8, p9, p10, p11, p12⟩ := (X0.on b1 X0.lt).rb
  obtain ⟨q0, q1⟩ := Y0.on b1 Y0.lt
  obtain ⟨d0, d1, d2, d3, d4, d5⟩ := C0.on b1 C0.lt
  obtain ⟨g0, g1⟩ := V0.on b1 V0.lt
  clear HR X0 Y0 C0 V0 Z0 S0 B0 b1 hs hs' hl hl'
  go_wp2_with fail
  refine (HO _ S1).out.mono ?_
  rintro e w2 ⟨A9, c9, rfl, f2, b2⟩
  clear HO S1 p0 p1 p2 p3 p4 p5 p6 p7 p8 p9 p10 p11 p12 q0 q1 d0 d1 d2 d3 d4 d5 g0 g1
  have Z8 := Z1.on b2 Z1.lt
  have zlt8 := Z1.lt
  have B8 := B1.trans (b2.mono B1.size)
  have Z9 := Z8.put ⟨st, x, y, x, y, u, s, k, h, n, t, q, xs⟩ A9 c9
  have B9 := below_put B8 (B := w.heap.size + 1 + 1 + 1 + 1) (by omega) ⟨st, x, y, x, y, u, s, k, h, n, t, q, xs⟩ A9 c9
  have F9 := f2.put (B := w.heap.size + 1 + 1 + 1 + 1) zlt8 ⟨st, x, y, x, y, u, s, k, h, n, t, q, xs⟩ A9 c9
  have hq9 := B1.size
  have fz := Z8.free
  obtain ⟨z0, z1, z2, z3, z4, z5, z6, z7, z8, z9, z10, z11, z12⟩ := Z8.rb
  have fin := Lib.hid (And.intro Z9.rb (And.intro (F9.mono (D' := w.heap.size) hq9) B9))
  clear Z8 Z9 B8 B9 F9 b2 f2 zlt8 hq9 
  go_wp2
  exact bodyPost_ret (run_res_vote (B := w.heap.size + 1 + 1 + 1 + 1) rfl rfl fin.out.1) rfl ⟨A9, c9, rfl, fin.out.2.1, fin.out.2.2⟩

theorem vote_any (r : Rd) (A A' : Option Addr) (c c' : Nat) (st x y u s k h n : Int) (t : ByteArray) (q : Int) (xs : List Int) (w : World) (hs : At.Sl w w.heap.size .i64 A r.xs) (hs' : At.Sl w w.heap.size .i64 A' xs) (hl : r.xs.length ≤ 1000) (hl' : xs.length ≤ 1000) :
    Calls Tryd.prog 37 #[rv r A c, .int .i64 st, bv x y, cv u s k h n t, av q A' xs.length c'] w (VotePost w (vt r st x y u s k h n t q xs) (!rf r st x y)) := by
  rcases h1 : (r.st == st) with _ | _
  · have e0 : vs r st x y = false := by rw [vs, h1]; rfl
    rcases hr : rf r st x y with _ | _
    · rw [vt, e0, hr]
      exact vote_new2 r A A' c c' st x y u s k h n t q xs w hs hs' hl hl' h1 hr
    · rw [vt, e0, hr]
      exact vote_late2 r A A' c c' st x y u s k h n t q xs w hs hs' hl hl' h1 hr
  · rcases he : ((r.vn == x) && (r.vb == y)) with _ | _
    · have e0 : vs r st x y = false := by rw [vs, h1, he]; rfl
      rcases hr : rf r st x y with _ | _
      · rw [vt, e0, hr]
        exact vote_new r A A' c c' st x y u s k h n t q xs w hs hs' hl hl' h1 he hr
      · rw [vt, e0, hr]
        exact vote_late r A A' c c' st x y u s k h n t q xs w hs hs' hl hl' h1 he hr
    · have e0 : vs r st x y = true := by rw [vs, h1, he]; rfl
      rw [vt, e0]
      exact vote_same r A A' c c' st x y u s k h n t q xs w hs hs' hl hl' h1 he

end Go.Proofs.YtdeaaeejkpghaaaDoor.In
