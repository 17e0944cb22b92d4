/-
  The walks of the document's late, Promise, PreAccept, Accept and Commit. No conditions.
-/
import Derived.Test.YtdeaaeejkpghaaaDoorInImay
namespace Go.Proofs.YtdeaaeejkpghaaaDoor.In
open Go.RowKit
set_option linter.unusedVariables false
attribute [local go_sem ↓ high] Ba.eq23 Ba.guard23 Ba.neq23 Ba.guard23n eqc guardc

/-- What the document's call gave: a record whose deps are those of one that came in, and a bool. -/
def DidPost (w : World) (A : Option Addr) (ls : List Int) (A' : Option Addr) (bs : List Int) (x : Rd) (b : Bool) (e : Ending) (w' : World) : Prop :=
  ∃ A9 c9, e = .returned (.tuple #[rv x A9 c9, .bool b]) ∧ (∀ W B, At.Sl W B .i64 A ls → At.Sl W B .i64 A' bs → At.Sl W B .i64 A9 x.xs) ∧ Below w.heap.size w w'
def DidOne (w : World) (A : Option Addr) (ls : List Int) (A' : Option Addr) (bs : List Int) (x : Rd) (e : Ending) (w' : World) : Prop :=
  ∃ A9 c9, e = .returned (rv x A9 c9) ∧ (∀ W B, At.Sl W B .i64 A ls → At.Sl W B .i64 A' bs → At.Sl W B .i64 A9 x.xs) ∧ Below w.heap.size w w'

set_option maxHeartbeats 1000000 in
theorem rlate_1 (r : Rd) (A : Option Addr) (c : Nat) (x y : Int) (w : World) (hg : gd x y = false) : Calls Tryd.prog 38 #[rv r A c, bv x y] w (BoolPost w (true)) := by
  have HG : ∀ W, Hid (Calls Tryd.prog 33 #[bv x y] W (BoolPost W (gd x y))) := fun W => rgood_any x y W
  have HC : ∀ W, Hid (Calls Tryd.prog 30 #[bv x y, bv r.pn r.pb] W (Ba.IntPost W (Ba.cm x y r.pn r.pb))) := fun W => Ba.rcmp_any x y r.pn r.pb W
  have X0 : Rx ((w.alloc (.cells (rcs r A c) 30)).alloc (.cells #[.int .i64 x, .int .i64 y] 23)) (w.heap.size) r A c := by
    have h0 := rx_new w r A c
    exact (h0.old _)
  have Y0 : Ba.Bb ((w.alloc (.cells (rcs r A c) 30)).alloc (.cells #[.int .i64 x, .int .i64 y] 23)) (w.heap.size + 1) x y := by
    have h0 := Ba.bx_new (w.alloc (.cells (rcs r A c) 30)) x y
    have h0 := Ba.Bx.bb h0
    rw [show (w.alloc (.cells (rcs r A c) 30)).heap.size = w.heap.size + 1 by simp] at h0
    exact h0
  have B0 : Below w.heap.size w ((w.alloc (.cells (rcs r A c) 30)).alloc (.cells #[.int .i64 x, .int .i64 y] 23)) := (((Below.refl _ _).alloc (Nat.le_refl _) _).alloc (by first | (simp; done) | (simp; omega)) _)
  rw [hg] at HG
  clear hg
  generalize Ba.cm x y r.pn r.pb = m at *
  go_enter Tryd.func38, Tryd.ntmps38
  go_wp2_with fail
  generalize ((w.alloc (.cells (rcs r A c) 30)).alloc (.cells #[.int .i64 x, .int .i64 y] 23)) = W0 at *
  refine (HG _).out.mono ?_
  rintro e w1 ⟨rfl, b1⟩
  have B1 := B0.trans (b1.mono B0.size)
  have X1 := X0.on b1 X0.lt
  have Y1 := Y0.on b1 Y0.lt
  clear HG X0 Y0 B0 b1
  obtain ⟨p0, p1, p2, p3, p4, p5, p6, p7, p8, p9, p10, p11, p12⟩ := id X1.rb
  obtain ⟨q0, q1⟩ := id Y1
  go_wp2
  go_ret
  exact ⟨rfl, B1⟩

set_option maxHeartbeats 1000000 in
theorem rlate_2 (r : Rd) (A : Option Addr) (c : Nat) (x y : Int) (w : World) (hg : gd x y = true) (h3 : (r.st == 3) = true) : Calls Tryd.prog 38 #[rv r A c, bv x y] w (BoolPost w (true)) := by
  have HG : ∀ W, Hid (Calls Tryd.prog 33 #[bv x y] W (BoolPost W (gd x y))) := fun W => rgood_any x y W
  have HC : ∀ W, Hid (Calls Tryd.prog 30 #[bv x y, bv r.pn r.pb] W (Ba.IntPost W (Ba.cm x y r.pn r.pb))) := fun W => Ba.rcmp_any x y r.pn r.pb W
  have X0 : Rx ((w.alloc (.cells (rcs r A c) 30)).alloc (.cells #[.int .i64 x, .int .i64 y] 23)) (w.heap.size) r A c := by
    have h0 := rx_new w r A c
    exact (h0.old _)
  have Y0 : Ba.Bb ((w.alloc (.cells (rcs r A c) 30)).alloc (.cells #[.int .i64 x, .int .i64 y] 23)) (w.heap.size + 1) x y := by
    have h0 := Ba.bx_new (w.alloc (.cells (rcs r A c) 30)) x y
    have h0 := Ba.Bx.bb h0
    rw [show (w.alloc (.cells (rcs r A c) 30)).heap.size = w.heap.size + 1 by simp] at h0
    exact h0
  have B0 : Below w.heap.size w ((w.alloc (.cells (rcs r A c) 30)).alloc (.cells #[.int .i64 x, .int .i64 y] 23)) := (((Below.refl _ _).alloc (Nat.le_refl _) _).alloc (by first | (simp; done) | (simp; omega)) _)
  rw [hg] at HG
  clear hg
  generalize Ba.cm x y r.pn r.pb = m at *
  go_enter Tryd.func38, Tryd.ntmps38
  go_wp2_with fail
  generalize ((w.alloc (.cells (rcs r A c) 30)).alloc (.cells #[.int .i64 x, .int .i64 y] 23)) = W0 at *
  refine (HG _).out.mono ?_
  rintro e w1 ⟨rfl, b1⟩
  have B1 := B0.trans (b1.mono B0.size)
  have X1 := X0.on b1 X0.lt
  have Y1 := Y0.on b1 Y0.lt
  clear HG X0 Y0 B0 b1
  obtain ⟨p0, p1, p2, p3, p4, p5, p6, p7, p8, p9, p10, p11, p12⟩ := id X1.rb
  obtain ⟨q0, q1⟩ := id Y1
  go_wp2
  go_ret
  exact ⟨rfl, B1⟩

set_option maxHeartbeats 1000000 in
theorem rlate_3 (r : Rd) (A : Option Addr) (c : Nat) (x y : Int) (w : World) (hg : gd x y = true) (h3 : (r.st == 3) = false) : Calls Tryd.prog 38 #[rv r A c, bv x y] w (BoolPost w (decide (Ba.cm x y r.pn r.pb < 0))) := by
  have HG : ∀ W, Hid (Calls Tryd.prog 33 #[bv x y] W (BoolPost W (gd x y))) := fun W => rgood_any x y W
  have HC : ∀ W, Hid (Calls Tryd.prog 30 #[bv x y, bv r.pn r.pb] W (Ba.IntPost W (Ba.cm x y r.pn r.pb))) := fun W => Ba.rcmp_any x y r.pn r.pb W
  have X0 : Rx ((w.alloc (.cells (rcs r A c) 30)).alloc (.cells #[.int .i64 x, .int .i64 y] 23)) (w.heap.size) r A c := by
    have h0 := rx_new w r A c
    exact (h0.old _)
  have Y0 : Ba.Bb ((w.alloc (.cells (rcs r A c) 30)).alloc (.cells #[.int .i64 x, .int .i64 y] 23)) (w.heap.size + 1) x y := by
    have h0 := Ba.bx_new (w.alloc (.cells (rcs r A c) 30)) x y
    have h0 := Ba.Bx.bb h0
    rw [show (w.alloc (.cells (rcs r A c) 30)).heap.size = w.heap.size + 1 by simp] at h0
    exact h0
  have B0 : Below w.heap.size w ((w.alloc (.cells (rcs r A c) 30)).alloc (.cells #[.int .i64 x, .int .i64 y] 23)) := (((Below.refl _ _).alloc (Nat.le_refl _) _).alloc (by first | (simp; done) | (simp; omega)) _)
  rw [hg] at HG
  clear hg
  generalize Ba.cm x y r.pn r.pb = m at *
  go_enter Tryd.func38, Tryd.ntmps38
  go_wp2_with fail
  generalize ((w.alloc (.cells (rcs r A c) 30)).alloc (.cells #[.int .i64 x, .int .i64 y] 23)) = W0 at *
  refine (HG _).out.mono ?_
  rintro e w1 ⟨rfl, b1⟩
  have B1 := B0.trans (b1.mono B0.size)
  have X1 := X0.on b1 X0.lt
  have Y1 := Y0.on b1 Y0.lt
  clear HG X0 Y0 B0 b1
  obtain ⟨p0, p1, p2, p3, p4, p5, p6, p7, p8, p9, p10, p11, p12⟩ := id X1.rb
  obtain ⟨q0, q1⟩ := id Y1
  go_wp2_with fail
  clear p0 p1 p2 p3 p4 p5 p6 p7 p8 p9 p10 p11 p12 q0 q1
  refine (HC _).out.mono ?_
  rintro e w2 ⟨rfl, b2⟩
  have B2 := B1.trans (b2.mono B1.size)
  go_wp2
  go_ret
  exact ⟨rfl, B2⟩

theorem rlate_any (r : Rd) (A : Option Addr) (c : Nat) (x y : Int) (w : World) : Calls Tryd.prog 38 #[rv r A c, bv x y] w (BoolPost w (rf r 0 x y)) := by
  rcases hg : gd x y with _ | _
  · have e : rf r 0 x y = true := by simp [rf, hg]
    rw [e]; exact rlate_1 r A c x y w hg
  · rcases h3 : (r.st == 3) with _ | _
    · have e : rf r 0 x y = decide (Ba.cm x y r.pn r.pb < 0) := by rw [rf, hg, h3]; simp
      rw [e]; exact rlate_3 r A c x y w hg h3
    · have e : rf r 0 x y = true := by rw [rf, h3]; simp
      rw [e]; exact rlate_2 r A c x y w hg h3

theorem run_res_rPromise {V : World} {tm : Array Value} {B : Nat} {r : Rd} {A : Option Addr} {c : Nat} {b : Bool} (h2 : tm[4]?.getD undef = .pointer (some ⟨B, 0, none⟩)) (h3 : tm[5]?.getD undef = .bool b) (hb : Rb V B r A c) :
    (results Tryd.f18 tm).run Tryd.prog V = .ok (.tuple #[rv r A c, .bool b]) V := by
  obtain ⟨c0, c1, c2, c3, c4, c5, c6, c7, c8, c9, c10, c11, c12⟩ := hb
  simp [results, Tryd.results18, h2, h3, go_sem, c0, c1, c2, c3, c4, c5, c6, c7, c8, c9, c10, c11, c12]

theorem run_res_rPreAccept {V : World} {tm : Array Value} {B : Nat} {r : Rd} {A : Option Addr} {c : Nat} {b : Bool} (h2 : tm[8]?.getD undef = .pointer (some ⟨B, 0, none⟩)) (h3 : tm[9]?.getD undef = .bool b) (hb : Rb V B r A c) :
    (results Tryd.f19 tm).run Tryd.prog V = .ok (.tuple #[rv r A c, .bool b]) V := by
  obtain ⟨c0, c1, c2, c3, c4, c5, c6, c7, c8, c9, c10, c11, c12⟩ := hb
  simp [results, Tryd.results19, h2, h3, go_sem, c0, c1, c2, c3, c4, c5, c6, c7, c8, c9, c10, c11, c12]

theorem run_res_rAccept {V : World} {tm : Array Value} {B : Nat} {r : Rd} {A : Option Addr} {c : Nat} {b : Bool} (h2 : tm[8]?.getD undef = .pointer (some ⟨B, 0, none⟩)) (h3 : tm[9]?.getD undef = .bool b) (hb : Rb V B r A c) :
    (results Tryd.f20 tm).run Tryd.prog V = .ok (.tuple #[rv r A c, .bool b]) V := by
  obtain ⟨c0, c1, c2, c3, c4, c5, c6, c7, c8, c9, c10, c11, c12⟩ := hb
  simp [results, Tryd.results20, h2, h3, go_sem, c0, c1, c2, c3, c4, c5, c6, c7, c8, c9, c10, c11, c12]

theorem run_res_rCommit {V : World} {tm : Array Value} {B : Nat} {r : Rd} {A : Option Addr} {c : Nat} (h2 : tm[6]?.getD undef = .pointer (some ⟨B, 0, none⟩)) (hb : Rb V B r A c) :
    (results Tryd.f21 tm).run Tryd.prog V = .ok (rv r A c) V := by
  obtain ⟨c0, c1, c2, c3, c4, c5, c6, c7, c8, c9, c10, c11, c12⟩ := hb
  simp [results, Tryd.results21, h2, go_sem, c0, c1, c2, c3, c4, c5, c6, c7, c8, c9, c10, c11, c12]

set_option maxHeartbeats 2000000 in
theorem rprom_late (r : Rd) (A : Option Addr) (c : Nat) (x y : Int) (A' : Option Addr) (bs : List Int) (w : World) (hr : rf r 0 x y = true) : Calls Tryd.prog 18 #[rv r A c, bv x y] w (DidPost w A r.xs A' bs r false) := by
  have HR : ∀ W, Hid (Calls Tryd.prog 38 #[rv r A c, bv x y] W (BoolPost W (rf r 0 x y))) := fun W => rlate_any r A c x y W
  have X0 : Rx (((w.alloc (.cells (rcs r A c) 30)).alloc (.cells #[.int .i64 x, .int .i64 y] 23)).alloc (.cells #[.int .i64 0, .int .i64 0, .int .i64 0, .int .i64 0, .int .i64 0, .int .i64 0, .int .i64 0, .int .i64 0, .int .i64 0, .int .i64 0, .string ⟨#[]⟩, .int .i64 0, .slice none 0 0] 30)) (w.heap.size) r A c := by
    have h0 := rx_new w r A c
    exact ((h0.old _).old _)
  have Y0 : Ba.Bb (((w.alloc (.cells (rcs r A c) 30)).alloc (.cells #[.int .i64 x, .int .i64 y] 23)).alloc (.cells #[.int .i64 0, .int .i64 0, .int .i64 0, .int .i64 0, .int .i64 0, .int .i64 0, .int .i64 0, .int .i64 0, .int .i64 0, .int .i64 0, .string ⟨#[]⟩, .int .i64 0, .slice none 0 0] 30)) (w.heap.size + 1) x y := by
    have h0 := Ba.bx_new (w.alloc (.cells (rcs r A c) 30)) x y
    have h0 := Ba.Bx.bb h0
    rw [show (w.alloc (.cells (rcs r A c) 30)).heap.size = w.heap.size + 1 by simp] at h0
    exact (h0.old _)
  have Z0 : Rx (((w.alloc (.cells (rcs r A c) 30)).alloc (.cells #[.int .i64 x, .int .i64 y] 23)).alloc (.cells #[.int .i64 0, .int .i64 0, .int .i64 0, .int .i64 0, .int .i64 0, .int .i64 0, .int .i64 0, .int .i64 0, .int .i64 0, .int .i64 0, .string ⟨#[]⟩, .int .i64 0, .slice none 0 0] 30)) (w.heap.size + 1 + 1) ⟨0, 0, 0, 0, 0, 0, 0, 0, 0, 0, ⟨#[]⟩, 0, []⟩ none 0 := by
    have h0 := zero_box ((w.alloc (.cells (rcs r A c) 30)).alloc (.cells #[.int .i64 x, .int .i64 y] 23)) 
    rw [show ((w.alloc (.cells (rcs r A c) 30)).alloc (.cells #[.int .i64 x, .int .i64 y] 23)).heap.size = w.heap.size + 1 + 1 by simp] at h0
    exact h0
  have B0 : Below w.heap.size w (((w.alloc (.cells (rcs r A c) 30)).alloc (.cells #[.int .i64 x, .int .i64 y] 23)).alloc (.cells #[.int .i64 0, .int .i64 0, .int .i64 0, .int .i64 0, .int .i64 0, .int .i64 0, .int .i64 0, .int .i64 0, .int .i64 0, .int .i64 0, .string ⟨#[]⟩, .int .i64 0, .slice none 0 0] 30)) := ((((Below.refl _ _).alloc (Nat.le_refl _) _).alloc (by first | (simp; done) | (simp; omega)) _).alloc (by first | (simp; done) | (simp; omega)) _)
  rw [hr] at HR
  clear hr
  go_enter Tryd.func18, Tryd.ntmps18
  go_wp2_with fail
  generalize (((w.alloc (.cells (rcs r A c) 30)).alloc (.cells #[.int .i64 x, .int .i64 y] 23)).alloc (.cells #[.int .i64 0, .int .i64 0, .int .i64 0, .int .i64 0, .int .i64 0, .int .i64 0, .int .i64 0, .int .i64 0, .int .i64 0, .int .i64 0, .string ⟨#[]⟩, .int .i64 0, .slice none 0 0] 30)) = W0 at *
  refine (HR _).out.mono ?_
  rintro e w1 ⟨rfl, b1⟩
  have B1 := B0.trans (b1.mono B0.size)
  have X1 := X0.on b1 X0.lt
  have Z1 := Z0.on b1 Z0.lt
  obtain ⟨p0, p1, p2, p3, p4, p5, p6, p7, p8, p9, p10, p11, p12⟩ := id X1.rb
  obtain ⟨q0, q1⟩ := Y0.on b1 Y0.lt
  have fx := X1.free
  clear HR X0 Y0 Z0 B0 b1
  clear X1 fx
  have zlt8 := Z1.lt
  have Z9 := Z1.put r A c
  have hq9 : w.heap.size ≤ w.heap.size + 1 + 1 := by omega
  have B9 := below_put B1 (B := w.heap.size + 1 + 1) hq9 r A c
  have fz := Z1.free
  obtain ⟨z0, z1, z2, z3, z4, z5, z6, z7, z8, z9, z10, z11, z12⟩ := id Z1.rb
  have fin := Lib.hid (And.intro Z9.rb B9)
  clear Z9 B9 Z1 zlt8 hq9
  go_wp2
  exact bodyPost_ret (run_res_rPromise (B := w.heap.size + 1 + 1) rfl rfl fin.out.1) rfl ⟨A, c, rfl, (fun _ _ g _ => g), fin.out.2⟩

set_option maxHeartbeats 2000000 in
theorem rprom_go (r : Rd) (A : Option Addr) (c : Nat) (x y : Int) (A' : Option Addr) (bs : List Int) (w : World) (hr : rf r 0 x y = false) : Calls Tryd.prog 18 #[rv r A c, bv x y] w (DidPost w A r.xs A' bs ⟨r.st, x, y, r.vn, r.vb, r.u, r.s, r.k, r.h, r.n, r.t, r.q, r.xs⟩ true) := by
  have HR : ∀ W, Hid (Calls Tryd.prog 38 #[rv r A c, bv x y] W (BoolPost W (rf r 0 x y))) := fun W => rlate_any r A c x y W
  have X0 : Rx (((w.alloc (.cells (rcs r A c) 30)).alloc (.cells #[.int .i64 x, .int .i64 y] 23)).alloc (.cells #[.int .i64 0, .int .i64 0, .int .i64 0, .int .i64 0, .int .i64 0, .int .i64 0, .int .i64 0, .int .i64 0, .int .i64 0, .int .i64 0, .string ⟨#[]⟩, .int .i64 0, .slice none 0 0] 30)) (w.heap.size) r A c := by
    have h0 := rx_new w r A c
    exact ((h0.old _).old _)
  have Y0 : Ba.Bb (((w.alloc (.cells (rcs r A c) 30)).alloc (.cells #[.int .i64 x, .int .i64 y] 23)).alloc (.cells #[.int .i64 0, .int .i64 0, .int .i64 0, .int .i64 0, .int .i64 0, .int .i64 0, .int .i64 0, .int .i64 0, .int .i64 0, .int .i64 0, .string ⟨#[]⟩, .int .i64 0, .slice none 0 0] 30)) (w.heap.size + 1) x y := by
    have h0 := Ba.bx_new (w.alloc (.cells (rcs r A c) 30)) x y
    have h0 := Ba.Bx.bb h0
    rw [show (w.alloc (.cells (rcs r A c) 30)).heap.size = w.heap.size + 1 by simp] at h0
    exact (h0.old _)
  have Z0 : Rx (((w.alloc (.cells (rcs r A c) 30)).alloc (.cells #[.int .i64 x, .int .i64 y] 23)).alloc (.cells #[.int .i64 0, .int .i64 0, .int .i64 0, .int .i64 0, .int .i64 0, .int .i64 0, .int .i64 0, .int .i64 0, .int .i64 0, .int .i64 0, .string ⟨#[]⟩, .int .i64 0, .slice none 0 0] 30)) (w.heap.size + 1 + 1) ⟨0, 0, 0, 0, 0, 0, 0, 0, 0, 0, ⟨#[]⟩, 0, []⟩ none 0 := by
    have h0 := zero_box ((w.alloc (.cells (rcs r A c) 30)).alloc (.cells #[.int .i64 x, .int .i64 y] 23)) 
    rw [show ((w.alloc (.cells (rcs r A c) 30)).alloc (.cells #[.int .i64 x, .int .i64 y] 23)).heap.size = w.heap.size + 1 + 1 by simp] at h0
    exact h0
  have B0 : Below w.heap.size w (((w.alloc (.cells (rcs r A c) 30)).alloc (.cells #[.int .i64 x, .int .i64 y] 23)).alloc (.cells #[.int .i64 0, .int .i64 0, .int .i64 0, .int .i64 0, .int .i64 0, .int .i64 0, .int .i64 0, .int .i64 0, .int .i64 0, .int .i64 0, .string ⟨#[]⟩, .int .i64 0, .slice none 0 0] 30)) := ((((Below.refl _ _).alloc (Nat.le_refl _) _).alloc (by first | (simp; done) | (simp; omega)) _).alloc (by first | (simp; done) | (simp; omega)) _)
  rw [hr] at HR
  clear hr
  go_enter Tryd.func18, Tryd.ntmps18
  go_wp2_with fail
  generalize (((w.alloc (.cells (rcs r A c) 30)).alloc (.cells #[.int .i64 x, .int .i64 y] 23)).alloc (.cells #[.int .i64 0, .int .i64 0, .int .i64 0, .int .i64 0, .int .i64 0, .int .i64 0, .int .i64 0, .int .i64 0, .int .i64 0, .int .i64 0, .string ⟨#[]⟩, .int .i64 0, .slice none 0 0] 30)) = W0 at *
  refine (HR _).out.mono ?_
  rintro e w1 ⟨rfl, b1⟩
  have B1 := B0.trans (b1.mono B0.size)
  have X1 := X0.on b1 X0.lt
  have Z1 := Z0.on b1 Z0.lt
  obtain ⟨p0, p1, p2, p3, p4, p5, p6, p7, p8, p9, p10, p11, p12⟩ := id X1.rb
  obtain ⟨q0, q1⟩ := Y0.on b1 Y0.lt
  have fx := X1.free
  clear HR X0 Y0 Z0 B0 b1
  have X2 := X1.prom x y
  have Z2 := (Z1.other (p := ⟨w.heap.size, 1, none⟩) (by show w.heap.size + 1 + 1 ≠ w.heap.size; omega) (.int .i64 x)).other (p := ⟨w.heap.size, 2, none⟩) (by show w.heap.size + 1 + 1 ≠ w.heap.size; omega) (.int .i64 y)
  have B2 := (B1.setCell (p := ⟨w.heap.size, 1, none⟩) (Nat.le_refl _) (.int .i64 x)).setCell (p := ⟨w.heap.size, 2, none⟩) (Nat.le_refl _) (.int .i64 y)
  obtain ⟨V, hV⟩ : ∃ V, (w1.setCell ⟨w.heap.size, 1, none⟩ (.int .i64 x)).setCell ⟨w.heap.size, 2, none⟩ (.int .i64 y) = V := ⟨_, rfl⟩
  rw [hV] at X2 Z2 B2
  obtain ⟨n0, n1, n2, n3, n4, n5, n6, n7, n8, n9, n10, n11, n12⟩ := id X2.rb
  clear X1 Z1 B1 X2
  have zlt8 := Z2.lt
  have Z9 := Z2.put ⟨r.st, x, y, r.vn, r.vb, r.u, r.s, r.k, r.h, r.n, r.t, r.q, r.xs⟩ A c
  have hq9 : w.heap.size ≤ w.heap.size + 1 + 1 := by omega
  have B9 := below_put B2 (B := w.heap.size + 1 + 1) hq9 ⟨r.st, x, y, r.vn, r.vb, r.u, r.s, r.k, r.h, r.n, r.t, r.q, r.xs⟩ A c
  have fz := Z2.free
  obtain ⟨z0, z1, z2, z3, z4, z5, z6, z7, z8, z9, z10, z11, z12⟩ := id Z2.rb
  have fin := Lib.hid (And.intro Z9.rb B9)
  clear Z9 B9 Z2 zlt8 hq9
  go_wp2
  exact bodyPost_ret (run_res_rPromise (B := w.heap.size + 1 + 1) rfl rfl fin.out.1) rfl ⟨A, c, rfl, (fun _ _ g _ => g), fin.out.2⟩

theorem rpromise_any (r : Rd) (A : Option Addr) (c : Nat) (x y : Int) (A' : Option Addr) (bs : List Int) (w : World) : Calls Tryd.prog 18 #[rv r A c, bv x y] w (DidPost w A r.xs A' bs (pm r x y) (!rf r 0 x y)) := by
  rcases hr : rf r 0 x y with _ | _
  · rw [pm, hr]; exact rprom_go r A c x y A' bs w hr
  · rw [pm, hr]; exact rprom_late r A c x y A' bs w hr

set_option maxHeartbeats 2000000 in
theorem rpre_late (r : Rd) (A A' : Option Addr) (c c' : Nat) (x y u s k h n : Int) (t : ByteArray) (q : Int) (xs : List Int) (w : World) (hr : rf r 0 x y = true)  : Calls Tryd.prog 19 #[rv r A c, bv x y, cv u s k h n t, av q A' xs.length c'] w (DidPost w A r.xs A' xs r false) := by
  have HR : ∀ W, Hid (Calls Tryd.prog 38 #[rv r A c, bv x y] W (BoolPost W (rf r 0 x y))) := fun W => rlate_any r A c x y W
  have X0 : Rx (((((w.alloc (.cells (rcs r A c) 30)).alloc (.cells #[.int .i64 x, .int .i64 y] 23)).alloc (.cells #[.int .i64 u, .int .i64 s, .int .i64 k, .int .i64 h, .int .i64 n, .string t] 25)).alloc (.cells #[.int .i64 q, .slice A' xs.length c'] 28)).alloc (.cells #[.int .i64 0, .int .i64 0, .int .i64 0, .int .i64 0, .int .i64 0, .int .i64 0, .int .i64 0, .int .i64 0, .int .i64 0, .int .i64 0, .string ⟨#[]⟩, .int .i64 0, .slice none 0 0] 30)) (w.heap.size) r A c := by
    have h0 := rx_new w r A c
    exact ((((h0.old _).old _).old _).old _)
  have Y0 : Ba.Bb (((((w.alloc (.cells (rcs r A c) 30)).alloc (.cells #[.int .i64 x, .int .i64 y] 23)).alloc (.cells #[.int .i64 u, .int .i64 s, .int .i64 k, .int .i64 h, .int .i64 n, .string t] 25)).alloc (.cells #[.int .i64 q, .slice A' xs.length c'] 28)).alloc (.cells #[.int .i64 0, .int .i64 0, .int .i64 0, .int .i64 0, .int .i64 0, .int .i64 0, .int .i64 0, .int .i64 0, .int .i64 0, .int .i64 0, .string ⟨#[]⟩, .int .i64 0, .slice none 0 0] 30)) (w.heap.size + 1) x y := by
    have h0 := Ba.bx_new (w.alloc (.cells (rcs r A c) 30)) x y
    have h0 := Ba.Bx.bb h0
    rw [show (w.alloc (.cells (rcs r A c) 30)).heap.size = w.heap.size + 1 by simp] at h0
    exact (((h0.old _).old _).old _)
  have C0 : Cb (((((w.alloc (.cells (rcs r A c) 30)).alloc (.cells #[.int .i64 x, .int .i64 y] 23)).alloc (.cells #[.int .i64 u, .int .i64 s, .int .i64 k, .int .i64 h, .int .i64 n, .string t] 25)).alloc (.cells #[.int .i64 q, .slice A' xs.length c'] 28)).alloc (.cells #[.int .i64 0, .int .i64 0, .int .i64 0, .int .i64 0, .int .i64 0, .int .i64 0, .int .i64 0, .int .i64 0, .int .i64 0, .int .i64 0, .string ⟨#[]⟩, .int .i64 0, .slice none 0 0] 30)) (w.heap.size + 1 + 1) u s k h n t := by
    have h0 := cb_new ((w.alloc (.cells (rcs r A c) 30)).alloc (.cells #[.int .i64 x, .int .i64 y] 23)) u s k h n t
    rw [show ((w.alloc (.cells (rcs r A c) 30)).alloc (.cells #[.int .i64 x, .int .i64 y] 23)).heap.size = w.heap.size + 1 + 1 by simp] at h0
    exact ((h0.old _).old _)
  have V0 : Ab (((((w.alloc (.cells (rcs r A c) 30)).alloc (.cells #[.int .i64 x, .int .i64 y] 23)).alloc (.cells #[.int .i64 u, .int .i64 s, .int .i64 k, .int .i64 h, .int .i64 n, .string t] 25)).alloc (.cells #[.int .i64 q, .slice A' xs.length c'] 28)).alloc (.cells #[.int .i64 0, .int .i64 0, .int .i64 0, .int .i64 0, .int .i64 0, .int .i64 0, .int .i64 0, .int .i64 0, .int .i64 0, .int .i64 0, .string ⟨#[]⟩, .int .i64 0, .slice none 0 0] 30)) (w.heap.size + 1 + 1 + 1) q A' xs.length c' := by
    have h0 := ab_new (((w.alloc (.cells (rcs r A c) 30)).alloc (.cells #[.int .i64 x, .int .i64 y] 23)).alloc (.cells #[.int .i64 u, .int .i64 s, .int .i64 k, .int .i64 h, .int .i64 n, .string t] 25)) q A' xs.length c'
    rw [show (((w.alloc (.cells (rcs r A c) 30)).alloc (.cells #[.int .i64 x, .int .i64 y] 23)).alloc (.cells #[.int .i64 u, .int .i64 s, .int .i64 k, .int .i64 h, .int .i64 n, .string t] 25)).heap.size = w.heap.size + 1 + 1 + 1 by simp] at h0
    exact (h0.old _)
  have Z0 : Rx (((((w.alloc (.cells (rcs r A c) 30)).alloc (.cells #[.int .i64 x, .int .i64 y] 23)).alloc (.cells #[.int .i64 u, .int .i64 s, .int .i64 k, .int .i64 h, .int .i64 n, .string t] 25)).alloc (.cells #[.int .i64 q, .slice A' xs.length c'] 28)).alloc (.cells #[.int .i64 0, .int .i64 0, .int .i64 0, .int .i64 0, .int .i64 0, .int .i64 0, .int .i64 0, .int .i64 0, .int .i64 0, .int .i64 0, .string ⟨#[]⟩, .int .i64 0, .slice none 0 0] 30)) (w.heap.size + 1 + 1 + 1 + 1) ⟨0, 0, 0, 0, 0, 0, 0, 0, 0, 0, ⟨#[]⟩, 0, []⟩ none 0 := by
    have h0 := zero_box ((((w.alloc (.cells (rcs r A c) 30)).alloc (.cells #[.int .i64 x, .int .i64 y] 23)).alloc (.cells #[.int .i64 u, .int .i64 s, .int .i64 k, .int .i64 h, .int .i64 n, .string t] 25)).alloc (.cells #[.int .i64 q, .slice A' xs.length c'] 28)) 
    rw [show ((((w.alloc (.cells (rcs r A c) 30)).alloc (.cells #[.int .i64 x, .int .i64 y] 23)).alloc (.cells #[.int .i64 u, .int .i64 s, .int .i64 k, .int .i64 h, .int .i64 n, .string t] 25)).alloc (.cells #[.int .i64 q, .slice A' xs.length c'] 28)).heap.size = w.heap.size + 1 + 1 + 1 + 1 by simp] at h0
    exact h0
  have B0 : Below w.heap.size w (((((w.alloc (.cells (rcs r A c) 30)).alloc (.cells #[.int .i64 x, .int .i64 y] 23)).alloc (.cells #[.int .i64 u, .int .i64 s, .int .i64 k, .int .i64 h, .int .i64 n, .string t] 25)).alloc (.cells #[.int .i64 q, .slice A' xs.length c'] 28)).alloc (.cells #[.int .i64 0, .int .i64 0, .int .i64 0, .int .i64 0, .int .i64 0, .int .i64 0, .int .i64 0, .int .i64 0, .int .i64 0, .int .i64 0, .string ⟨#[]⟩, .int .i64 0, .slice none 0 0] 30)) := ((((((Below.refl _ _).alloc (Nat.le_refl _) _).alloc (by first | (simp; done) | (simp; omega)) _).alloc (by first | (simp; done) | (simp; omega)) _).alloc (by first | (simp; done) | (simp; omega)) _).alloc (by first | (simp; done) | (simp; omega)) _)
  rw [hr] at HR
  clear hr
  go_enter Tryd.func19, Tryd.ntmps19
  go_wp2_with fail
  generalize (((((w.alloc (.cells (rcs r A c) 30)).alloc (.cells #[.int .i64 x, .int .i64 y] 23)).alloc (.cells #[.int .i64 u, .int .i64 s, .int .i64 k, .int .i64 h, .int .i64 n, .string t] 25)).alloc (.cells #[.int .i64 q, .slice A' xs.length c'] 28)).alloc (.cells #[.int .i64 0, .int .i64 0, .int .i64 0, .int .i64 0, .int .i64 0, .int .i64 0, .int .i64 0, .int .i64 0, .int .i64 0, .int .i64 0, .string ⟨#[]⟩, .int .i64 0, .slice none 0 0] 30)) = W0 at *
  refine (HR _).out.mono ?_
  rintro e w1 ⟨rfl, b1⟩
  have B1 := B0.trans (b1.mono B0.size)
  have Z1 := Z0.on b1 Z0.lt
  obtain ⟨p0, p1, p2, p3, p4, p5, p6, p7, p8, p9, p10, p11, p12⟩ := (X0.on b1 X0.lt).rb
  obtain ⟨q0, q1⟩ := Y0.on b1 Y0.lt
  obtain ⟨d0, d1, d2, d3, d4, d5⟩ := C0.on b1 C0.lt
  obtain ⟨g0, g1⟩ := V0.on b1 V0.lt
  clear HR X0 Y0 C0 V0 Z0 B0 b1
  have zlt8 := Z1.lt
  have Z9 := Z1.put r A c
  have hq9 : w.heap.size ≤ w.heap.size + 1 + 1 + 1 + 1 := by omega
  have B9 := below_put B1 (B := w.heap.size + 1 + 1 + 1 + 1) hq9 r A c
  have fz := Z1.free
  obtain ⟨z0, z1, z2, z3, z4, z5, z6, z7, z8, z9, z10, z11, z12⟩ := id Z1.rb
  have fin := Lib.hid (And.intro Z9.rb B9)
  clear Z9 B9 Z1 zlt8 hq9
  go_wp2
  exact bodyPost_ret (run_res_rPreAccept (B := w.heap.size + 1 + 1 + 1 + 1) rfl rfl fin.out.1) rfl ⟨A, c, rfl, (fun _ _ g _ => g), fin.out.2⟩

set_option maxHeartbeats 2000000 in
theorem rpre_acc (r : Rd) (A A' : Option Addr) (c c' : Nat) (x y u s k h n : Int) (t : ByteArray) (q : Int) (xs : List Int) (w : World) (hr : rf r 0 x y = false) (h2 : (r.st == 2) = true) (he : ((r.vn == x) && (r.vb == y)) = true) : Calls Tryd.prog 19 #[rv r A c, bv x y, cv u s k h n t, av q A' xs.length c'] w (DidPost w A r.xs A' xs r false) := by
  have HR : ∀ W, Hid (Calls Tryd.prog 38 #[rv r A c, bv x y] W (BoolPost W (rf r 0 x y))) := fun W => rlate_any r A c x y W
  have X0 : Rx (((((w.alloc (.cells (rcs r A c) 30)).alloc (.cells #[.int .i64 x, .int .i64 y] 23)).alloc (.cells #[.int .i64 u, .int .i64 s, .int .i64 k, .int .i64 h, .int .i64 n, .string t] 25)).alloc (.cells #[.int .i64 q, .slice A' xs.length c'] 28)).alloc (.cells #[.int .i64 0, .int .i64 0, .int .i64 0, .int .i64 0, .int .i64 0, .int .i64 0, .int .i64 0, .int .i64 0, .int .i64 0, .int .i64 0, .string ⟨#[]⟩, .int .i64 0, .slice none 0 0] 30)) (w.heap.size) r A c := by
    have h0 := rx_new w r A c
    exact ((((h0.old _).old _).old _).old _)
  have Y0 : Ba.Bb (((((w.alloc (.cells (rcs r A c) 30)).alloc (.cells #[.int .i64 x, .int .i64 y] 23)).alloc (.cells #[.int .i64 u, .int .i64 s, .int .i64 k, .int .i64 h, .int .i64 n, .string t] 25)).alloc (.cells #[.int .i64 q, .slice A' xs.length c'] 28)).alloc (.cells #[.int .i64 0, .int .i64 0, .int .i64 0, .int .i64 0, .int .i64 0, .int .i64 0, .int .i64 0, .int .i64 0, .int .i64 0, .int .i64 0, .string ⟨#[]⟩, .int .i64 0, .slice none 0 0] 30)) (w.heap.size + 1) x y := by
    have h0 := Ba.bx_new (w.alloc (.cells (rcs r A c) 30)) x y
    have h0 := Ba.Bx.bb h0
    rw [show (w.alloc (.cells (rcs r A c) 30)).heap.size = w.heap.size + 1 by simp] at h0
    exact (((h0.old _).old _).old _)
  have C0 : Cb (((((w.alloc (.cells (rcs r A c) 30)).alloc (.cells #[.int .i64 x, .int .i64 y] 23)).alloc (.cells #[.int .i64 u, .int .i64 s, .int .i64 k, .int .i64 h, .int .i64 n, .string t] 25)).alloc (.cells #[.int .i64 q, .slice A' xs.length c'] 28)).alloc (.cells #[.int .i64 0, .int .i64 0, .int .i64 0, .int .i64 0, .int .i64 0, .int .i64 0, .int .i64 0, .int .i64 0, .int .i64 0, .int .i64 0, .string ⟨#[]⟩, .int .i64 0, .slice none 0 0] 30)) (w.heap.size + 1 + 1) u s k h n t := by
    have h0 := cb_new ((w.alloc (.cells (rcs r A c) 30)).alloc (.cells #[.int .i64 x, .int .i64 y] 23)) u s k h n t
    rw [show ((w.alloc (.cells (rcs r A c) 30)).alloc (.cells #[.int .i64 x, .int .i64 y] 23)).heap.size = w.heap.size + 1 + 1 by simp] at h0
    exact ((h0.old _).old _)
  have V0 : Ab (((((w.alloc (.cells (rcs r A c) 30)).alloc (.cells #[.int .i64 x, .int .i64 y] 23)).alloc (.cells #[.int .i64 u, .int .i64 s, .int .i64 k, .int .i64 h, .int .i64 n, .string t] 25)).alloc (.cells #[.int .i64 q, .slice A' xs.length c'] 28)).alloc (.cells #[.int .i64 0, .int .i64 0, .int .i64 0, .int .i64 0, .int .i64 0, .int .i64 0, .int .i64 0, .int .i64 0, .int .i64 0, .int .i64 0, .string ⟨#[]⟩, .int .i64 0, .slice none 0 0] 30)) (w.heap.size + 1 + 1 + 1) q A' xs.length c' := by
    have h0 := ab_new (((w.alloc (.cells (rcs r A c) 30)).alloc (.cells #[.int .i64 x, .int .i64 y] 23)).alloc (.cells #[.int .i64 u, .int .i64 s, .int .i64 k, .int .i64 h, .int .i64 n, .string t] 25)) q A' xs.length c'
    rw [show (((w.alloc (.cells (rcs r A c) 30)).alloc (.cells #[.int .i64 x, .int .i64 y] 23)).alloc (.cells #[.int .i64 u, .int .i64 s, .int .i64 k, .int .i64 h, .int .i64 n, .string t] 25)).heap.size = w.heap.size + 1 + 1 + 1 by simp] at h0
    exact (h0.old _)
  have Z0 : Rx (((((w.alloc (.cells (rcs r A c) 30)).alloc (.cells #[.int .i64 x, .int .i64 y] 23)).alloc (.cells #[.int .i64 u, .int .i64 s, .int .i64 k, .int .i64 h, .int .i64 n, .string t] 25)).alloc (.cells #[.int .i64 q, .slice A' xs.length c'] 28)).alloc (.cells #[.int .i64 0, .int .i64 0, .int .i64 0, .int .i64 0, .int .i64 0, .int .i64 0, .int .i64 0, .int .i64 0, .int .i64 0, .int .i64 0, .string ⟨#[]⟩, .int .i64 0, .slice none 0 0] 30)) (w.heap.size + 1 + 1 + 1 + 1) ⟨0, 0, 0, 0, 0, 0, 0, 0, 0, 0, ⟨#[]⟩, 0, []⟩ none 0 := by
    have h0 := zero_box ((((w.alloc (.cells (rcs r A c) 30)).alloc (.cells #[.int .i64 x, .int .i64 y] 23)).alloc (.cells #[.int .i64 u, .int .i64 s, .int .i64 k, .int .i64 h, .int .i64 n, .string t] 25)).alloc (.cells #[.int .i64 q, .slice A' xs.length c'] 28)) 
    rw [show ((((w.alloc (.cells (rcs r A c) 30)).alloc (.cells #[.int .i64 x, .int .i64 y] 23)).alloc (.cells #[.int .i64 u, .int .i64 s, .int .i64 k, .int .i64 h, .int .i64 n, .string t] 25)).alloc (.cells #[.int .i64 q, .slice A' xs.length c'] 28)).heap.size = w.heap.size + 1 + 1 + 1 + 1 by simp] at h0
    exact h0
  have B0 : Below w.heap.size w (((((w.alloc (.cells (rcs r A c) 30)).alloc (.cells #[.int .i64 x, .int .i64 y] 23)).alloc (.cells #[.int .i64 u, .int .i64 s, .int .i64 k, .int .i64 h, .int .i64 n, .string t] 25)).alloc (.cells #[.int .i64 q, .slice A' xs.length c'] 28)).alloc (.cells #[.int .i64 0, .int .i64 0, .int .i64 0, .int .i64 0, .int .i64 0, .int .i64 0, .int .i64 0, .int .i64 0, .int .i64 0, .int .i64 0, .string ⟨#[]⟩, .int .i64 0, .slice none 0 0] 30)) := ((((((Below.refl _ _).alloc (Nat.le_refl _) _).alloc (by first | (simp; done) | (simp; omega)) _).alloc (by first | (simp; done) | (simp; omega)) _).alloc (by first | (simp; done) | (simp; omega)) _).alloc (by first | (simp; done) | (simp; omega)) _)
  rw [hr] at HR
  clear hr
  go_enter Tryd.func19, Tryd.ntmps19
  go_wp2_with fail
  generalize (((((w.alloc (.cells (rcs r A c) 30)).alloc (.cells #[.int .i64 x, .int .i64 y] 23)).alloc (.cells #[.int .i64 u, .int .i64 s, .int .i64 k, .int .i64 h, .int .i64 n, .string t] 25)).alloc (.cells #[.int .i64 q, .slice A' xs.length c'] 28)).alloc (.cells #[.int .i64 0, .int .i64 0, .int .i64 0, .int .i64 0, .int .i64 0, .int .i64 0, .int .i64 0, .int .i64 0, .int .i64 0, .int .i64 0, .string ⟨#[]⟩, .int .i64 0, .slice none 0 0] 30)) = W0 at *
  refine (HR _).out.mono ?_
  rintro e w1 ⟨rfl, b1⟩
  have B1 := B0.trans (b1.mono B0.size)
  have Z1 := Z0.on b1 Z0.lt
  obtain ⟨p0, p1, p2, p3, p4, p5, p6, p7, p8, p9, p10, p11, p12⟩ := (X0.on b1 X0.lt).rb
  obtain ⟨q0, q1⟩ := Y0.on b1 Y0.lt
  obtain ⟨d0, d1, d2, d3, d4, d5⟩ := C0.on b1 C0.lt
  obtain ⟨g0, g1⟩ := V0.on b1 V0.lt
  clear HR X0 Y0 C0 V0 Z0 B0 b1
  have zlt8 := Z1.lt
  have Z9 := Z1.put r A c
  have hq9 : w.heap.size ≤ w.heap.size + 1 + 1 + 1 + 1 := by omega
  have B9 := below_put B1 (B := w.heap.size + 1 + 1 + 1 + 1) hq9 r A c
  have fz := Z1.free
  obtain ⟨z0, z1, z2, z3, z4, z5, z6, z7, z8, z9, z10, z11, z12⟩ := id Z1.rb
  have fin := Lib.hid (And.intro Z9.rb B9)
  clear Z9 B9 Z1 zlt8 hq9
  go_wp2
  exact bodyPost_ret (run_res_rPreAccept (B := w.heap.size + 1 + 1 + 1 + 1) rfl rfl fin.out.1) rfl ⟨A, c, rfl, (fun _ _ g _ => g), fin.out.2⟩

set_option maxHeartbeats 2000000 in
theorem rpre_n1 (r : Rd) (A A' : Option Addr) (c c' : Nat) (x y u s k h n : Int) (t : ByteArray) (q : Int) (xs : List Int) (w : World) (hr : rf r 0 x y = false) (h2 : (r.st == 2) = true) (he : ((r.vn == x) && (r.vb == y)) = false) (h1 : (r.st == 1) = false) : Calls Tryd.prog 19 #[rv r A c, bv x y, cv u s k h n t, av q A' xs.length c'] w (DidPost w A r.xs A' xs ⟨1, x, y, x, y, u, s, k, h, n, t, q, xs⟩ true) := by
  have HR : ∀ W, Hid (Calls Tryd.prog 38 #[rv r A c, bv x y] W (BoolPost W (rf r 0 x y))) := fun W => rlate_any r A c x y W
  have X0 : Rx (((((w.alloc (.cells (rcs r A c) 30)).alloc (.cells #[.int .i64 x, .int .i64 y] 23)).alloc (.cells #[.int .i64 u, .int .i64 s, .int .i64 k, .int .i64 h, .int .i64 n, .string t] 25)).alloc (.cells #[.int .i64 q, .slice A' xs.length c'] 28)).alloc (.cells #[.int .i64 0, .int .i64 0, .int .i64 0, .int .i64 0, .int .i64 0, .int .i64 0, .int .i64 0, .int .i64 0, .int .i64 0, .int .i64 0, .string ⟨#[]⟩, .int .i64 0, .slice none 0 0] 30)) (w.heap.size) r A c := by
    have h0 := rx_new w r A c
    exact ((((h0.old _).old _).old _).old _)
  have Y0 : Ba.Bb (((((w.alloc (.cells (rcs r A c) 30)).alloc (.cells #[.int .i64 x, .int .i64 y] 23)).alloc (.cells #[.int .i64 u, .int .i64 s, .int .i64 k, .int .i64 h, .int .i64 n, .string t] 25)).alloc (.cells #[.int .i64 q, .slice A' xs.length c'] 28)).alloc (.cells #[.int .i64 0, .int .i64 0, .int .i64 0, .int .i64 0, .int .i64 0, .int .i64 0, .int .i64 0, .int .i64 0, .int .i64 0, .int .i64 0, .string ⟨#[]⟩, .int .i64 0, .slice none 0 0] 30)) (w.heap.size + 1) x y := by
    have h0 := Ba.bx_new (w.alloc (.cells (rcs r A c) 30)) x y
    have h0 := Ba.Bx.bb h0
    rw [show (w.alloc (.cells (rcs r A c) 30)).heap.size = w.heap.size + 1 by simp] at h0
    exact (((h0.old _).old _).old _)
  have C0 : Cb (((((w.alloc (.cells (rcs r A c) 30)).alloc (.cells #[.int .i64 x, .int .i64 y] 23)).alloc (.cells #[.int .i64 u, .int .i64 s, .int .i64 k, .int .i64 h, .int .i64 n, .string t] 25)).alloc (.cells #[.int .i64 q, .slice A' xs.length c'] 28)).alloc (.cells #[.int .i64 0, .int .i64 0, .int .i64 0, .int .i64 0, .int .i64 0, .int .i64 0, .int .i64 0, .int .i64 0, .int .i64 0, .int .i64 0, .string ⟨#[]⟩, .int .i64 0, .slice none 0 0] 30)) (w.heap.size + 1 + 1) u s k h n t := by
    have h0 := cb_new ((w.alloc (.cells (rcs r A c) 30)).alloc (.cells #[.int .i64 x, .int .i64 y] 23)) u s k h n t
    rw [show ((w.alloc (.cells (rcs r A c) 30)).alloc (.cells #[.int .i64 x, .int .i64 y] 23)).heap.size = w.heap.size + 1 + 1 by simp] at h0
    exact ((h0.old _).old _)
  have V0 : Ab (((((w.alloc (.cells (rcs r A c) 30)).alloc (.cells #[.int .i64 x, .int .i64 y] 23)).alloc (.cells #[.int .i64 u, .int .i64 s, .int .i64 k, .int .i64 h, .int .i64 n, .string t] 25)).alloc (.cells #[.int .i64 q, .slice A' xs.length c'] 28)).alloc (.cells #[.int .i64 0, .int .i64 0, .int .i64 0, .int .i64 0, .int .i64 0, .int .i64 0, .int .i64 0, .int .i64 0, .int .i64 0, .int .i64 0, .string ⟨#[]⟩, .int .i64 0, .slice none 0 0] 30)) (w.heap.size + 1 + 1 + 1) q A' xs.length c' := by
    have h0 := ab_new (((w.alloc (.cells (rcs r A c) 30)).alloc (.cells #[.int .i64 x, .int .i64 y] 23)).alloc (.cells #[.int .i64 u, .int .i64 s, .int .i64 k, .int .i64 h, .int .i64 n, .string t] 25)) q A' xs.length c'
    rw [show (((w.alloc (.cells (rcs r A c) 30)).alloc (.cells #[.int .i64 x, .int .i64 y] 23)).alloc (.cells #[.int .i64 u, .int .i64 s, .int .i64 k, .int .i64 h, .int .i64 n, .string t] 25)).heap.size = w.heap.size + 1 + 1 + 1 by simp] at h0
    exact (h0.old _)
  have Z0 : Rx (((((w.alloc (.cells (rcs r A c) 30)).alloc (.cells #[.int .i64 x, .int .i64 y] 23)).alloc (.cells #[.int .i64 u, .int .i64 s, .int .i64 k, .int .i64 h, .int .i64 n, .string t] 25)).alloc (.cells #[.int .i64 q, .slice A' xs.length c'] 28)).alloc (.cells #[.int .i64 0, .int .i64 0, .int .i64 0, .int .i64 0, .int .i64 0, .int .i64 0, .int .i64 0, .int .i64 0, .int .i64 0, .int .i64 0, .string ⟨#[]⟩, .int .i64 0, .slice none 0 0] 30)) (w.heap.size + 1 + 1 + 1 + 1) ⟨0, 0, 0, 0, 0, 0, 0, 0, 0, 0, ⟨#[]⟩, 0, []⟩ none 0 := by
    have h0 := zero_box ((((w.alloc (.cells (rcs r A c) 30)).alloc (.cells #[.int .i64 x, .int .i64 y] 23)).alloc (.cells #[.int .i64 u, .int .i64 s, .int .i64 k, .int .i64 h, .int .i64 n, .string t] 25)).alloc (.cells #[.int .i64 q, .slice A' xs.length c'] 28)) 
    rw [show ((((w.alloc (.cells (rcs r A c) 30)).alloc (.cells #[.int .i64 x, .int .i64 y] 23)).alloc (.cells #[.int .i64 u, .int .i64 s, .int .i64 k, .int .i64 h, .int .i64 n, .string t] 25)).alloc (.cells #[.int .i64 q, .slice A' xs.length c'] 28)).heap.size = w.heap.size + 1 + 1 + 1 + 1 by simp] at h0
    exact h0
  have B0 : Below w.heap.size w (((((w.alloc (.cells (rcs r A c) 30)).alloc (.cells #[.int .i64 x, .int .i64 y] 23)).alloc (.cells #[.int .i64 u, .int .i64 s, .int .i64 k, .int .i64 h, .int .i64 n, .string t] 25)).alloc (.cells #[.int .i64 q, .slice A' xs.length c'] 28)).alloc (.cells #[.int .i64 0, .int .i64 0, .int .i64 0, .int .i64 0, .int .i64 0, .int .i64 0, .int .i64 0, .int .i64 0, .int .i64 0, .int .i64 0, .string ⟨#[]⟩, .int .i64 0, .slice none 0 0] 30)) := ((((((Below.refl _ _).alloc (Nat.le_refl _) _).alloc (by first | (simp; done) | (simp; omega)) _).alloc (by first | (simp; done) | (simp; omega)) _).alloc (by first | (simp; done) | (simp; omega)) _).alloc (by first | (simp; done) | (simp; omega)) _)
  rw [hr] at HR
  clear hr
  go_enter Tryd.func19, Tryd.ntmps19
  go_wp2_with fail
  generalize (((((w.alloc (.cells (rcs r A c) 30)).alloc (.cells #[.int .i64 x, .int .i64 y] 23)).alloc (.cells #[.int .i64 u, .int .i64 s, .int .i64 k, .int .i64 h, .int .i64 n, .string t] 25)).alloc (.cells #[.int .i64 q, .slice A' xs.length c'] 28)).alloc (.cells #[.int .i64 0, .int .i64 0, .int .i64 0, .int .i64 0, .int .i64 0, .int .i64 0, .int .i64 0, .int .i64 0, .int .i64 0, .int .i64 0, .string ⟨#[]⟩, .int .i64 0, .slice none 0 0] 30)) = W0 at *
  refine (HR _).out.mono ?_
  rintro e w1 ⟨rfl, b1⟩
  have B1 := B0.trans (b1.mono B0.size)
  have Z1 := Z0.on b1 Z0.lt
  obtain ⟨p0, p1, p2, p3, p4, p5, p6, p7, p8, p9, p10, p11, p12⟩ := (X0.on b1 X0.lt).rb
  obtain ⟨q0, q1⟩ := Y0.on b1 Y0.lt
  obtain ⟨d0, d1, d2, d3, d4, d5⟩ := C0.on b1 C0.lt
  obtain ⟨g0, g1⟩ := V0.on b1 V0.lt
  clear HR X0 Y0 C0 V0 Z0 B0 b1
  have zlt8 := Z1.lt
  have Z9 := Z1.put ⟨1, x, y, x, y, u, s, k, h, n, t, q, xs⟩ A' c'
  have hq9 : w.heap.size ≤ w.heap.size + 1 + 1 + 1 + 1 := by omega
  have B9 := below_put B1 (B := w.heap.size + 1 + 1 + 1 + 1) hq9 ⟨1, x, y, x, y, u, s, k, h, n, t, q, xs⟩ A' c'
  have fz := Z1.free
  obtain ⟨z0, z1, z2, z3, z4, z5, z6, z7, z8, z9, z10, z11, z12⟩ := id Z1.rb
  have fin := Lib.hid (And.intro Z9.rb B9)
  clear Z9 B9 Z1 zlt8 hq9
  go_wp2
  exact bodyPost_ret (run_res_rPreAccept (B := w.heap.size + 1 + 1 + 1 + 1) rfl rfl fin.out.1) rfl ⟨A', c', rfl, (fun _ _ _ g => g), fin.out.2⟩

set_option maxHeartbeats 2000000 in
theorem rpre_same (r : Rd) (A A' : Option Addr) (c c' : Nat) (x y u s k h n : Int) (t : ByteArray) (q : Int) (xs : List Int) (w : World) (hr : rf r 0 x y = false) (h2 : (r.st == 2) = false) (h1 : (r.st == 1) = true) (he : ((r.vn == x) && (r.vb == y)) = true) : Calls Tryd.prog 19 #[rv r A c, bv x y, cv u s k h n t, av q A' xs.length c'] w (DidPost w A r.xs A' xs r true) := by
  have HR : ∀ W, Hid (Calls Tryd.prog 38 #[rv r A c, bv x y] W (BoolPost W (rf r 0 x y))) := fun W => rlate_any r A c x y W
  have X0 : Rx (((((w.alloc (.cells (rcs r A c) 30)).alloc (.cells #[.int .i64 x, .int .i64 y] 23)).alloc (.cells #[.int .i64 u, .int .i64 s, .int .i64 k, .int .i64 h, .int .i64 n, .string t] 25)).alloc (.cells #[.int .i64 q, .slice A' xs.length c'] 28)).alloc (.cells #[.int .i64 0, .int .i64 0, .int .i64 0, .int .i64 0, .int .i64 0, .int .i64 0, .int .i64 0, .int .i64 0, .int .i64 0, .int .i64 0, .string ⟨#[]⟩, .int .i64 0, .slice none 0 0] 30)) (w.heap.size) r A c := by
    have h0 := rx_new w r A c
    exact ((((h0.old _).old _).old _).old _)
  have Y0 : Ba.Bb (((((w.alloc (.cells (rcs r A c) 30)).alloc (.cells #[.int .i64 x, .int .i64 y] 23)).alloc (.cells #[.int .i64 u, .int .i64 s, .int .i64 k, .int .i64 h, .int .i64 n, .string t] 25)).alloc (.cells #[.int .i64 q, .slice A' xs.length c'] 28)).alloc (.cells #[.int .i64 0, .int .i64 0, .int .i64 0, .int .i64 0, .int .i64 0, .int .i64 0, .int .i64 0, .int .i64 0, .int .i64 0, .int .i64 0, .string ⟨#[]⟩, .int .i64 0, .slice none 0 0] 30)) (w.heap.size + 1) x y := by
    have h0 := Ba.bx_new (w.alloc (.cells (rcs r A c) 30)) x y
    have h0 := Ba.Bx.bb h0
    rw [show (w.alloc (.cells (rcs r A c) 30)).heap.size = w.heap.size + 1 by simp] at h0
    exact (((h0.old _).old _).old _)
  have C0 : Cb (((((w.alloc (.cells (rcs r A c) 30)).alloc (.cells #[.int .i64 x, .int .i64 y] 23)).alloc (.cells #[.int .i64 u, .int .i64 s, .int .i64 k, .int .i64 h, .int .i64 n, .string t] 25)).alloc (.cells #[.int .i64 q, .slice A' xs.length c'] 28)).alloc (.cells #[.int .i64 0, .int .i64 0, .int .i64 0, .int .i64 0, .int .i64 0, .int .i64 0, .int .i64 0, .int .i64 0, .int .i64 0, .int .i64 0, .string ⟨#[]⟩, .int .i64 0, .slice none 0 0] 30)) (w.heap.size + 1 + 1) u s k h n t := by
    have h0 := cb_new ((w.alloc (.cells (rcs r A c) 30)).alloc (.cells #[.int .i64 x, .int .i64 y] 23)) u s k h n t
    rw [show ((w.alloc (.cells (rcs r A c) 30)).alloc (.cells #[.int .i64 x, .int .i64 y] 23)).heap.size = w.heap.size + 1 + 1 by simp] at h0
    exact ((h0.old _).old _)
  have V0 : Ab (((((w.alloc (.cells (rcs r A c) 30)).alloc (.cells #[.int .i64 x, .int .i64 y] 23)).alloc (.cells #[.int .i64 u, .int .i64 s, .int .i64 k, .int .i64 h, .int .i64 n, .string t] 25)).alloc (.cells #[.int .i64 q, .slice A' xs.length c'] 28)).alloc (.cells #[.int .i64 0, .int .i64 0, .int .i64 0, .int .i64 0, .int .i64 0, .int .i64 0, .int .i64 0, .int .i64 0, .int .i64 0, .int .i64 0, .string ⟨#[]⟩, .int .i64 0, .slice none 0 0] 30)) (w.heap.size + 1 + 1 + 1) q A' xs.length c' := by
    have h0 := ab_new (((w.alloc (.cells (rcs r A c) 30)).alloc (.cells #[.int .i64 x, .int .i64 y] 23)).alloc (.cells #[.int .i64 u, .int .i64 s, .int .i64 k, .int .i64 h, .int .i64 n, .string t] 25)) q A' xs.length c'
    rw [show (((w.alloc (.cells (rcs r A c) 30)).alloc (.cells #[.int .i64 x, .int .i64 y] 23)).alloc (.cells #[.int .i64 u, .int .i64 s, .int .i64 k, .int .i64 h, .int .i64 n, .string t] 25)).heap.size = w.heap.size + 1 + 1 + 1 by simp] at h0
    exact (h0.old _)
  have Z0 : Rx (((((w.alloc (.cells (rcs r A c) 30)).alloc (.cells #[.int .i64 x, .int .i64 y] 23)).alloc (.cells #[.int .i64 u, .int .i64 s, .int .i64 k, .int .i64 h, .int .i64 n, .string t] 25)).alloc (.cells #[.int .i64 q, .slice A' xs.length c'] 28)).alloc (.cells #[.int .i64 0, .int .i64 0, .int .i64 0, .int .i64 0, .int .i64 0, .int .i64 0, .int .i64 0, .int .i64 0, .int .i64 0, .int .i64 0, .string ⟨#[]⟩, .int .i64 0, .slice none 0 0] 30)) (w.heap.size + 1 + 1 + 1 + 1) ⟨0, 0, 0, 0, 0, 0, 0, 0, 0, 0, ⟨#[]⟩, 0, []⟩ none 0 := by
    have h0 := zero_box ((((w.alloc (.cells (rcs r A c) 30)).alloc (.cells #[.int .i64 x, .int .i64 y] 23)).alloc (.cells #[.int .i64 u, .int .i64 s, .int .i64 k, .int .i64 h, .int .i64 n, .string t] 25)).alloc (.cells #[.int .i64 q, .slice A' xs.length c'] 28)) 
    rw [show ((((w.alloc (.cells (rcs r A c) 30)).alloc (.cells #[.int .i64 x, .int .i64 y] 23)).alloc (.cells #[.int .i64 u, .int .i64 s, .int .i64 k, .int .i64 h, .int .i64 n, .string t] 25)).alloc (.cells #[.int .i64 q, .slice A' xs.length c'] 28)).heap.size = w.heap.size + 1 + 1 + 1 + 1 by simp] at h0
    exact h0
  have B0 : Below w.heap.size w (((((w.alloc (.cells (rcs r A c) 30)).alloc (.cells #[.int .i64 x, .int .i64 y] 23)).alloc (.cells #[.int .i64 u, .int .i64 s, .int .i64 k, .int .i64 h, .int .i64 n, .string t] 25)).alloc (.cells #[.int .i64 q, .slice A' xs.length c'] 28)).alloc (.cells #[.int .i64 0, .int .i64 0, .int .i64 0, .int .i64 0, .int .i64 0, .int .i64 0, .int .i64 0, .int .i64 0, .int .i64 0, .int .i64 0, .string ⟨#[]⟩, .int .i64 0, .slice none 0 0] 30)) := ((((((Below.refl _ _).alloc (Nat.le_refl _) _).alloc (by first | (simp; done) | (simp; omega)) _).alloc (by first | (simp; done) | (simp; omega)) _).alloc (by first | (simp; done) | (simp; omega)) _).alloc (by first | (simp; done) | (simp; omega)) _)
  rw [hr] at HR
  clear hr
  go_enter Tryd.func19, Tryd.ntmps19
  go_wp2_with fail
  generalize (((((w.alloc (.cells (rcs r A c) 30)).alloc (.cells #[.int .i64 x, .int .i64 y] 23)).alloc (.cells #[.int .i64 u, .int .i64 s, .int .i64 k, .int .i64 h, .int .i64 n, .string t] 25)).alloc (.cells #[.int .i64 q, .slice A' xs.length c'] 28)).alloc (.cells #[.int .i64 0, .int .i64 0, .int .i64 0, .int .i64 0, .int .i64 0, .int .i64 0, .int .i64 0, .int .i64 0, .int .i64 0, .int .i64 0, .string ⟨#[]⟩, .int .i64 0, .slice none 0 0] 30)) = W0 at *
  refine (HR _).out.mono ?_
  rintro e w1 ⟨rfl, b1⟩
  have B1 := B0.trans (b1.mono B0.size)
  have Z1 := Z0.on b1 Z0.lt
  obtain ⟨p0, p1, p2, p3, p4, p5, p6, p7, p8, p9, p10, p11, p12⟩ := (X0.on b1 X0.lt).rb
  obtain ⟨q0, q1⟩ := Y0.on b1 Y0.lt
  obtain ⟨d0, d1, d2, d3, d4, d5⟩ := C0.on b1 C0.lt
  obtain ⟨g0, g1⟩ := V0.on b1 V0.lt
  clear HR X0 Y0 C0 V0 Z0 B0 b1
  have zlt8 := Z1.lt
  have Z9 := Z1.put r A c
  have hq9 : w.heap.size ≤ w.heap.size + 1 + 1 + 1 + 1 := by omega
  have B9 := below_put B1 (B := w.heap.size + 1 + 1 + 1 + 1) hq9 r A c
  have fz := Z1.free
  obtain ⟨z0, z1, z2, z3, z4, z5, z6, z7, z8, z9, z10, z11, z12⟩ := id Z1.rb
  have fin := Lib.hid (And.intro Z9.rb B9)
  clear Z9 B9 Z1 zlt8 hq9
  go_wp2
  exact bodyPost_ret (run_res_rPreAccept (B := w.heap.size + 1 + 1 + 1 + 1) rfl rfl fin.out.1) rfl ⟨A, c, rfl, (fun _ _ g _ => g), fin.out.2⟩

set_option maxHeartbeats 2000000 in
theorem rpre_n2 (r : Rd) (A A' : Option Addr) (c c' : Nat) (x y u s k h n : Int) (t : ByteArray) (q : Int) (xs : List Int) (w : World) (hr : rf r 0 x y = false) (h2 : (r.st == 2) = false) (h1 : (r.st == 1) = true) (he : ((r.vn == x) && (r.vb == y)) = false) : Calls Tryd.prog 19 #[rv r A c, bv x y, cv u s k h n t, av q A' xs.length c'] w (DidPost w A r.xs A' xs ⟨1, x, y, x, y, u, s, k, h, n, t, q, xs⟩ true) := by
  have HR : ∀ W, Hid (Calls Tryd.prog 38 #[rv r A c, bv x y] W (BoolPost W (rf r 0 x y))) := fun W => rlate_any r A c x y W
  have X0 : Rx (((((w.alloc (.cells (rcs r A c) 30)).alloc (.cells #[.int .i64 x, .int .i64 y] 23)).alloc (.cells #[.int .i64 u, .int .i64 s, .int .i64 k, .int .i64 h, .int .i64 n, .string t] 25)).alloc (.cells #[.int .i64 q, .slice A' xs.length c'] 28)).alloc (.cells #[.int .i64 0, .int .i64 0, .int .i64 0, .int .i64 0, .int .i64 0, .int .i64 0, .int .i64 0, .int .i64 0, .int .i64 0, .int .i64 0, .string ⟨#[]⟩, .int .i64 0, .slice none 0 0] 30)) (w.heap.size) r A c := by
    have h0 := rx_new w r A c
    exact ((((h0.old _).old _).old _).old _)
  have Y0 : Ba.Bb (((((w.alloc (.cells (rcs r A c) 30)).alloc (.cells #[.int .i64 x, .int .i64 y] 23)).alloc (.cells #[.int .i64 u, .int .i64 s, .int .i64 k, .int .i64 h, .int .i64 n, .string t] 25)).alloc (.cells #[.int .i64 q, .slice A' xs.length c'] 28)).alloc (.cells #[.int .i64 0, .int .i64 0, .int .i64 0, .int .i64 0, .int .i64 0, .int .i64 0, .int .i64 0, .int .i64 0, .int .i64 0, .int .i64 0, .string ⟨#[]⟩, .int .i64 0, .slice none 0 0] 30)) (w.heap.size + 1) x y := by
    have h0 := Ba.bx_new (w.alloc (.cells (rcs r A c) 30)) x y
    have h0 := Ba.Bx.bb h0
    rw [show (w.alloc (.cells (rcs r A c) 30)).heap.size = w.heap.size + 1 by simp] at h0
    exact (((h0.old _).old _).old _)
  have C0 : Cb (((((w.alloc (.cells (rcs r A c) 30)).alloc (.cells #[.int .i64 x, .int .i64 y] 23)).alloc (.cells #[.int .i64 u, .int .i64 s, .int .i64 k, .int .i64 h, .int .i64 n, .string t] 25)).alloc (.cells #[.int .i64 q, .slice A' xs.length c'] 28)).alloc (.cells #[.int .i64 0, .int .i64 0, .int .i64 0, .int .i64 0, .int .i64 0, .int .i64 0, .int .i64 0, .int .i64 0, .int .i64 0, .int .i64 0, .string ⟨#[]⟩, .int .i64 0, .slice none 0 0] 30)) (w.heap.size + 1 + 1) u s k h n t := by
    have h0 := cb_new ((w.alloc (.cells (rcs r A c) 30)).alloc (.cells #[.int .i64 x, .int .i64 y] 23)) u s k h n t
    rw [show ((w.alloc (.cells (rcs r A c) 30)).alloc (.cells #[.int .i64 x, .int .i64 y] 23)).heap.size = w.heap.size + 1 + 1 by simp] at h0
    exact ((h0.old _).old _)
  have V0 : Ab (((((w.alloc (.cells (rcs r A c) 30)).alloc (.cells #[.int .i64 x, .int .i64 y] 23)).alloc (.cells #[.int .i64 u, .int .i64 s, .int .i64 k, .int .i64 h, .int .i64 n, .string t] 25)).alloc (.cells #[.int .i64 q, .slice A' xs.length c'] 28)).alloc (.cells #[.int .i64 0, .int .i64 0, .int .i64 0, .int .i64 0, .int .i64 0, .int .i64 0, .int .i64 0, .int .i64 0, .int .i64 0, .int .i64 0, .string ⟨#[]⟩, .int .i64 0, .slice none 0 0] 30)) (w.heap.size + 1 + 1 + 1) q A' xs.length c' := by
    have h0 := ab_new (((w.alloc (.cells (rcs r A c) 30)).alloc (.cells #[.int .i64 x, .int .i64 y] 23)).alloc (.cells #[.int .i64 u, .int .i64 s, .int .i64 k, .int .i64 h, .int .i64 n, .string t] 25)) q A' xs.length c'
    rw [show (((w.alloc (.cells (rcs r A c) 30)).alloc (.cells #[.int .i64 x, .int .i64 y] 23)).alloc (.cells #[.int .i64 u, .int .i64 s, .int .i64 k, .int .i64 h, .int .i64 n, .string t] 25)).heap.size = w.heap.size + 1 + 1 + 1 by simp] at h0
    exact (h0.old _)
  have Z0 : Rx (((((w.alloc (.cells (rcs r A c) 30)).alloc (.cells #[.int .i64 x, .int .i64 y] 23)).alloc (.cells #[.int .i64 u, .int .i64 s, .int .i64 k, .int .i64 h, .int .i64 n, .string t] 25)).alloc (.cells #[.int .i64 q, .slice A' xs.length c'] 28)).alloc (.cells #[.int .i64 0, .int .i64 0, .int .i64 0, .int .i64 0, .int .i64 0, .int .i64 0, .int .i64 0, .int .i64 0, .int .i64 0, .int .i64 0, .string ⟨#[]⟩, .int .i64 0, .slice none 0 0] 30)) (w.heap.size + 1 + 1 + 1 + 1) ⟨0, 0, 0, 0, 0, 0, 0, 0, 0, 0, ⟨#[]⟩, 0, []⟩ none 0 := by
    have h0 := zero_box ((((w.alloc (.cells (rcs r A c) 30)).alloc (.cells #[.int .i64 x, .int .i64 y] 23)).alloc (.cells #[.int .i64 u, .int .i64 s, .int .i64 k, .int .i64 h, .int .i64 n, .string t] 25)).alloc (.cells #[.int .i64 q, .slice A' xs.length c'] 28)) 
    rw [show ((((w.alloc (.cells (rcs r A c) 30)).alloc (.cells #[.int .i64 x, .int .i64 y] 23)).alloc (.cells #[.int .i64 u, .int .i64 s, .int .i64 k, .int .i64 h, .int .i64 n, .string t] 25)).alloc (.cells #[.int .i64 q, .slice A' xs.length c'] 28)).heap.size = w.heap.size + 1 + 1 + 1 + 1 by simp] at h0
    exact h0
  have B0 : Below w.heap.size w (((((w.alloc (.cells (rcs r A c) 30)).alloc (.cells #[.int .i64 x, .int .i64 y] 23)).alloc (.cells #[.int .i64 u, .int .i64 s, .int .i64 k, .int .i64 h, .int .i64 n, .string t] 25)).alloc (.cells #[.int .i64 q, .slice A' xs.length c'] 28)).alloc (.cells #[.int .i64 0, .int .i64 0, .int .i64 0, .int .i64 0, .int .i64 0, .int .i64 0, .int .i64 0, .int .i64 0, .int .i64 0, .int .i64 0, .string ⟨#[]⟩, .int .i64 0, .slice none 0 0] 30)) := ((((((Below.refl _ _).alloc (Nat.le_refl _) _).alloc (by first | (simp; done) | (simp; omega)) _).alloc (by first | (simp; done) | (simp; omega)) _).alloc (by first | (simp; done) | (simp; omega)) _).alloc (by first | (simp; done) | (simp; omega)) _)
  rw [hr] at HR
  clear hr
  go_enter Tryd.func19, Tryd.ntmps19
  go_wp2_with fail
  generalize (((((w.alloc (.cells (rcs r A c) 30)).alloc (.cells #[.int .i64 x, .int .i64 y] 23)).alloc (.cells #[.int .i64 u, .int .i64 s, .int .i64 k, .int .i64 h, .int .i64 n, .string t] 25)).alloc (.cells #[.int .i64 q, .slice A' xs.length c'] 28)).alloc (.cells #[.int .i64 0, .int .i64 0, .int .i64 0, .int .i64 0, .int .i64 0, .int .i64 0, .int .i64 0, .int .i64 0, .int .i64 0, .int .i64 0, .string ⟨#[]⟩, .int .i64 0, .slice none 0 0] 30)) = W0 at *
  refine (HR _).out.mono ?_
  rintro e w1 ⟨rfl, b1⟩
  have B1 := B0.trans (b1.mono B0.size)
  have Z1 := Z0.on b1 Z0.lt
  obtain ⟨p0, p1, p2, p3, p4, p5, p6, p7, p8, p9, p10, p11, p12⟩ := (X0.on b1 X0.lt).rb
  obtain ⟨q0, q1⟩ := Y0.on b1 Y0.lt
  obtain ⟨d0, d1, d2, d3, d4, d5⟩ := C0.on b1 C0.lt
  obtain ⟨g0, g1⟩ := V0.on b1 V0.lt
  clear HR X0 Y0 C0 V0 Z0 B0 b1
  have zlt8 := Z1.lt
  have Z9 := Z1.put ⟨1, x, y, x, y, u, s, k, h, n, t, q, xs⟩ A' c'
  have hq9 : w.heap.size ≤ w.heap.size + 1 + 1 + 1 + 1 := by omega
  have B9 := below_put B1 (B := w.heap.size + 1 + 1 + 1 + 1) hq9 ⟨1, x, y, x, y, u, s, k, h, n, t, q, xs⟩ A' c'
  have fz := Z1.free
  obtain ⟨z0, z1, z2, z3, z4, z5, z6, z7, z8, z9, z10, z11, z12⟩ := id Z1.rb
  have fin := Lib.hid (And.intro Z9.rb B9)
  clear Z9 B9 Z1 zlt8 hq9
  go_wp2
  exact bodyPost_ret (run_res_rPreAccept (B := w.heap.size + 1 + 1 + 1 + 1) rfl rfl fin.out.1) rfl ⟨A', c', rfl, (fun _ _ _ g => g), fin.out.2⟩

set_option maxHeartbeats 2000000 in
theorem rpre_n3 (r : Rd) (A A' : Option Addr) (c c' : Nat) (x y u s k h n : Int) (t : ByteArray) (q : Int) (xs : List Int) (w : World) (hr : rf r 0 x y = false) (h2 : (r.st == 2) = false) (h1 : (r.st == 1) = false) : Calls Tryd.prog 19 #[rv r A c, bv x y, cv u s k h n t, av q A' xs.length c'] w (DidPost w A r.xs A' xs ⟨1, x, y, x, y, u, s, k, h, n, t, q, xs⟩ true) := by
  have HR : ∀ W, Hid (Calls Tryd.prog 38 #[rv r A c, bv x y] W (BoolPost W (rf r 0 x y))) := fun W => rlate_any r A c x y W
  have X0 : Rx (((((w.alloc (.cells (rcs r A c) 30)).alloc (.cells #[.int .i64 x, .int .i64 y] 23)).alloc (.cells #[.int .i64 u, .int .i64 s, .int .i64 k, .int .i64 h, .int .i64 n, .string t] 25)).alloc (.cells #[.int .i64 q, .slice A' xs.length c'] 28)).alloc (.cells #[.int .i64 0, .int .i64 0, .int .i64 0, .int .i64 0, .int .i64 0, .int .i64 0, .int .i64 0, .int .i64 0, .int .i64 0, .int .i64 0, .string ⟨#[]⟩, .int .i64 0, .slice none 0 0] 30)) (w.heap.size) r A c := by
    have h0 := rx_new w r A c
    exact ((((h0.old _).old _).old _).old _)
  have Y0 : Ba.Bb (((((w.alloc (.cells (rcs r A c) 30)).alloc (.cells #[.int .i64 x, .int .i64 y] 23)).alloc (.cells #[.int .i64 u, .int .i64 s, .int .i64 k, .int .i64 h, .int .i64 n, .string t] 25)).alloc (.cells #[.int .i64 q, .slice A' xs.length c'] 28)).alloc (.cells #[.int .i64 0, .int .i64 0, .int .i64 0, .int .i64 0, .int .i64 0, .int .i64 0, .int .i64 0, .int .i64 0, .int .i64 0, .int .i64 0, .string ⟨#[]⟩, .int .i64 0, .slice none 0 0] 30)) (w.heap.size + 1) x y := by
    have h0 := Ba.bx_new (w.alloc (.cells (rcs r A c) 30)) x y
    have h0 := Ba.Bx.bb h0
    rw [show (w.alloc (.cells (rcs r A c) 30)).heap.size = w.heap.size + 1 by simp] at h0
    exact (((h0.old _).old _).old _)
  have C0 : Cb (((((w.alloc (.cells (rcs r A c) 30)).alloc (.cells #[.int .i64 x, .int .i64 y] 23)).alloc (.cells #[.int .i64 u, .int .i64 s, .int .i64 k, .int .i64 h, .int .i64 n, .string t] 25)).alloc (.cells #[.int .i64 q, .slice A' xs.length c'] 28)).alloc (.cells #[.int .i64 0, .int .i64 0, .int .i64 0, .int .i64 0, .int .i64 0, .int .i64 0, .int .i64 0, .int .i64 0, .int .i64 0, .int .i64 0, .string ⟨#[]⟩, .int .i64 0, .slice none 0 0] 30)) (w.heap.size + 1 + 1) u s k h n t := by
    have h0 := cb_new ((w.alloc (.cells (rcs r A c) 30)).alloc (.cells #[.int .i64 x, .int .i64 y] 23)) u s k h n t
    rw [show ((w.alloc (.cells (rcs r A c) 30)).alloc (.cells #[.int .i64 x, .int .i64 y] 23)).heap.size = w.heap.size + 1 + 1 by simp] at h0
    exact ((h0.old _).old _)
  have V0 : Ab (((((w.alloc (.cells (rcs r A c) 30)).alloc (.cells #[.int .i64 x, .int .i64 y] 23)).alloc (.cells #[.int .i64 u, .int .i64 s, .int .i64 k, .int .i64 h, .int .i64 n, .string t] 25)).alloc (.cells #[.int .i64 q, .slice A' xs.length c'] 28)).alloc (.cells #[.int .i64 0, .int .i64 0, .int .i64 0, .int .i64 0, .int .i64 0, .int .i64 0, .int .i64 0, .int .i64 0, .int .i64 0, .int .i64 0, .string ⟨#[]⟩, .int .i64 0, .slice none 0 0] 30)) (w.heap.size + 1 + 1 + 1) q A' xs.length c' := by
    have h0 := ab_new (((w.alloc (.cells (rcs r A c) 30)).alloc (.cells #[.int .i64 x, .int .i64 y] 23)).alloc (.cells #[.int .i64 u, .int .i64 s, .int .i64 k, .int .i64 h, .int .i64 n, .string t] 25)) q A' xs.length c'
    rw [show (((w.alloc (.cells (rcs r A c) 30)).alloc (.cells #[.int .i64 x, .int .i64 y] 23)).alloc (.cells #[.int .i64 u, .int .i64 s, .int .i64 k, .int .i64 h, .int .i64 n, .string t] 25)).heap.size = w.heap.size + 1 + 1 + 1 by simp] at h0
    exact (h0.old _)
  have Z0 : Rx (((((w.alloc (.cells (rcs r A c) 30)).alloc (.cells #[.int .i64 x, .int .i64 y] 23)).alloc (.cells #[.int .i64 u, .int .i64 s, .int .i64 k, .int .i64 h, .int .i64 n, .string t] 25)).alloc (.cells #[.int .i64 q, .slice A' xs.length c'] 28)).alloc (.cells #[.int .i64 0, .int .i64 0, .int .i64 0, .int .i64 0, .int .i64 0, .int .i64 0, .int .i64 0, .int .i64 0, .int .i64 0, .int .i64 0, .string ⟨#[]⟩, .int .i64 0, .slice none 0 0] 30)) (w.heap.size + 1 + 1 + 1 + 1) ⟨0, 0, 0, 0, 0, 0, 0, 0, 0, 0, ⟨#[]⟩, 0, []⟩ none 0 := by
    have h0 := zero_box ((((w.alloc (.cells (rcs r A c) 30)).alloc (.cells #[.int .i64 x, .int .i64 y] 23)).alloc (.cells #[.int .i64 u, .int .i64 s, .int .i64 k, .int .i64 h, .int .i64 n, .string t] 25)).alloc (.cells #[.int .i64 q, .slice A' xs.length c'] 28)) 
    rw [show ((((w.alloc (.cells (rcs r A c) 30)).alloc (.cells #[.int .i64 x, .int .i64 y] 23)).alloc (.cells #[.int .i64 u, .int .i64 s, .int .i64 k, .int .i64 h, .int .i64 n, .string t] 25)).alloc (.cells #[.int .i64 q, .slice A' xs.length c'] 28)).heap.size = w.heap.size + 1 + 1 + 1 + 1 by simp] at h0
    exact h0
  have B0 : Below w.heap.size w (((((w.alloc (.cells (rcs r A c) 30)).alloc (.cells #[.int .i64 x, .int .i64 y] 23)).alloc (.cells #[.int .i64 u, .int .i64 s, .int .i64 k, .int .i64 h, .int .i64 n, .string t] 25)).alloc (.cells #[.int .i64 q, .slice A' xs.length c'] 28)).alloc (.cells #[.int .i64 0, .int .i64 0, .int .i64 0, .int .i64 0, .int .i64 0, .int .i64 0, .int .i64 0, .int .i64 0, .int .i64 0, .int .i64 0, .string ⟨#[]⟩, .int .i64 0, .slice none 0 0] 30)) := ((((((Below.refl _ _).alloc (Nat.le_refl _) _).alloc (by first | (simp; done) | (simp; omega)) _).alloc (by first | (simp; done) | (simp; omega)) _).alloc (by first | (simp; done) | (simp; omega)) _).alloc (by first | (simp; done) | (simp; omega)) _)
  rw [hr] at HR
  clear hr
  go_enter Tryd.func19, Tryd.ntmps19
  go_wp2_with fail
  generalize (((((w.alloc (.cells (rcs r A c) 30)).alloc (.cells #[.int .i64 x, .int .i64 y] 23)).alloc (.cells #[.int .i64 u, .int .i64 s, .int .i64 k, .int .i64 h, .int .i64 n, .string t] 25)).alloc (.cells #[.int .i64 q, .slice A' xs.length c'] 28)).alloc (.cells #[.int .i64 0, .int .i64 0, .int .i64 0, .int .i64 0, .int .i64 0, .int .i64 0, .int .i64 0, .int .i64 0, .int .i64 0, .int .i64 0, .string ⟨#[]⟩, .int .i64 0, .slice none 0 0] 30)) = W0 at *
  refine (HR _).out.mono ?_
  rintro e w1 ⟨rfl, b1⟩
  have B1 := B0.trans (b1.mono B0.size)
  have Z1 := Z0.on b1 Z0.lt
  obtain ⟨p0, p1, p2, p3, p4, p5, p6, p7, p8, p9, p10, p11, p12⟩ := (X0.on b1 X0.lt).rb
  obtain ⟨q0, q1⟩ := Y0.on b1 Y0.lt
  obtain ⟨d0, d1, d2, d3, d4, d5⟩ := C0.on b1 C0.lt
  obtain ⟨g0, g1⟩ := V0.on b1 V0.lt
  clear HR X0 Y0 C0 V0 Z0 B0 b1
  have zlt8 := Z1.lt
  have Z9 := Z1.put ⟨1, x, y, x, y, u, s, k, h, n, t, q, xs⟩ A' c'
  have hq9 : w.heap.size ≤ w.heap.size + 1 + 1 + 1 + 1 := by omega
  have B9 := below_put B1 (B := w.heap.size + 1 + 1 + 1 + 1) hq9 ⟨1, x, y, x, y, u, s, k, h, n, t, q, xs⟩ A' c'
  have fz := Z1.free
  obtain ⟨z0, z1, z2, z3, z4, z5, z6, z7, z8, z9, z10, z11, z12⟩ := id Z1.rb
  have fin := Lib.hid (And.intro Z9.rb B9)
  clear Z9 B9 Z1 zlt8 hq9
  go_wp2
  exact bodyPost_ret (run_res_rPreAccept (B := w.heap.size + 1 + 1 + 1 + 1) rfl rfl fin.out.1) rfl ⟨A', c', rfl, (fun _ _ _ g => g), fin.out.2⟩

set_option maxHeartbeats 2000000 in
theorem racc_late (r : Rd) (A A' : Option Addr) (c c' : Nat) (x y u s k h n : Int) (t : ByteArray) (q : Int) (xs : List Int) (w : World) (hr : rf r 0 x y = true)  : Calls Tryd.prog 20 #[rv r A c, bv x y, cv u s k h n t, av q A' xs.length c'] w (DidPost w A r.xs A' xs r false) := by
  have HR : ∀ W, Hid (Calls Tryd.prog 38 #[rv r A c, bv x y] W (BoolPost W (rf r 0 x y))) := fun W => rlate_any r A c x y W
  have X0 : Rx (((((w.alloc (.cells (rcs r A c) 30)).alloc (.cells #[.int .i64 x, .int .i64 y] 23)).alloc (.cells #[.int .i64 u, .int .i64 s, .int .i64 k, .int .i64 h, .int .i64 n, .string t] 25)).alloc (.cells #[.int .i64 q, .slice A' xs.length c'] 28)).alloc (.cells #[.int .i64 0, .int .i64 0, .int .i64 0, .int .i64 0, .int .i64 0, .int .i64 0, .int .i64 0, .int .i64 0, .int .i64 0, .int .i64 0, .string ⟨#[]⟩, .int .i64 0, .slice none 0 0] 30)) (w.heap.size) r A c := by
    have h0 := rx_new w r A c
    exact ((((h0.old _).old _).old _).old _)
  have Y0 : Ba.Bb (((((w.alloc (.cells (rcs r A c) 30)).alloc (.cells #[.int .i64 x, .int .i64 y] 23)).alloc (.cells #[.int .i64 u, .int .i64 s, .int .i64 k, .int .i64 h, .int .i64 n, .string t] 25)).alloc (.cells #[.int .i64 q, .slice A' xs.length c'] 28)).alloc (.cells #[.int .i64 0, .int .i64 0, .int .i64 0, .int .i64 0, .int .i64 0, .int .i64 0, .int .i64 0, .int .i64 0, .int .i64 0, .int .i64 0, .string ⟨#[]⟩, .int .i64 0, .slice none 0 0] 30)) (w.heap.size + 1) x y := by
    have h0 := Ba.bx_new (w.alloc (.cells (rcs r A c) 30)) x y
    have h0 := Ba.Bx.bb h0
    rw [show (w.alloc (.cells (rcs r A c) 30)).heap.size = w.heap.size + 1 by simp] at h0
    exact (((h0.old _).old _).old _)
  have C0 : Cb (((((w.alloc (.cells (rcs r A c) 30)).alloc (.cells #[.int .i64 x, .int .i64 y] 23)).alloc (.cells #[.int .i64 u, .int .i64 s, .int .i64 k, .int .i64 h, .int .i64 n, .string t] 25)).alloc (.cells #[.int .i64 q, .slice A' xs.length c'] 28)).alloc (.cells #[.int .i64 0, .int .i64 0, .int .i64 0, .int .i64 0, .int .i64 0, .int .i64 0, .int .i64 0, .int .i64 0, .int .i64 0, .int .i64 0, .string ⟨#[]⟩, .int .i64 0, .slice none 0 0] 30)) (w.heap.size + 1 + 1) u s k h n t := by
    have h0 := cb_new ((w.alloc (.cells (rcs r A c) 30)).alloc (.cells #[.int .i64 x, .int .i64 y] 23)) u s k h n t
    rw [show ((w.alloc (.cells (rcs r A c) 30)).alloc (.cells #[.int .i64 x, .int .i64 y] 23)).heap.size = w.heap.size + 1 + 1 by simp] at h0
    exact ((h0.old _).old _)
  have V0 : Ab (((((w.alloc (.cells (rcs r A c) 30)).alloc (.cells #[.int .i64 x, .int .i64 y] 23)).alloc (.cells #[.int .i64 u, .int .i64 s, .int .i64 k, .int .i64 h, .int .i64 n, .string t] 25)).alloc (.cells #[.int .i64 q, .slice A' xs.length c'] 28)).alloc (.cells #[.int .i64 0, .int .i64 0, .int .i64 0, .int .i64 0, .int .i64 0, .int .i64 0, .int .i64 0, .int .i64 0, .int .i64 0, .int .i64 0, .string ⟨#[]⟩, .int .i64 0, .slice none 0 0] 30)) (w.heap.size + 1 + 1 + 1) q A' xs.length c' := by
    have h0 := ab_new (((w.alloc (.cells (rcs r A c) 30)).alloc (.cells #[.int .i64 x, .int .i64 y] 23)).alloc (.cells #[.int .i64 u, .int .i64 s, .int .i64 k, .int .i64 h, .int .i64 n, .string t] 25)) q A' xs.length c'
    rw [show (((w.alloc (.cells (rcs r A c) 30)).alloc (.cells #[.int .i64 x, .int .i64 y] 23)).alloc (.cells #[.int .i64 u, .int .i64 s, .int .i64 k, .int .i64 h, .int .i64 n, .string t] 25)).heap.size = w.heap.size + 1 + 1 + 1 by simp] at h0
    exact (h0.old _)
  have Z0 : Rx (((((w.alloc (.cells (rcs r A c) 30)).alloc (.cells #[.int .i64 x, .int .i64 y] 23)).alloc (.cells #[.int .i64 u, .int .i64 s, .int .i64 k, .int .i64 h, .int .i64 n, .string t] 25)).alloc (.cells #[.int .i64 q, .slice A' xs.length c'] 28)).alloc (.cells #[.int .i64 0, .int .i64 0, .int .i64 0, .int .i64 0, .int .i64 0, .int .i64 0, .int .i64 0, .int .i64 0, .int .i64 0, .int .i64 0, .string ⟨#[]⟩, .int .i64 0, .slice none 0 0] 30)) (w.heap.size + 1 + 1 + 1 + 1) ⟨0, 0, 0, 0, 0, 0, 0, 0, 0, 0, ⟨#[]⟩, 0, []⟩ none 0 := by
    have h0 := zero_box ((((w.alloc (.cells (rcs r A c) 30)).alloc (.cells #[.int .i64 x, .int .i64 y] 23)).alloc (.cells #[.int .i64 u, .int .i64 s, .int .i64 k, .int .i64 h, .int .i64 n, .string t] 25)).alloc (.cells #[.int .i64 q, .slice A' xs.length c'] 28)) 
    rw [show ((((w.alloc (.cells (rcs r A c) 30)).alloc (.cells #[.int .i64 x, .int .i64 y] 23)).alloc (.cells #[.int .i64 u, .int .i64 s, .int .i64 k, .int .i64 h, .int .i64 n, .string t] 25)).alloc (.cells #[.int .i64 q, .slice A' xs.length c'] 28)).heap.size = w.heap.size + 1 + 1 + 1 + 1 by simp] at h0
    exact h0
  have B0 : Below w.heap.size w (((((w.alloc (.cells (rcs r A c) 30)).alloc (.cells #[.int .i64 x, .int .i64 y] 23)).alloc (.cells #[.int .i64 u, .int .i64 s, .int .i64 k, .int .i64 h, .int .i64 n, .string t] 25)).alloc (.cells #[.int .i64 q, .slice A' xs.length c'] 28)).alloc (.cells #[.int .i64 0, .int .i64 0, .int .i64 0, .int .i64 0, .int .i64 0, .int .i64 0, .int .i64 0, .int .i64 0, .int .i64 0, .int .i64 0, .string ⟨#[]⟩, .int .i64 0, .slice none 0 0] 30)) := ((((((Below.refl _ _).alloc (Nat.le_refl _) _).alloc (by first | (simp; done) | (simp; omega)) _).alloc (by first | (simp; done) | (simp; omega)) _).alloc (by first | (simp; done) | (simp; omega)) _).alloc (by first | (simp; done) | (simp; omega)) _)
  rw [hr] at HR
  clear hr
  go_enter Tryd.func20, Tryd.ntmps20
  go_wp2_with fail
  generalize (((((w.alloc (.cells (rcs r A c) 30)).alloc (.cells #[.int .i64 x, .int .i64 y] 23)).alloc (.cells #[.int .i64 u, .int .i64 s, .int .i64 k, .int .i64 h, .int .i64 n, .string t] 25)).alloc (.cells #[.int .i64 q, .slice A' xs.length c'] 28)).alloc (.cells #[.int .i64 0, .int .i64 0, .int .i64 0, .int .i64 0, .int .i64 0, .int .i64 0, .int .i64 0, .int .i64 0, .int .i64 0, .int .i64 0, .string ⟨#[]⟩, .int .i64 0, .slice none 0 0] 30)) = W0 at *
  refine (HR _).out.mono ?_
  rintro e w1 ⟨rfl, b1⟩
  have B1 := B0.trans (b1.mono B0.size)
  have Z1 := Z0.on b1 Z0.lt
  obtain ⟨p0, p1, p2, p3, p4, p5, p6, p7, p8, p9, p10, p11, p12⟩ := (X0.on b1 X0.lt).rb
  obtain ⟨q0, q1⟩ := Y0.on b1 Y0.lt
  obtain ⟨d0, d1, d2, d3, d4, d5⟩ := C0.on b1 C0.lt
  obtain ⟨g0, g1⟩ := V0.on b1 V0.lt
  clear HR X0 Y0 C0 V0 Z0 B0 b1
  have zlt8 := Z1.lt
  have Z9 := Z1.put r A c
  have hq9 : w.heap.size ≤ w.heap.size + 1 + 1 + 1 + 1 := by omega
  have B9 := below_put B1 (B := w.heap.size + 1 + 1 + 1 + 1) hq9 r A c
  have fz := Z1.free
  obtain ⟨z0, z1, z2, z3, z4, z5, z6, z7, z8, z9, z10, z11, z12⟩ := id Z1.rb
  have fin := Lib.hid (And.intro Z9.rb B9)
  clear Z9 B9 Z1 zlt8 hq9
  go_wp2
  exact bodyPost_ret (run_res_rAccept (B := w.heap.size + 1 + 1 + 1 + 1) rfl rfl fin.out.1) rfl ⟨A, c, rfl, (fun _ _ g _ => g), fin.out.2⟩

set_option maxHeartbeats 2000000 in
theorem racc_same (r : Rd) (A A' : Option Addr) (c c' : Nat) (x y u s k h n : Int) (t : ByteArray) (q : Int) (xs : List Int) (w : World) (hr : rf r 0 x y = false) (h2 : (r.st == 2) = true) (he : ((r.vn == x) && (r.vb == y)) = true) : Calls Tryd.prog 20 #[rv r A c, bv x y, cv u s k h n t, av q A' xs.length c'] w (DidPost w A r.xs A' xs r true) := by
  have HR : ∀ W, Hid (Calls Tryd.prog 38 #[rv r A c, bv x y] W (BoolPost W (rf r 0 x y))) := fun W => rlate_any r A c x y W
  have X0 : Rx (((((w.alloc (.cells (rcs r A c) 30)).alloc (.cells #[.int .i64 x, .int .i64 y] 23)).alloc (.cells #[.int .i64 u, .int .i64 s, .int .i64 k, .int .i64 h, .int .i64 n, .string t] 25)).alloc (.cells #[.int .i64 q, .slice A' xs.length c'] 28)).alloc (.cells #[.int .i64 0, .int .i64 0, .int .i64 0, .int .i64 0, .int .i64 0, .int .i64 0, .int .i64 0, .int .i64 0, .int .i64 0, .int .i64 0, .string ⟨#[]⟩, .int .i64 0, .slice none 0 0] 30)) (w.heap.size) r A c := by
    have h0 := rx_new w r A c
    exact ((((h0.old _).old _).old _).old _)
  have Y0 : Ba.Bb (((((w.alloc (.cells (rcs r A c) 30)).alloc (.cells #[.int .i64 x, .int .i64 y] 23)).alloc (.cells #[.int .i64 u, .int .i64 s, .int .i64 k, .int .i64 h, .int .i64 n, .string t] 25)).alloc (.cells #[.int .i64 q, .slice A' xs.length c'] 28)).alloc (.cells #[.int .i64 0, .int .i64 0, .int .i64 0, .int .i64 0, .int .i64 0, .int .i64 0, .int .i64 0, .int .i64 0, .int .i64 0, .int .i64 0, .string ⟨#[]⟩, .int .i64 0, .slice none 0 0] 30)) (w.heap.size + 1) x y := by
    have h0 := Ba.bx_new (w.alloc (.cells (rcs r A c) 30)) x y
    have h0 := Ba.Bx.bb h0
    rw [show (w.alloc (.cells (rcs r A c) 30)).heap.size = w.heap.size + 1 by simp] at h0
    exact (((h0.old _).old _).old _)
  have C0 : Cb (((((w.alloc (.cells (rcs r A c) 30)).alloc (.cells #[.int .i64 x, .int .i64 y] 23)).alloc (.cells #[.int .i64 u, .int .i64 s, .int .i64 k, .int .i64 h, .int .i64 n, .string t] 25)).alloc (.cells #[.int .i64 q, .slice A' xs.length c'] 28)).alloc (.cells #[.int .i64 0, .int .i64 0, .int .i64 0, .int .i64 0, .int .i64 0, .int .i64 0, .int .i64 0, .int .i64 0, .int .i64 0, .int .i64 0, .string ⟨#[]⟩, .int .i64 0, .slice none 0 0] 30)) (w.heap.size + 1 + 1) u s k h n t := by
    have h0 := cb_new ((w.alloc (.cells (rcs r A c) 30)).alloc (.cells #[.int .i64 x, .int .i64 y] 23)) u s k h n t
    rw [show ((w.alloc (.cells (rcs r A c) 30)).alloc (.cells #[.int .i64 x, .int .i64 y] 23)).heap.size = w.heap.size + 1 + 1 by simp] at h0
    exact ((h0.old _).old _)
  have V0 : Ab (((((w.alloc (.cells (rcs r A c) 30)).alloc (.cells #[.int .i64 x, .int .i64 y] 23)).alloc (.cells #[.int .i64 u, .int .i64 s, .int .i64 k, .int .i64 h, .int .i64 n, .string t] 25)).alloc (.cells #[.int .i64 q, .slice A' xs.length c'] 28)).alloc (.cells #[.int .i64 0, .int .i64 0, .int .i64 0, .int .i64 0, .int .i64 0, .int .i64 0, .int .i64 0, .int .i64 0, .int .i64 0, .int .i64 0, .string ⟨#[]⟩, .int .i64 0, .slice none 0 0] 30)) (w.heap.size + 1 + 1 + 1) q A' xs.length c' := by
    have h0 := ab_new (((w.alloc (.cells (rcs r A c) 30)).alloc (.cells #[.int .i64 x, .int .i64 y] 23)).alloc (.cells #[.int .i64 u, .int .i64 s, .int .i64 k, .int .i64 h, .int .i64 n, .string t] 25)) q A' xs.length c'
    rw [show (((w.alloc (.cells (rcs r A c) 30)).alloc (.cells #[.int .i64 x, .int .i64 y] 23)).alloc (.cells #[.int .i64 u, .int .i64 s, .int .i64 k, .int .i64 h, .int .i64 n, .string t] 25)).heap.size = w.heap.size + 1 + 1 + 1 by simp] at h0
    exact (h0.old _)
  have Z0 : Rx (((((w.alloc (.cells (rcs r A c) 30)).alloc (.cells #[.int .i64 x, .int .i64 y] 23)).alloc (.cells #[.int .i64 u, .int .i64 s, .int .i64 k, .int .i64 h, .int .i64 n, .string t] 25)).alloc (.cells #[.int .i64 q, .slice A' xs.length c'] 28)).alloc (.cells #[.int .i64 0, .int .i64 0, .int .i64 0, .int .i64 0, .int .i64 0, .int .i64 0, .int .i64 0, .int .i64 0, .int .i64 0, .int .i64 0, .string ⟨#[]⟩, .int .i64 0, .slice none 0 0] 30)) (w.heap.size + 1 + 1 + 1 + 1) ⟨0, 0, 0, 0, 0, 0, 0, 0, 0, 0, ⟨#[]⟩, 0, []⟩ none 0 := by
    have h0 := zero_box ((((w.alloc (.cells (rcs r A c) 30)).alloc (.cells #[.int .i64 x, .int .i64 y] 23)).alloc (.cells #[.int .i64 u, .int .i64 s, .int .i64 k, .int .i64 h, .int .i64 n, .string t] 25)).alloc (.cells #[.int .i64 q, .slice A' xs.length c'] 28)) 
    rw [show ((((w.alloc (.cells (rcs r A c) 30)).alloc (.cells #[.int .i64 x, .int .i64 y] 23)).alloc (.cells #[.int .i64 u, .int .i64 s, .int .i64 k, .int .i64 h, .int .i64 n, .string t] 25)).alloc (.cells #[.int .i64 q, .slice A' xs.length c'] 28)).heap.size = w.heap.size + 1 + 1 + 1 + 1 by simp] at h0
    exact h0
  have B0 : Below w.heap.size w (((((w.alloc (.cells (rcs r A c) 30)).alloc (.cells #[.int .i64 x, .int .i64 y] 23)).alloc (.cells #[.int .i64 u, .int .i64 s, .int .i64 k, .int .i64 h, .int .i64 n, .string t] 25)).alloc (.cells #[.int .i64 q, .slice A' xs.length c'] 28)).alloc (.cells #[.int .i64 0, .int .i64 0, .int .i64 0, .int .i64 0, .int .i64 0, .int .i64 0, .int .i64 0, .int .i64 0, .int .i64 0, .int .i64 0, .string ⟨#[]⟩, .int .i64 0, .slice none 0 0] 30)) := ((((((Below.refl _ _).alloc (Nat.le_refl _) _).alloc (by first | (simp; done) | (simp; omega)) _).alloc (by first | (simp; done) | (simp; omega)) _).alloc (by first | (simp; done) | (simp; omega)) _).alloc (by first | (simp; done) | (simp; omega)) _)
  rw [hr] at HR
  clear hr
  go_enter Tryd.func20, Tryd.ntmps20
  go_wp2_with fail
  generalize (((((w.alloc (.cells (rcs r A c) 30)).alloc (.cells #[.int .i64 x, .int .i64 y] 23)).alloc (.cells #[.int .i64 u, .int .i64 s, .int .i64 k, .int .i64 h, .int .i64 n, .string t] 25)).alloc (.cells #[.int .i64 q, .slice A' xs.length c'] 28)).alloc (.cells #[.int .i64 0, .int .i64 0, .int .i64 0, .int .i64 0, .int .i64 0, .int .i64 0, .int .i64 0, .int .i64 0, .int .i64 0, .int .i64 0, .string ⟨#[]⟩, .int .i64 0, .slice none 0 0] 30)) = W0 at *
  refine (HR _).out.mono ?_
  rintro e w1 ⟨rfl, b1⟩
  have B1 := B0.trans (b1.mono B0.size)
  have Z1 := Z0.on b1 Z0.lt
  obtain ⟨p0, p1, p2, p3, p4, p5, p6, p7, p8, p9, p10, p11, p12⟩ := (X0.on b1 X0.lt).rb
  obtain ⟨q0, q1⟩ := Y0.on b1 Y0.lt
  obtain ⟨d0, d1, d2, d3, d4, d5⟩ := C0.on b1 C0.lt
  obtain ⟨g0, g1⟩ := V0.on b1 V0.lt
  clear HR X0 Y0 C0 V0 Z0 B0 b1
  have zlt8 := Z1.lt
  have Z9 := Z1.put r A c
  have hq9 : w.heap.size ≤ w.heap.size + 1 + 1 + 1 + 1 := by omega
  have B9 := below_put B1 (B := w.heap.size + 1 + 1 + 1 + 1) hq9 r A c
  have fz := Z1.free
  obtain ⟨z0, z1, z2, z3, z4, z5, z6, z7, z8, z9, z10, z11, z12⟩ := id Z1.rb
  have fin := Lib.hid (And.intro Z9.rb B9)
  clear Z9 B9 Z1 zlt8 hq9
  go_wp2
  exact bodyPost_ret (run_res_rAccept (B := w.heap.size + 1 + 1 + 1 + 1) rfl rfl fin.out.1) rfl ⟨A, c, rfl, (fun _ _ g _ => g), fin.out.2⟩

set_option maxHeartbeats 2000000 in
theorem racc_n1 (r : Rd) (A A' : Option Addr) (c c' : Nat) (x y u s k h n : Int) (t : ByteArray) (q : Int) (xs : List Int) (w : World) (hr : rf r 0 x y = false) (h2 : (r.st == 2) = true) (he : ((r.vn == x) && (r.vb == y)) = false) : Calls Tryd.prog 20 #[rv r A c, bv x y, cv u s k h n t, av q A' xs.length c'] w (DidPost w A r.xs A' xs ⟨2, x, y, x, y, u, s, k, h, n, t, q, xs⟩ true) := by
  have HR : ∀ W, Hid (Calls Tryd.prog 38 #[rv r A c, bv x y] W (BoolPost W (rf r 0 x y))) := fun W => rlate_any r A c x y W
  have X0 : Rx (((((w.alloc (.cells (rcs r A c) 30)).alloc (.cells #[.int .i64 x, .int .i64 y] 23)).alloc (.cells #[.int .i64 u, .int .i64 s, .int .i64 k, .int .i64 h, .int .i64 n, .string t] 25)).alloc (.cells #[.int .i64 q, .slice A' xs.length c'] 28)).alloc (.cells #[.int .i64 0, .int .i64 0, .int .i64 0, .int .i64 0, .int .i64 0, .int .i64 0, .int .i64 0, .int .i64 0, .int .i64 0, .int .i64 0, .string ⟨#[]⟩, .int .i64 0, .slice none 0 0] 30)) (w.heap.size) r A c := by
    have h0 := rx_new w r A c
    exact ((((h0.old _).old _).old _).old _)
  have Y0 : Ba.Bb (((((w.alloc (.cells (rcs r A c) 30)).alloc (.cells #[.int .i64 x, .int .i64 y] 23)).alloc (.cells #[.int .i64 u, .int .i64 s, .int .i64 k, .int .i64 h, .int .i64 n, .string t] 25)).alloc (.cells #[.int .i64 q, .slice A' xs.length c'] 28)).alloc (.cells #[.int .i64 0, .int .i64 0, .int .i64 0, .int .i64 0, .int .i64 0, .int .i64 0, .int .i64 0, .int .i64 0, .int .i64 0, .int .i64 0, .string ⟨#[]⟩, .int .i64 0, .slice none 0 0] 30)) (w.heap.size + 1) x y := by
    have h0 := Ba.bx_new (w.alloc (.cells (rcs r A c) 30)) x y
    have h0 := Ba.Bx.bb h0
    rw [show (w.alloc (.cells (rcs r A c) 30)).heap.size = w.heap.size + 1 by simp] at h0
    exact (((h0.old _).old _).old _)
  have C0 : Cb (((((w.alloc (.cells (rcs r A c) 30)).alloc (.cells #[.int .i64 x, .int .i64 y] 23)).alloc (.cells #[.int .i64 u, .int .i64 s, .int .i64 k, .int .i64 h, .int .i64 n, .string t] 25)).alloc (.cells #[.int .i64 q, .slice A' xs.length c'] 28)).alloc (.cells #[.int .i64 0, .int .i64 0, .int .i64 0, .int .i64 0, .int .i64 0, .int .i64 0, .int .i64 0, .int .i64 0, .int .i64 0, .int .i64 0, .string ⟨#[]⟩, .int .i64 0, .slice none 0 0] 30)) (w.heap.size + 1 + 1) u s k h n t := by
    have h0 := cb_new ((w.alloc (.cells (rcs r A c) 30)).alloc (.cells #[.int .i64 x, .int .i64 y] 23)) u s k h n t
    rw [show ((w.alloc (.cells (rcs r A c) 30)).alloc (.cells #[.int .i64 x, .int .i64 y] 23)).heap.size = w.heap.size + 1 + 1 by simp] at h0
    exact ((h0.old _).old _)
  have V0 : Ab (((((w.alloc (.cells (rcs r A c) 30)).alloc (.cells #[.int .i64 x, .int .i64 y] 23)).alloc (.cells #[.int .i64 u, .int .i64 s, .int .i64 k, .int .i64 h, .int .i64 n, .string t] 25)).alloc (.cells #[.int .i64 q, .slice A' xs.length c'] 28)).alloc (.cells #[.int .i64 0, .int .i64 0, .int .i64 0, .int .i64 0, .int .i64 0, .int .i64 0, .int .i64 0, .int .i64 0, .int .i64 0, .int .i64 0, .string ⟨#[]⟩, .int .i64 0, .slice none 0 0] 30)) (w.heap.size + 1 + 1 + 1) q A' xs.length c' := by
    have h0 := ab_new (((w.alloc (.cells (rcs r A c) 30)).alloc (.cells #[.int .i64 x, .int .i64 y] 23)).alloc (.cells #[.int .i64 u, .int .i64 s, .int .i64 k, .int .i64 h, .int .i64 n, .string t] 25)) q A' xs.length c'
    rw [show (((w.alloc (.cells (rcs r A c) 30)).alloc (.cells #[.int .i64 x, .int .i64 y] 23)).alloc (.cells #[.int .i64 u, .int .i64 s, .int .i64 k, .int .i64 h, .int .i64 n, .string t] 25)).heap.size = w.heap.size + 1 + 1 + 1 by simp] at h0
    exact (h0.old _)
  have Z0 : Rx (((((w.alloc (.cells (rcs r A c) 30)).alloc (.cells #[.int .i64 x, .int .i64 y] 23)).alloc (.cells #[.int .i64 u, .int .i64 s, .int .i64 k, .int .i64 h, .int .i64 n, .string t] 25)).alloc (.cells #[.int .i64 q, .slice A' xs.length c'] 28)).alloc (.cells #[.int .i64 0, .int .i64 0, .int .i64 0, .int .i64 0, .int .i64 0, .int .i64 0, .int .i64 0, .int .i64 0, .int .i64 0, .int .i64 0, .string ⟨#[]⟩, .int .i64 0, .slice none 0 0] 30)) (w.heap.size + 1 + 1 + 1 + 1) ⟨0, 0, 0, 0, 0, 0, 0, 0, 0, 0, ⟨#[]⟩, 0, []⟩ none 0 := by
    have h0 := zero_box ((((w.alloc (.cells (rcs r A c) 30)).alloc (.cells #[.int .i64 x, .int .i64 y] 23)).alloc (.cells #[.int .i64 u, .int .i64 s, .int .i64 k, .int .i64 h, .int .i64 n, .string t] 25)).alloc (.cells #[.int .i64 q, .slice A' xs.length c'] 28)) 
    rw [show ((((w.alloc (.cells (rcs r A c) 30)).alloc (.cells #[.int .i64 x, .int .i64 y] 23)).alloc (.cells #[.int .i64 u, .int .i64 s, .int .i64 k, .int .i64 h, .int .i64 n, .string t] 25)).alloc (.cells #[.int .i64 q, .slice A' xs.length c'] 28)).heap.size = w.heap.size + 1 + 1 + 1 + 1 by simp] at h0
    exact h0
  have B0 : Below w.heap.size w (((((w.alloc (.cells (rcs r A c) 30)).alloc (.cells #[.int .i64 x, .int .i64 y] 23)).alloc (.cells #[.int .i64 u, .int .i64 s, .int .i64 k, .int .i64 h, .int .i64 n, .string t] 25)).alloc (.cells #[.int .i64 q, .slice A' xs.length c'] 28)).alloc (.cells #[.int .i64 0, .int .i64 0, .int .i64 0, .int .i64 0, .int .i64 0, .int .i64 0, .int .i64 0, .int .i64 0, .int .i64 0, .int .i64 0, .string ⟨#[]⟩, .int .i64 0, .slice none 0 0] 30)) := ((((((Below.refl _ _).alloc (Nat.le_refl _) _).alloc (by first | (simp; done) | (simp; omega)) _).alloc (by first | (simp; done) | (simp; omega)) _).alloc (by first | (simp; done) | (simp; omega)) _).alloc (by first | (simp; done) | (simp; omega)) _)
  rw [hr] at HR
  clear hr
  go_enter Tryd.func20, Tryd.ntmps20
  go_wp2_with fail
  generalize (((((w.alloc (.cells (rcs r A c) 30)).alloc (.cells #[.int .i64 x, .int .i64 y] 23)).alloc (.cells #[.int .i64 u, .int .i64 s, .int .i64 k, .int .i64 h, .int .i64 n, .string t] 25)).alloc (.cells #[.int .i64 q, .slice A' xs.length c'] 28)).alloc (.cells #[.int .i64 0, .int .i64 0, .int .i64 0, .int .i64 0, .int .i64 0, .int .i64 0, .int .i64 0, .int .i64 0, .int .i64 0, .int .i64 0, .string ⟨#[]⟩, .int .i64 0, .slice none 0 0] 30)) = W0 at *
  refine (HR _).out.mono ?_
  rintro e w1 ⟨rfl, b1⟩
  have B1 := B0.trans (b1.mono B0.size)
  have Z1 := Z0.on b1 Z0.lt
  obtain ⟨p0, p1, p2, p3, p4, p5, p6, p7, p8, p9, p10, p11, p12⟩ := (X0.on b1 X0.lt).rb
  obtain ⟨q0, q1⟩ := Y0.on b1 Y0.lt
  obtain ⟨d0, d1, d2, d3, d4, d5⟩ := C0.on b1 C0.lt
  obtain ⟨g0, g1⟩ := V0.on b1 V0.lt
  clear HR X0 Y0 C0 V0 Z0 B0 b1
  have zlt8 := Z1.lt
  have Z9 := Z1.put ⟨2, x, y, x, y, u, s, k, h, n, t, q, xs⟩ A' c'
  have hq9 : w.heap.size ≤ w.heap.size + 1 + 1 + 1 + 1 := by omega
  have B9 := below_put B1 (B := w.heap.size + 1 + 1 + 1 + 1) hq9 ⟨2, x, y, x, y, u, s, k, h, n, t, q, xs⟩ A' c'
  have fz := Z1.free
  obtain ⟨z0, z1, z2, z3, z4, z5, z6, z7, z8, z9, z10, z11, z12⟩ := id Z1.rb
  have fin := Lib.hid (And.intro Z9.rb B9)
  clear Z9 B9 Z1 zlt8 hq9
  go_wp2
  exact bodyPost_ret (run_res_rAccept (B := w.heap.size + 1 + 1 + 1 + 1) rfl rfl fin.out.1) rfl ⟨A', c', rfl, (fun _ _ _ g => g), fin.out.2⟩

set_option maxHeartbeats 2000000 in
theorem racc_n2 (r : Rd) (A A' : Option Addr) (c c' : Nat) (x y u s k h n : Int) (t : ByteArray) (q : Int) (xs : List Int) (w : World) (hr : rf r 0 x y = false) (h2 : (r.st == 2) = false) : Calls Tryd.prog 20 #[rv r A c, bv x y, cv u s k h n t, av q A' xs.length c'] w (DidPost w A r.xs A' xs ⟨2, x, y, x, y, u, s, k, h, n, t, q, xs⟩ true) := by
  have HR : ∀ W, Hid (Calls Tryd.prog 38 #[rv r A c, bv x y] W (BoolPost W (rf r 0 x y))) := fun W => rlate_any r A c x y W
  have X0 : Rx (((((w.alloc (.cells (rcs r A c) 30)).alloc (.cells #[.int .i64 x, .int .i64 y] 23)).alloc (.cells #[.int .i64 u, .int .i64 s, .int .i64 k, .int .i64 h, .int .i64 n, .string t] 25)).alloc (.cells #[.int .i64 q, .slice A' xs.length c'] 28)).alloc (.cells #[.int .i64 0, .int .i64 0, .int .i64 0, .int .i64 0, .int .i64 0, .int .i64 0, .int .i64 0, .int .i64 0, .int .i64 0, .int .i64 0, .string ⟨#[]⟩, .int .i64 0, .slice none 0 0] 30)) (w.heap.size) r A c := by
    have h0 := rx_new w r A c
    exact ((((h0.old _).old _).old _).old _)
  have Y0 : Ba.Bb (((((w.alloc (.cells (rcs r A c) 30)).alloc (.cells #[.int .i64 x, .int .i64 y] 23)).alloc (.cells #[.int .i64 u, .int .i64 s, .int .i64 k, .int .i64 h, .int .i64 n, .string t] 25)).alloc (.cells #[.int .i64 q, .slice A' xs.length c'] 28)).alloc (.cells #[.int .i64 0, .int .i64 0, .int .i64 0, .int .i64 0, .int .i64 0, .int .i64 0, .int .i64 0, .int .i64 0, .int .i64 0, .int .i64 0, .string ⟨#[]⟩, .int .i64 0, .slice none 0 0] 30)) (w.heap.size + 1) x y := by
    have h0 := Ba.bx_new (w.alloc (.cells (rcs r A c) 30)) x y
    have h0 := Ba.Bx.bb h0
    rw [show (w.alloc (.cells (rcs r A c) 30)).heap.size = w.heap.size + 1 by simp] at h0
    exact (((h0.old _).old _).old _)
  have C0 : Cb (((((w.alloc (.cells (rcs r A c) 30)).alloc (.cells #[.int .i64 x, .int .i64 y] 23)).alloc (.cells #[.int .i64 u, .int .i64 s, .int .i64 k, .int .i64 h, .int .i64 n, .string t] 25)).alloc (.cells #[.int .i64 q, .slice A' xs.length c'] 28)).alloc (.cells #[.int .i64 0, .int .i64 0, .int .i64 0, .int .i64 0, .int .i64 0, .int .i64 0, .int .i64 0, .int .i64 0, .int .i64 0, .int .i64 0, .string ⟨#[]⟩, .int .i64 0, .slice none 0 0] 30)) (w.heap.size + 1 + 1) u s k h n t := by
    have h0 := cb_new ((w.alloc (.cells (rcs r A c) 30)).alloc (.cells #[.int .i64 x, .int .i64 y] 23)) u s k h n t
    rw [show ((w.alloc (.cells (rcs r A c) 30)).alloc (.cells #[.int .i64 x, .int .i64 y] 23)).heap.size = w.heap.size + 1 + 1 by simp] at h0
    exact ((h0.old _).old _)
  have V0 : Ab (((((w.alloc (.cells (rcs r A c) 30)).alloc (.cells #[.int .i64 x, .int .i64 y] 23)).alloc (.cells #[.int .i64 u, .int .i64 s, .int .i64 k, .int .i64 h, .int .i64 n, .string t] 25)).alloc (.cells #[.int .i64 q, .slice A' xs.length c'] 28)).alloc (.cells #[.int .i64 0, .int .i64 0, .int .i64 0, .int .i64 0, .int .i64 0, .int .i64 0, .int .i64 0, .int .i64 0, .int .i64 0, .int .i64 0, .string ⟨#[]⟩, .int .i64 0, .slice none 0 0] 30)) (w.heap.size + 1 + 1 + 1) q A' xs.length c' := by
    have h0 := ab_new (((w.alloc (.cells (rcs r A c) 30)).alloc (.cells #[.int .i64 x, .int .i64 y] 23)).alloc (.cells #[.int .i64 u, .int .i64 s, .int .i64 k, .int .i64 h, .int .i64 n, .string t] 25)) q A' xs.length c'
    rw [show (((w.alloc (.cells (rcs r A c) 30)).alloc (.cells #[.int .i64 x, .int .i64 y] 23)).alloc (.cells #[.int .i64 u, .int .i64 s, .int .i64 k, .int .i64 h, .int .i64 n, .string t] 25)).heap.size = w.heap.size + 1 + 1 + 1 by simp] at h0
    exact (h0.old _)
  have Z0 : Rx (((((w.alloc (.cells (rcs r A c) 30)).alloc (.cells #[.int .i64 x, .int .i64 y] 23)).alloc (.cells #[.int .i64 u, .int .i64 s, .int .i64 k, .int .i64 h, .int .i64 n, .string t] 25)).alloc (.cells #[.int .i64 q, .slice A' xs.length c'] 28)).alloc (.cells #[.int .i64 0, .int .i64 0, .int .i64 0, .int .i64 0, .int .i64 0, .int .i64 0, .int .i64 0, .int .i64 0, .int .i64 0, .int .i64 0, .string ⟨#[]⟩, .int .i64 0, .slice none 0 0] 30)) (w.heap.size + 1 + 1 + 1 + 1) ⟨0, 0, 0, 0, 0, 0, 0, 0, 0, 0, ⟨#[]⟩, 0, []⟩ none 0 := by
    have h0 := zero_box ((((w.alloc (.cells (rcs r A c) 30)).alloc (.cells #[.int .i64 x, .int .i64 y] 23)).alloc (.cells #[.int .i64 u, .int .i64 s, .int .i64 k, .int .i64 h, .int .i64 n, .string t] 25)).alloc (.cells #[.int .i64 q, .slice A' xs.length c'] 28)) 
    rw [show ((((w.alloc (.cells (rcs r A c) 30)).alloc (.cells #[.int .i64 x, .int .i64 y] 23)).alloc (.cells #[.int .i64 u, .int .i64 s, .int .i64 k, .int .i64 h, .int .i64 n, .string t] 25)).alloc (.cells #[.int .i64 q, .slice A' xs.length c'] 28)).heap.size = w.heap.size + 1 + 1 + 1 + 1 by simp] at h0
    exact h0
  have B0 : Below w.heap.size w (((((w.alloc (.cells (rcs r A c) 30)).alloc (.cells #[.int .i64 x, .int .i64 y] 23)).alloc (.cells #[.int .i64 u, .int .i64 s, .int .i64 k, .int .i64 h, .int .i64 n, .string t] 25)).alloc (.cells #[.int .i64 q, .slice A' xs.length c'] 28)).alloc (.cells #[.int .i64 0, .int .i64 0, .int .i64 0, .int .i64 0, .int .i64 0, .int .i64 0, .int .i64 0, .int .i64 0, .int .i64 0, .int .i64 0, .string ⟨#[]⟩, .int .i64 0, .slice none 0 0] 30)) := ((((((Below.refl _ _).alloc (Nat.le_refl _) _).alloc (by first | (simp; done) | (simp; omega)) _).alloc (by first | (simp; done) | (simp; omega)) _).alloc (by first | (simp; done) | (simp; omega)) _).alloc (by first | (simp; done) | (simp; omega)) _)
  rw [hr] at HR
  clear hr
  go_enter Tryd.func20, Tryd.ntmps20
  go_wp2_with fail
  generalize (((((w.alloc (.cells (rcs r A c) 30)).alloc (.cells #[.int .i64 x, .int .i64 y] 23)).alloc (.cells #[.int .i64 u, .int .i64 s, .int .i64 k, .int .i64 h, .int .i64 n, .string t] 25)).alloc (.cells #[.int .i64 q, .slice A' xs.length c'] 28)).alloc (.cells #[.int .i64 0, .int .i64 0, .int .i64 0, .int .i64 0, .int .i64 0, .int .i64 0, .int .i64 0, .int .i64 0, .int .i64 0, .int .i64 0, .string ⟨#[]⟩, .int .i64 0, .slice none 0 0] 30)) = W0 at *
  refine (HR _).out.mono ?_
  rintro e w1 ⟨rfl, b1⟩
  have B1 := B0.trans (b1.mono B0.size)
  have Z1 := Z0.on b1 Z0.lt
  obtain ⟨p0, p1, p2, p3, p4, p5, p6, p7, p8, p9, p10, p11, p12⟩ := (X0.on b1 X0.lt).rb
  obtain ⟨q0, q1⟩ := Y0.on b1 Y0.lt
  obtain ⟨d0, d1, d2, d3, d4, d5⟩ := C0.on b1 C0.lt
  obtain ⟨g0, g1⟩ := V0.on b1 V0.lt
  clear HR X0 Y0 C0 V0 Z0 B0 b1
  have zlt8 := Z1.lt
  have Z9 := Z1.put ⟨2, x, y, x, y, u, s, k, h, n, t, q, xs⟩ A' c'
  have hq9 : w.heap.size ≤ w.heap.size + 1 + 1 + 1 + 1 := by omega
  have B9 := below_put B1 (B := w.heap.size + 1 + 1 + 1 + 1) hq9 ⟨2, x, y, x, y, u, s, k, h, n, t, q, xs⟩ A' c'
  have fz := Z1.free
  obtain ⟨z0, z1, z2, z3, z4, z5, z6, z7, z8, z9, z10, z11, z12⟩ := id Z1.rb
  have fin := Lib.hid (And.intro Z9.rb B9)
  clear Z9 B9 Z1 zlt8 hq9
  go_wp2
  exact bodyPost_ret (run_res_rAccept (B := w.heap.size + 1 + 1 + 1 + 1) rfl rfl fin.out.1) rfl ⟨A', c', rfl, (fun _ _ _ g => g), fin.out.2⟩

theorem rf_one (r : Rd) (x y : Int) : rf r 1 x y = (rf r 0 x y || ((r.st == 2) && ((r.vn == x) && (r.vb == y)))) := by
  unfold rf
  cases gd x y <;> cases (r.st == 3) <;> cases decide (Ba.cm x y r.pn r.pb < 0) <;> cases (r.st == 2) <;> simp
theorem rf_two (r : Rd) (x y : Int) : rf r 2 x y = rf r 0 x y := by
  unfold rf
  simp
theorem rpreaccept_any (r : Rd) (A A' : Option Addr) (c c' : Nat) (x y u s k h n : Int) (t : ByteArray) (q : Int) (xs : List Int) (w : World) : Calls Tryd.prog 19 #[rv r A c, bv x y, cv u s k h n t, av q A' xs.length c'] w (DidPost w A r.xs A' xs (vt r 1 x y u s k h n t q xs) (!rf r 1 x y)) := by
  rw [vt, vs, rf_one]
  rcases hr : rf r 0 x y with _ | _
  · rcases h2 : (r.st == 2) with _ | _
    · rcases h1 : (r.st == 1) with _ | _
      · exact rpre_n3 r A A' c c' x y u s k h n t q xs w hr h2 h1
      · rcases he : ((r.vn == x) && (r.vb == y)) with _ | _
        · exact rpre_n2 r A A' c c' x y u s k h n t q xs w hr h2 h1 he
        · exact rpre_same r A A' c c' x y u s k h n t q xs w hr h2 h1 he
    · have h1 : (r.st == 1) = false := by
        have : r.st = 2 := by simpa using h2
        rw [this]; rfl
      rw [h1]
      rcases he : ((r.vn == x) && (r.vb == y)) with _ | _
      · exact rpre_n1 r A A' c c' x y u s k h n t q xs w hr h2 he h1
      · exact rpre_acc r A A' c c' x y u s k h n t q xs w hr h2 he
  · have e : (((r.st == 1) && ((r.vn == x) && (r.vb == y))) || (true || ((r.st == 2) && ((r.vn == x) && (r.vb == y))))) = true := by simp
    rw [e]
    exact rpre_late r A A' c c' x y u s k h n t q xs w hr
theorem raccept_any (r : Rd) (A A' : Option Addr) (c c' : Nat) (x y u s k h n : Int) (t : ByteArray) (q : Int) (xs : List Int) (w : World) : Calls Tryd.prog 20 #[rv r A c, bv x y, cv u s k h n t, av q A' xs.length c'] w (DidPost w A r.xs A' xs (vt r 2 x y u s k h n t q xs) (!rf r 2 x y)) := by
  rw [vt, vs, rf_two]
  rcases hr : rf r 0 x y with _ | _
  · rcases h2 : (r.st == 2) with _ | _
    · exact racc_n2 r A A' c c' x y u s k h n t q xs w hr h2
    · rcases he : ((r.vn == x) && (r.vb == y)) with _ | _
      · exact racc_n1 r A A' c c' x y u s k h n t q xs w hr h2 he
      · exact racc_same r A A' c c' x y u s k h n t q xs w hr h2 he
  · have e : (((r.st == 2) && ((r.vn == x) && (r.vb == y))) || true) = true := by simp
    rw [e]
    exact racc_late r A A' c c' x y u s k h n t q xs w hr

set_option maxHeartbeats 2000000 in
theorem rcom_stay (r : Rd) (A A' : Option Addr) (c c' : Nat) (u s k h n : Int) (t : ByteArray) (q : Int) (xs : List Int) (w : World) (h3 : (r.st == 3) = true) : Calls Tryd.prog 21 #[rv r A c, cv u s k h n t, av q A' xs.length c'] w (DidOne w A r.xs A' xs r) := by
  have X0 : Rx ((((w.alloc (.cells (rcs r A c) 30)).alloc (.cells #[.int .i64 u, .int .i64 s, .int .i64 k, .int .i64 h, .int .i64 n, .string t] 25)).alloc (.cells #[.int .i64 q, .slice A' xs.length c'] 28)).alloc (.cells (rcs r A c) 30)) (w.heap.size) r A c := by
    have h0 := rx_new w r A c
    exact (((h0.old _).old _).old _)
  have C0 : Cb ((((w.alloc (.cells (rcs r A c) 30)).alloc (.cells #[.int .i64 u, .int .i64 s, .int .i64 k, .int .i64 h, .int .i64 n, .string t] 25)).alloc (.cells #[.int .i64 q, .slice A' xs.length c'] 28)).alloc (.cells (rcs r A c) 30)) (w.heap.size + 1) u s k h n t := by
    have h0 := cb_new (w.alloc (.cells (rcs r A c) 30)) u s k h n t
    rw [show (w.alloc (.cells (rcs r A c) 30)).heap.size = w.heap.size + 1 by simp] at h0
    exact ((h0.old _).old _)
  have V0 : Ab ((((w.alloc (.cells (rcs r A c) 30)).alloc (.cells #[.int .i64 u, .int .i64 s, .int .i64 k, .int .i64 h, .int .i64 n, .string t] 25)).alloc (.cells #[.int .i64 q, .slice A' xs.length c'] 28)).alloc (.cells (rcs r A c) 30)) (w.heap.size + 1 + 1) q A' xs.length c' := by
    have h0 := ab_new ((w.alloc (.cells (rcs r A c) 30)).alloc (.cells #[.int .i64 u, .int .i64 s, .int .i64 k, .int .i64 h, .int .i64 n, .string t] 25)) q A' xs.length c'
    rw [show ((w.alloc (.cells (rcs r A c) 30)).alloc (.cells #[.int .i64 u, .int .i64 s, .int .i64 k, .int .i64 h, .int .i64 n, .string t] 25)).heap.size = w.heap.size + 1 + 1 by simp] at h0
    exact (h0.old _)
  have Z0 : Rx ((((w.alloc (.cells (rcs r A c) 30)).alloc (.cells #[.int .i64 u, .int .i64 s, .int .i64 k, .int .i64 h, .int .i64 n, .string t] 25)).alloc (.cells #[.int .i64 q, .slice A' xs.length c'] 28)).alloc (.cells (rcs r A c) 30)) (w.heap.size + 1 + 1 + 1) r A c := by
    have h0 := rx_new (((w.alloc (.cells (rcs r A c) 30)).alloc (.cells #[.int .i64 u, .int .i64 s, .int .i64 k, .int .i64 h, .int .i64 n, .string t] 25)).alloc (.cells #[.int .i64 q, .slice A' xs.length c'] 28)) r A c
    rw [show (((w.alloc (.cells (rcs r A c) 30)).alloc (.cells #[.int .i64 u, .int .i64 s, .int .i64 k, .int .i64 h, .int .i64 n, .string t] 25)).alloc (.cells #[.int .i64 q, .slice A' xs.length c'] 28)).heap.size = w.heap.size + 1 + 1 + 1 by simp] at h0
    exact h0
  have B0 : Below w.heap.size w ((((w.alloc (.cells (rcs r A c) 30)).alloc (.cells #[.int .i64 u, .int .i64 s, .int .i64 k, .int .i64 h, .int .i64 n, .string t] 25)).alloc (.cells #[.int .i64 q, .slice A' xs.length c'] 28)).alloc (.cells (rcs r A c) 30)) := (((((Below.refl _ _).alloc (Nat.le_refl _) _).alloc (by first | (simp; done) | (simp; omega)) _).alloc (by first | (simp; done) | (simp; omega)) _).alloc (by first | (simp; done) | (simp; omega)) _)
  have fin := Lib.hid (And.intro Z0.rb B0)
  clear X0 C0 V0 Z0 B0
  go_enter Tryd.func21, Tryd.ntmps21
  go_wp2
  exact bodyPost_ret (run_res_rCommit (B := w.heap.size + 1 + 1 + 1) rfl fin.out.1) rfl ⟨A, c, rfl, (fun _ _ g _ => g), fin.out.2⟩

set_option maxHeartbeats 2000000 in
theorem rcom_go (r : Rd) (A A' : Option Addr) (c c' : Nat) (u s k h n : Int) (t : ByteArray) (q : Int) (xs : List Int) (w : World) (h3 : (r.st == 3) = false) : Calls Tryd.prog 21 #[rv r A c, cv u s k h n t, av q A' xs.length c'] w (DidOne w A r.xs A' xs ⟨3, r.pn, r.pb, r.vn, r.vb, u, s, k, h, n, t, q, xs⟩) := by
  have X0 : Rx ((((w.alloc (.cells (rcs r A c) 30)).alloc (.cells #[.int .i64 u, .int .i64 s, .int .i64 k, .int .i64 h, .int .i64 n, .string t] 25)).alloc (.cells #[.int .i64 q, .slice A' xs.length c'] 28)).alloc (.cells (rcs ⟨3, r.pn, r.pb, r.vn, r.vb, u, s, k, h, n, t, q, xs⟩ A' c') 30)) (w.heap.size) r A c := by
    have h0 := rx_new w r A c
    exact (((h0.old _).old _).old _)
  have C0 : Cb ((((w.alloc (.cells (rcs r A c) 30)).alloc (.cells #[.int .i64 u, .int .i64 s, .int .i64 k, .int .i64 h, .int .i64 n, .string t] 25)).alloc (.cells #[.int .i64 q, .slice A' xs.length c'] 28)).alloc (.cells (rcs ⟨3, r.pn, r.pb, r.vn, r.vb, u, s, k, h, n, t, q, xs⟩ A' c') 30)) (w.heap.size + 1) u s k h n t := by
    have h0 := cb_new (w.alloc (.cells (rcs r A c) 30)) u s k h n t
    rw [show (w.alloc (.cells (rcs r A c) 30)).heap.size = w.heap.size + 1 by simp] at h0
    exact ((h0.old _).old _)
  have V0 : Ab ((((w.alloc (.cells (rcs r A c) 30)).alloc (.cells #[.int .i64 u, .int .i64 s, .int .i64 k, .int .i64 h, .int .i64 n, .string t] 25)).alloc (.cells #[.int .i64 q, .slice A' xs.length c'] 28)).alloc (.cells (rcs ⟨3, r.pn, r.pb, r.vn, r.vb, u, s, k, h, n, t, q, xs⟩ A' c') 30)) (w.heap.size + 1 + 1) q A' xs.length c' := by
    have h0 := ab_new ((w.alloc (.cells (rcs r A c) 30)).alloc (.cells #[.int .i64 u, .int .i64 s, .int .i64 k, .int .i64 h, .int .i64 n, .string t] 25)) q A' xs.length c'
    rw [show ((w.alloc (.cells (rcs r A c) 30)).alloc (.cells #[.int .i64 u, .int .i64 s, .int .i64 k, .int .i64 h, .int .i64 n, .string t] 25)).heap.size = w.heap.size + 1 + 1 by simp] at h0
    exact (h0.old _)
  have Z0 : Rx ((((w.alloc (.cells (rcs r A c) 30)).alloc (.cells #[.int .i64 u, .int .i64 s, .int .i64 k, .int .i64 h, .int .i64 n, .string t] 25)).alloc (.cells #[.int .i64 q, .slice A' xs.length c'] 28)).alloc (.cells (rcs ⟨3, r.pn, r.pb, r.vn, r.vb, u, s, k, h, n, t, q, xs⟩ A' c') 30)) (w.heap.size + 1 + 1 + 1) (⟨3, r.pn, r.pb, r.vn, r.vb, u, s, k, h, n, t, q, xs⟩) A' c' := by
    have h0 := rx_new (((w.alloc (.cells (rcs r A c) 30)).alloc (.cells #[.int .i64 u, .int .i64 s, .int .i64 k, .int .i64 h, .int .i64 n, .string t] 25)).alloc (.cells #[.int .i64 q, .slice A' xs.length c'] 28)) (⟨3, r.pn, r.pb, r.vn, r.vb, u, s, k, h, n, t, q, xs⟩) A' c'
    rw [show (((w.alloc (.cells (rcs r A c) 30)).alloc (.cells #[.int .i64 u, .int .i64 s, .int .i64 k, .int .i64 h, .int .i64 n, .string t] 25)).alloc (.cells #[.int .i64 q, .slice A' xs.length c'] 28)).heap.size = w.heap.size + 1 + 1 + 1 by simp] at h0
    exact h0
  have B0 : Below w.heap.size w ((((w.alloc (.cells (rcs r A c) 30)).alloc (.cells #[.int .i64 u, .int .i64 s, .int .i64 k, .int .i64 h, .int .i64 n, .string t] 25)).alloc (.cells #[.int .i64 q, .slice A' xs.length c'] 28)).alloc (.cells (rcs ⟨3, r.pn, r.pb, r.vn, r.vb, u, s, k, h, n, t, q, xs⟩ A' c') 30)) := (((((Below.refl _ _).alloc (Nat.le_refl _) _).alloc (by first | (simp; done) | (simp; omega)) _).alloc (by first | (simp; done) | (simp; omega)) _).alloc (by first | (simp; done) | (simp; omega)) _)
  have fin := Lib.hid (And.intro Z0.rb B0)
  clear X0 C0 V0 Z0 B0
  go_enter Tryd.func21, Tryd.ntmps21
  go_wp2
  exact bodyPost_ret (run_res_rCommit (B := w.heap.size + 1 + 1 + 1) rfl fin.out.1) rfl ⟨A', c', rfl, (fun _ _ _ g => g), fin.out.2⟩

theorem rcommit_any (r : Rd) (A A' : Option Addr) (c c' : Nat) (u s k h n : Int) (t : ByteArray) (q : Int) (xs : List Int) (w : World) : Calls Tryd.prog 21 #[rv r A c, cv u s k h n t, av q A' xs.length c'] w (DidOne w A r.xs A' xs (co r u s k h n t q xs)) := by
  rcases h3 : (r.st == 3) with _ | _
  · rw [co, h3]; exact rcom_go r A A' c c' u s k h n t q xs w h3
  · rw [co, h3]; exact rcom_stay r A A' c c' u s k h n t q xs w h3

end Go.Proofs.YtdeaaeejkpghaaaDoor.In
