/-
  The walks of isGood and refuses: which ballot is good, whether it is too late to promise it or to vote at it. No conditions.
-/
import Derived.Test.YtdeaaeejkpghaaaDoorInOwn
namespace Go.Proofs.YtdeaaeejkpghaaaDoor.In
open Go.RowKit
set_option linter.unusedVariables false
attribute [local go_sem ↓ high] Ba.eq23 Ba.guard23 Ba.neq23 Ba.guard23n eqc guardc

/-- Which ballot is good. -/
def gd (x y : Int) : Bool := Ba.my x y && !((x == 0) && (y == 0))
/-- Whether it is too late to promise a ballot (0), or to vote at it (1, 2). -/
def rf (r : Rd) (st x y : Int) : Bool := !gd x y || (r.st == 3) || decide (Ba.cm x y r.pn r.pb < 0) || ((st == 1) && (r.st == 2) && ((r.vn == x) && (r.vb == y)))

theorem good_any (x y : Int) (w : World) : Calls Tryd.prog 26 #[bv x y] w (BoolPost w (gd x y)) := by
  have HM : ∀ W, Hid (Calls Tryd.prog 23 #[bv x y] W (Ba.BoolPost W (Ba.my x y))) := fun W => Ba.may_any x y W
  have Y0 : Ba.Bb (w.alloc (.cells #[.int .i64 x, .int .i64 y] 23)) (w.heap.size) x y := by
    have h0 := Ba.bx_new w x y
    have h0 := Ba.Bx.bb h0
    exact h0
  have B0 : Below w.heap.size w (w.alloc (.cells #[.int .i64 x, .int .i64 y] 23)) := ((Below.refl _ _).alloc (Nat.le_refl _) _)
  unfold gd
  generalize Ba.my x y = m at *
  go_enter Tryd.func26, Tryd.ntmps26
  go_wp2_with fail
  generalize (w.alloc (.cells #[.int .i64 x, .int .i64 y] 23)) = W0 at *
  refine (HM _).out.mono ?_
  rintro e w1 ⟨rfl, b1⟩
  have B1 := B0.trans (b1.mono B0.size)
  obtain ⟨p0, p1⟩ := Y0.on b1 Y0.lt
  clear HM Y0 B0 b1
  cases m
  · go_wp2
    go_ret
    exact ⟨rfl, B1⟩
  · go_wp2
    go_ret
    exact ⟨by rw [Bool.not_and]; rfl, B1⟩

set_option maxHeartbeats 1000000 in
theorem refuses_bad (r : Rd) (A : Option Addr) (c : Nat) (st x y : Int) (w : World) (hg : gd x y = false) : Calls Tryd.prog 35 #[rv r A c, .int .i64 st, bv x y] w (BoolPost w (true)) := by
  have HG : ∀ W, Hid (Calls Tryd.prog 26 #[bv x y] W (BoolPost W (gd x y))) := fun W => good_any x y W
  have HC : ∀ W, Hid (Calls Tryd.prog 24 #[bv x y, bv r.pn r.pb] W (Ba.IntPost W (Ba.cm x y r.pn r.pb))) := fun W => Ba.cmp_any x y r.pn r.pb W
  have X0 : Rx ((w.alloc (.cells (rcs r A c) 30)).alloc (.cells #[.int .i64 x, .int .i64 y] 23)) (w.heap.size) r A c := by
    have h0 := rx_new w r A c
    exact (h0.old _)
  have Y0 : Ba.Bb ((w.alloc (.cells (rcs r A c) 30)).alloc (.cells #[.int .i64 x, .int .i64 y] 23)) (w.heap.size + 1) x y := by
    have h0 := Ba.bx_new (w.alloc (.cells (rcs r A c) 30)) x y
    have h0 := Ba.Bx.bb h0
    rw [show (w.alloc (.cells (rcs r A c) 30)).heap.size = w.heap.size + 1 by simp] at h0
    exact h0
  have B0 : Below w.heap.size w ((w.alloc (.cells (rcs r A c) 30)).alloc (.cells #[.int .i64 x, .int .i64 y] 23)) := (((Below.refl _ _).alloc (Nat.le_refl _) _).alloc (by first | (simp; done) | (simp; omega)) _)
  rw [hg] at HG
  clear hg
  generalize Ba.cm x y r.pn r.pb = m at *
  go_enter Tryd.func35, Tryd.ntmps35
  go_wp2_with fail
  generalize ((w.alloc (.cells (rcs r A c) 30)).alloc (.cells #[.int .i64 x, .int .i64 y] 23)) = W0 at *
  refine (HG _).out.mono ?_
  rintro e w1 ⟨rfl, b1⟩
  have B1 := B0.trans (b1.mono B0.size)
  have X1 := X0.on b1 X0.lt
  have Y1 := Y0.on b1 Y0.lt
  clear HG X0 Y0 B0 b1
  obtain ⟨p0, p1, p2, p3, p4, p5, p6, p7, p8, p9, p10, p11, p12⟩ := id X1.rb
  obtain ⟨q0, q1⟩ := id Y1
  go_wp2
  go_ret
  exact ⟨rfl, B1⟩

set_option maxHeartbeats 1000000 in
theorem refuses_com (r : Rd) (A : Option Addr) (c : Nat) (st x y : Int) (w : World) (hg : gd x y = true) (h3 : (r.st == 3) = true) : Calls Tryd.prog 35 #[rv r A c, .int .i64 st, bv x y] w (BoolPost w (true)) := by
  have HG : ∀ W, Hid (Calls Tryd.prog 26 #[bv x y] W (BoolPost W (gd x y))) := fun W => good_any x y W
  have HC : ∀ W, Hid (Calls Tryd.prog 24 #[bv x y, bv r.pn r.pb] W (Ba.IntPost W (Ba.cm x y r.pn r.pb))) := fun W => Ba.cmp_any x y r.pn r.pb W
  have X0 : Rx ((w.alloc (.cells (rcs r A c) 30)).alloc (.cells #[.int .i64 x, .int .i64 y] 23)) (w.heap.size) r A c := by
    have h0 := rx_new w r A c
    exact (h0.old _)
  have Y0 : Ba.Bb ((w.alloc (.cells (rcs r A c) 30)).alloc (.cells #[.int .i64 x, .int .i64 y] 23)) (w.heap.size + 1) x y := by
    have h0 := Ba.bx_new (w.alloc (.cells (rcs r A c) 30)) x y
    have h0 := Ba.Bx.bb h0
    rw [show (w.alloc (.cells (rcs r A c) 30)).heap.size = w.heap.size + 1 by simp] at h0
    exact h0
  have B0 : Below w.heap.size w ((w.alloc (.cells (rcs r A c) 30)).alloc (.cells #[.int .i64 x, .int .i64 y] 23)) := (((Below.refl _ _).alloc (Nat.le_refl _) _).alloc (by first | (simp; done) | (simp; omega)) _)
  rw [hg] at HG
  clear hg
  generalize Ba.cm x y r.pn r.pb = m at *
  go_enter Tryd.func35, Tryd.ntmps35
  go_wp2_with fail
  generalize ((w.alloc (.cells (rcs r A c) 30)).alloc (.cells #[.int .i64 x, .int .i64 y] 23)) = W0 at *
  refine (HG _).out.mono ?_
  rintro e w1 ⟨rfl, b1⟩
  have B1 := B0.trans (b1.mono B0.size)
  have X1 := X0.on b1 X0.lt
  have Y1 := Y0.on b1 Y0.lt
  clear HG X0 Y0 B0 b1
  obtain ⟨p0, p1, p2, p3, p4, p5, p6, p7, p8, p9, p10, p11, p12⟩ := id X1.rb
  obtain ⟨q0, q1⟩ := id Y1
  go_wp2
  go_ret
  exact ⟨rfl, B1⟩

set_option maxHeartbeats 1000000 in
theorem refuses_less (r : Rd) (A : Option Addr) (c : Nat) (st x y : Int) (w : World) (hg : gd x y = true) (h3 : (r.st == 3) = false) (hm : Ba.cm x y r.pn r.pb < 0) : Calls Tryd.prog 35 #[rv r A c, .int .i64 st, bv x y] w (BoolPost w (true)) := by
  have HG : ∀ W, Hid (Calls Tryd.prog 26 #[bv x y] W (BoolPost W (gd x y))) := fun W => good_any x y W
  have HC : ∀ W, Hid (Calls Tryd.prog 24 #[bv x y, bv r.pn r.pb] W (Ba.IntPost W (Ba.cm x y r.pn r.pb))) := fun W => Ba.cmp_any x y r.pn r.pb W
  have X0 : Rx ((w.alloc (.cells (rcs r A c) 30)).alloc (.cells #[.int .i64 x, .int .i64 y] 23)) (w.heap.size) r A c := by
    have h0 := rx_new w r A c
    exact (h0.old _)
  have Y0 : Ba.Bb ((w.alloc (.cells (rcs r A c) 30)).alloc (.cells #[.int .i64 x, .int .i64 y] 23)) (w.heap.size + 1) x y := by
    have h0 := Ba.bx_new (w.alloc (.cells (rcs r A c) 30)) x y
    have h0 := Ba.Bx.bb h0
    rw [show (w.alloc (.cells (rcs r A c) 30)).heap.size = w.heap.size + 1 by simp] at h0
    exact h0
  have B0 : Below w.heap.size w ((w.alloc (.cells (rcs r A c) 30)).alloc (.cells #[.int .i64 x, .int .i64 y] 23)) := (((Below.refl _ _).alloc (Nat.le_refl _) _).alloc (by first | (simp; done) | (simp; omega)) _)
  rw [hg] at HG
  clear hg
  generalize Ba.cm x y r.pn r.pb = m at *
  go_enter Tryd.func35, Tryd.ntmps35
  go_wp2_with fail
  generalize ((w.alloc (.cells (rcs r A c) 30)).alloc (.cells #[.int .i64 x, .int .i64 y] 23)) = W0 at *
  refine (HG _).out.mono ?_
  rintro e w1 ⟨rfl, b1⟩
  have B1 := B0.trans (b1.mono B0.size)
  have X1 := X0.on b1 X0.lt
  have Y1 := Y0.on b1 Y0.lt
  clear HG X0 Y0 B0 b1
  obtain ⟨p0, p1, p2, p3, p4, p5, p6, p7, p8, p9, p10, p11, p12⟩ := id X1.rb
  obtain ⟨q0, q1⟩ := id Y1
  go_wp2_with fail
  clear p0 p1 p2 p3 p4 p5 p6 p7 p8 p9 p10 p11 p12 q0 q1
  refine (HC _).out.mono ?_
  rintro e w2 ⟨rfl, b2⟩
  have B2 := B1.trans (b2.mono B1.size)
  obtain ⟨p0, p1, p2, p3, p4, p5, p6, p7, p8, p9, p10, p11, p12⟩ := (X1.on b2 X1.lt).rb
  obtain ⟨q0, q1⟩ := Y1.on b2 Y1.lt
  clear X1 Y1 b2 HC
  go_wp2
  go_ret
  exact ⟨rfl, B2⟩

set_option maxHeartbeats 1000000 in
theorem refuses_no (r : Rd) (A : Option Addr) (c : Nat) (st x y : Int) (w : World) (hg : gd x y = true) (h3 : (r.st == 3) = false) (hm : ¬ Ba.cm x y r.pn r.pb < 0) (h1 : (st == 1) = false) : Calls Tryd.prog 35 #[rv r A c, .int .i64 st, bv x y] w (BoolPost w (false)) := by
  have HG : ∀ W, Hid (Calls Tryd.prog 26 #[bv x y] W (BoolPost W (gd x y))) := fun W => good_any x y W
  have HC : ∀ W, Hid (Calls Tryd.prog 24 #[bv x y, bv r.pn r.pb] W (Ba.IntPost W (Ba.cm x y r.pn r.pb))) := fun W => Ba.cmp_any x y r.pn r.pb W
  have X0 : Rx ((w.alloc (.cells (rcs r A c) 30)).alloc (.cells #[.int .i64 x, .int .i64 y] 23)) (w.heap.size) r A c := by
    have h0 := rx_new w r A c
    exact (h0.old _)
  have Y0 : Ba.Bb ((w.alloc (.cells (rcs r A c) 30)).alloc (.cells #[.int .i64 x, .int .i64 y] 23)) (w.heap.size + 1) x y := by
    have h0 := Ba.bx_new (w.alloc (.cells (rcs r A c) 30)) x y
    have h0 := Ba.Bx.bb h0
    rw [show (w.alloc (.cells (rcs r A c) 30)).heap.size = w.heap.size + 1 by simp] at h0
    exact h0
  have B0 : Below w.heap.size w ((w.alloc (.cells (rcs r A c) 30)).alloc (.cells #[.int .i64 x, .int .i64 y] 23)) := (((Below.refl _ _).alloc (Nat.le_refl _) _).alloc (by first | (simp; done) | (simp; omega)) _)
  rw [hg] at HG
  clear hg
  generalize Ba.cm x y r.pn r.pb = m at *
  go_enter Tryd.func35, Tryd.ntmps35
  go_wp2_with fail
  generalize ((w.alloc (.cells (rcs r A c) 30)).alloc (.cells #[.int .i64 x, .int .i64 y] 23)) = W0 at *
  refine (HG _).out.mono ?_
  rintro e w1 ⟨rfl, b1⟩
  have B1 := B0.trans (b1.mono B0.size)
  have X1 := X0.on b1 X0.lt
  have Y1 := Y0.on b1 Y0.lt
  clear HG X0 Y0 B0 b1
  obtain ⟨p0, p1, p2, p3, p4, p5, p6, p7, p8, p9, p10, p11, p12⟩ := id X1.rb
  obtain ⟨q0, q1⟩ := id Y1
  go_wp2_with fail
  clear p0 p1 p2 p3 p4 p5 p6 p7 p8 p9 p10 p11 p12 q0 q1
  refine (HC _).out.mono ?_
  rintro e w2 ⟨rfl, b2⟩
  have B2 := B1.trans (b2.mono B1.size)
  obtain ⟨p0, p1, p2, p3, p4, p5, p6, p7, p8, p9, p10, p11, p12⟩ := (X1.on b2 X1.lt).rb
  obtain ⟨q0, q1⟩ := Y1.on b2 Y1.lt
  clear X1 Y1 b2 HC
  go_wp2
  go_ret
  exact ⟨rfl, B2⟩

set_option maxHeartbeats 1000000 in
theorem refuses_no2 (r : Rd) (A : Option Addr) (c : Nat) (st x y : Int) (w : World) (hg : gd x y = true) (h3 : (r.st == 3) = false) (hm : ¬ Ba.cm x y r.pn r.pb < 0) (h1 : (st == 1) = true) (h2 : (r.st == 2) = false) : Calls Tryd.prog 35 #[rv r A c, .int .i64 st, bv x y] w (BoolPost w (false)) := by
  have HG : ∀ W, Hid (Calls Tryd.prog 26 #[bv x y] W (BoolPost W (gd x y))) := fun W => good_any x y W
  have HC : ∀ W, Hid (Calls Tryd.prog 24 #[bv x y, bv r.pn r.pb] W (Ba.IntPost W (Ba.cm x y r.pn r.pb))) := fun W => Ba.cmp_any x y r.pn r.pb W
  have X0 : Rx ((w.alloc (.cells (rcs r A c) 30)).alloc (.cells #[.int .i64 x, .int .i64 y] 23)) (w.heap.size) r A c := by
    have h0 := rx_new w r A c
    exact (h0.old _)
  have Y0 : Ba.Bb ((w.alloc (.cells (rcs r A c) 30)).alloc (.cells #[.int .i64 x, .int .i64 y] 23)) (w.heap.size + 1) x y := by
    have h0 := Ba.bx_new (w.alloc (.cells (rcs r A c) 30)) x y
    have h0 := Ba.Bx.bb h0
    rw [show (w.alloc (.cells (rcs r A c) 30)).heap.size = w.heap.size + 1 by simp] at h0
    exact h0
  have B0 : Below w.heap.size w ((w.alloc (.cells (rcs r A c) 30)).alloc (.cells #[.int .i64 x, .int .i64 y] 23)) := (((Below.refl _ _).alloc (Nat.le_refl _) _).alloc (by first | (simp; done) | (simp; omega)) _)
  rw [hg] at HG
  clear hg
  generalize Ba.cm x y r.pn r.pb = m at *
  go_enter Tryd.func35, Tryd.ntmps35
  go_wp2_with fail
  generalize ((w.alloc (.cells (rcs r A c) 30)).alloc (.cells #[.int .i64 x, .int .i64 y] 23)) = W0 at *
  refine (HG _).out.mono ?_
  rintro e w1 ⟨rfl, b1⟩
  have B1 := B0.trans (b1.mono B0.size)
  have X1 := X0.on b1 X0.lt
  have Y1 := Y0.on b1 Y0.lt
  clear HG X0 Y0 B0 b1
  obtain ⟨p0, p1, p2, p3, p4, p5, p6, p7, p8, p9, p10, p11, p12⟩ := id X1.rb
  obtain ⟨q0, q1⟩ := id Y1
  go_wp2_with fail
  clear p0 p1 p2 p3 p4 p5 p6 p7 p8 p9 p10 p11 p12 q0 q1
  refine (HC _).out.mono ?_
  rintro e w2 ⟨rfl, b2⟩
  have B2 := B1.trans (b2.mono B1.size)
  obtain ⟨p0, p1, p2, p3, p4, p5, p6, p7, p8, p9, p10, p11, p12⟩ := (X1.on b2 X1.lt).rb
  obtain ⟨q0, q1⟩ := Y1.on b2 Y1.lt
  clear X1 Y1 b2 HC
  go_wp2
  go_ret
  exact ⟨rfl, B2⟩

set_option maxHeartbeats 1000000 in
theorem refuses_last (r : Rd) (A : Option Addr) (c : Nat) (st x y : Int) (w : World) (hg : gd x y = true) (h3 : (r.st == 3) = false) (hm : ¬ Ba.cm x y r.pn r.pb < 0) (h1 : (st == 1) = true) (h2 : (r.st == 2) = true) : Calls Tryd.prog 35 #[rv r A c, .int .i64 st, bv x y] w (BoolPost w ((r.vn == x) && (r.vb == y))) := by
  have HG : ∀ W, Hid (Calls Tryd.prog 26 #[bv x y] W (BoolPost W (gd x y))) := fun W => good_any x y W
  have HC : ∀ W, Hid (Calls Tryd.prog 24 #[bv x y, bv r.pn r.pb] W (Ba.IntPost W (Ba.cm x y r.pn r.pb))) := fun W => Ba.cmp_any x y r.pn r.pb W
  have X0 : Rx ((w.alloc (.cells (rcs r A c) 30)).alloc (.cells #[.int .i64 x, .int .i64 y] 23)) (w.heap.size) r A c := by
    have h0 := rx_new w r A c
    exact (h0.old _)
  have Y0 : Ba.Bb ((w.alloc (.cells (rcs r A c) 30)).alloc (.cells #[.int .i64 x, .int .i64 y] 23)) (w.heap.size + 1) x y := by
    have h0 := Ba.bx_new (w.alloc (.cells (rcs r A c) 30)) x y
    have h0 := Ba.Bx.bb h0
    rw [show (w.alloc (.cells (rcs r A c) 30)).heap.size = w.heap.size + 1 by simp] at h0
    exact h0
  have B0 : Below w.heap.size w ((w.alloc (.cells (rcs r A c) 30)).alloc (.cells #[.int .i64 x, .int .i64 y] 23)) := (((Below.refl _ _).alloc (Nat.le_refl _) _).alloc (by first | (simp; done) | (simp; omega)) _)
  rw [hg] at HG
  clear hg
  generalize Ba.cm x y r.pn r.pb = m at *
  go_enter Tryd.func35, Tryd.ntmps35
  go_wp2_with fail
  generalize ((w.alloc (.cells (rcs r A c) 30)).alloc (.cells #[.int .i64 x, .int .i64 y] 23)) = W0 at *
  refine (HG _).out.mono ?_
  rintro e w1 ⟨rfl, b1⟩
  have B1 := B0.trans (b1.mono B0.size)
  have X1 := X0.on b1 X0.lt
  have Y1 := Y0.on b1 Y0.lt
  clear HG X0 Y0 B0 b1
  obtain ⟨p0, p1, p2, p3, p4, p5, p6, p7, p8, p9, p10, p11, p12⟩ := id X1.rb
  obtain ⟨q0, q1⟩ := id Y1
  go_wp2_with fail
  clear p0 p1 p2 p3 p4 p5 p6 p7 p8 p9 p10 p11 p12 q0 q1
  refine (HC _).out.mono ?_
  rintro e w2 ⟨rfl, b2⟩
  have B2 := B1.trans (b2.mono B1.size)
  obtain ⟨p0, p1, p2, p3, p4, p5, p6, p7, p8, p9, p10, p11, p12⟩ := (X1.on b2 X1.lt).rb
  obtain ⟨q0, q1⟩ := Y1.on b2 Y1.lt
  clear X1 Y1 b2 HC
  go_wp2
  go_ret
  exact ⟨rfl, B2⟩

theorem refuses_any (r : Rd) (A : Option Addr) (c : Nat) (st x y : Int) (w : World) : Calls Tryd.prog 35 #[rv r A c, .int .i64 st, bv x y] w (BoolPost w (rf r st x y)) := by
  rcases hg : gd x y with _ | _
  · have e : rf r st x y = true := by simp [rf, hg]
    rw [e]; exact refuses_bad r A c st x y w hg
  · rcases h3 : (r.st == 3) with _ | _
    · by_cases hm : Ba.cm x y r.pn r.pb < 0
      · have e : rf r st x y = true := by simp [rf, hm]
        rw [e]; exact refuses_less r A c st x y w hg h3 hm
      · rcases h1 : (st == 1) with _ | _
        · have e : rf r st x y = false := by rw [rf, hg, h3, decide_eq_false hm, h1]; rfl
          rw [e]; exact refuses_no r A c st x y w hg h3 hm h1
        · rcases h2 : (r.st == 2) with _ | _
          · have e : rf r st x y = false := by rw [rf, hg, h3, decide_eq_false hm, h1, h2]; rfl
            rw [e]; exact refuses_no2 r A c st x y w hg h3 hm h1 h2
          · have e : rf r st x y = ((r.vn == x) && (r.vb == y)) := by rw [rf, hg, h3, decide_eq_false hm, h1, h2]; rfl
            rw [e]; exact refuses_last r A c st x y w hg h3 hm h1 h2
    · have e : rf r st x y = true := by rw [rf, h3]; simp
      rw [e]; exact refuses_com r A c st x y w hg h3

end Go.Proofs.YtdeaaeejkpghaaaDoor.In
