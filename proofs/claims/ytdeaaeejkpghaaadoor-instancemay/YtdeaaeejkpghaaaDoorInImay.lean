/-
  The walks of isWithoutVote and May: which records may be; the document's good and May. No conditions.
-/
import Derived.Test.YtdeaaeejkpghaaaDoorInMath
import Derived.Test.YtdeaaeejkpghaaaDoorMay
import Derived.Test.YtdeaaeejkpghaaaDoorRmay
import Derived.Test.YtdeaaeejkpghaaaDoorAtSmall
namespace Go.Proofs.YtdeaaeejkpghaaaDoor.In
open Go.RowKit
set_option linter.unusedVariables false
attribute [local go_sem ↓ high] Ba.eq23 Ba.guard23 Ba.neq23 Ba.guard23n eqc guardc

/-- A record without any vote. -/
def wz (r : Rd) : Bool := (r.u == 0) && (r.s == 0) && (r.k == 0) && (r.h == 0) && (r.n == 0) && decide (r.t = ⟨#[]⟩)
def wv (r : Rd) : Bool := ((r.vn == 0) && (r.vb == 0)) && wz r && (r.q == 0) && ((r.xs.length : Int) == 0)
/-- A command that may be. -/
abbrev cM (r : Rd) : Bool := mayB r.u r.s r.k r.h r.n r.t.size
/-- What may be known, among so many. -/
def ym (r : Rd) (n : Int) : Bool := Ba.my r.pn r.pb && Ba.my r.vn r.vb && !decide (0 < Ba.cm r.vn r.vb r.pn r.pb) &&
  (if (r.st == 0) = true then wv r else if (r.st == 1) = true then gd r.vn r.vb && (cM r && At.my r.q r.xs n) else if (r.st == 2) = true then gd r.vn r.vb && (cM r && At.my r.q r.xs n) else if (r.st == 3) = true then cM r && At.my r.q r.xs n else false)

theorem without_1 (r : Rd) (A : Option Addr) (c : Nat) (w : World) (hv : ((r.vn == 0) && (r.vb == 0)) = false) : Calls Tryd.prog 25 #[rv r A c] w (BoolPost w false) := by
  have X0 : Rx (w.alloc (.cells (rcs r A c) 30)) (w.heap.size) r A c := by
    have h0 := rx_new w r A c
    exact h0
  have B0 : Below w.heap.size w (w.alloc (.cells (rcs r A c) 30)) := ((Below.refl _ _).alloc (Nat.le_refl _) _)
  obtain ⟨p0, p1, p2, p3, p4, p5, p6, p7, p8, p9, p10, p11, p12⟩ := id X0.rb
  clear X0
  go_enter Tryd.func25, Tryd.ntmps25
  go_wp2
  go_ret
  exact ⟨rfl, B0⟩

theorem without_2 (r : Rd) (A : Option Addr) (c : Nat) (w : World) (hv : ((r.vn == 0) && (r.vb == 0)) = true) (hz : ((r.u == 0) && (r.s == 0) && (r.k == 0) && (r.h == 0) && (r.n == 0) && decide (r.t = ⟨#[]⟩)) = false) : Calls Tryd.prog 25 #[rv r A c] w (BoolPost w false) := by
  have X0 : Rx (w.alloc (.cells (rcs r A c) 30)) (w.heap.size) r A c := by
    have h0 := rx_new w r A c
    exact h0
  have B0 : Below w.heap.size w (w.alloc (.cells (rcs r A c) 30)) := ((Below.refl _ _).alloc (Nat.le_refl _) _)
  obtain ⟨p0, p1, p2, p3, p4, p5, p6, p7, p8, p9, p10, p11, p12⟩ := id X0.rb
  clear X0
  go_enter Tryd.func25, Tryd.ntmps25
  go_wp2
  go_ret
  exact ⟨rfl, B0⟩

theorem without_3 (r : Rd) (A : Option Addr) (c : Nat) (w : World) (hv : ((r.vn == 0) && (r.vb == 0)) = true) (hz : ((r.u == 0) && (r.s == 0) && (r.k == 0) && (r.h == 0) && (r.n == 0) && decide (r.t = ⟨#[]⟩)) = true) (hq : (r.q == 0) = false) : Calls Tryd.prog 25 #[rv r A c] w (BoolPost w false) := by
  have X0 : Rx (w.alloc (.cells (rcs r A c) 30)) (w.heap.size) r A c := by
    have h0 := rx_new w r A c
    exact h0
  have B0 : Below w.heap.size w (w.alloc (.cells (rcs r A c) 30)) := ((Below.refl _ _).alloc (Nat.le_refl _) _)
  obtain ⟨p0, p1, p2, p3, p4, p5, p6, p7, p8, p9, p10, p11, p12⟩ := id X0.rb
  clear X0
  go_enter Tryd.func25, Tryd.ntmps25
  go_wp2
  go_ret
  exact ⟨rfl, B0⟩

theorem without_4 (r : Rd) (A : Option Addr) (c : Nat) (w : World) (hv : ((r.vn == 0) && (r.vb == 0)) = true) (hz : ((r.u == 0) && (r.s == 0) && (r.k == 0) && (r.h == 0) && (r.n == 0) && decide (r.t = ⟨#[]⟩)) = true) (hq : (r.q == 0) = true) : Calls Tryd.prog 25 #[rv r A c] w (BoolPost w ((r.xs.length : Int) == 0)) := by
  have X0 : Rx (w.alloc (.cells (rcs r A c) 30)) (w.heap.size) r A c := by
    have h0 := rx_new w r A c
    exact h0
  have B0 : Below w.heap.size w (w.alloc (.cells (rcs r A c) 30)) := ((Below.refl _ _).alloc (Nat.le_refl _) _)
  obtain ⟨p0, p1, p2, p3, p4, p5, p6, p7, p8, p9, p10, p11, p12⟩ := id X0.rb
  clear X0
  go_enter Tryd.func25, Tryd.ntmps25
  go_wp2
  go_ret
  exact ⟨rfl, B0⟩

theorem without_any (r : Rd) (A : Option Addr) (c : Nat) (w : World) : Calls Tryd.prog 25 #[rv r A c] w (BoolPost w (wv r)) := by
  rcases hv : ((r.vn == 0) && (r.vb == 0)) with _ | _
  · have e : wv r = false := by rw [wv, hv]; rfl
    rw [e]; exact without_1 r A c w hv
  · rcases hz : wz r with _ | _
    · have e : wv r = false := by rw [wv, hv, hz]; rfl
      rw [e]; exact without_2 r A c w hv hz
    · rcases hq : (r.q == 0) with _ | _
      · have e : wv r = false := by rw [wv, hv, hz, hq]; rfl
        rw [e]; exact without_3 r A c w hv hz hq
      · have e : wv r = ((r.xs.length : Int) == 0) := by rw [wv, hv, hz, hq]; rfl
        rw [e]; exact without_4 r A c w hv hz hq

theorem rgood_any (x y : Int) (w : World) : Calls Tryd.prog 33 #[bv x y] w (BoolPost w (gd x y)) := by
  have HM : ∀ W, Hid (Calls Tryd.prog 29 #[bv x y] W (Ba.BoolPost W (Ba.my x y))) := fun W => Ba.rmay_any x y W
  have Y0 : Ba.Bb (w.alloc (.cells #[.int .i64 x, .int .i64 y] 23)) (w.heap.size) x y := by
    have h0 := Ba.bx_new w x y
    have h0 := Ba.Bx.bb h0
    exact h0
  have B0 : Below w.heap.size w (w.alloc (.cells #[.int .i64 x, .int .i64 y] 23)) := ((Below.refl _ _).alloc (Nat.le_refl _) _)
  unfold gd
  generalize Ba.my x y = m at *
  go_enter Tryd.func33, Tryd.ntmps33
  go_wp2_with fail
  generalize (w.alloc (.cells #[.int .i64 x, .int .i64 y] 23)) = W0 at *
  refine (HM _).out.mono ?_
  rintro e w1 ⟨rfl, b1⟩
  have B1 := B0.trans (b1.mono B0.size)
  obtain ⟨p0, p1⟩ := Y0.on b1 Y0.lt
  clear HM Y0 B0 b1
  cases m
  · go_wp2
    go_ret
    exact ⟨rfl, B1⟩
  · go_wp2
    go_ret
    exact ⟨by rw [Bool.not_and]; rfl, B1⟩

set_option maxHeartbeats 1000000 in
theorem may_a (r : Rd) (A : Option Addr) (c : Nat) (n : Int) (w : World) (hN : Nd w) (hs : At.Sl w w.heap.size .i64 A r.xs) (kp : Ba.my r.pn r.pb = false)  : Calls Tryd.prog 11 #[rv r A c, .int .i64 n] w (BoolPost w (false)) := by
  have HP : ∀ W, Hid (Calls Tryd.prog 23 #[bv r.pn r.pb] W (Ba.BoolPost W (Ba.my r.pn r.pb))) := fun W => Ba.may_any r.pn r.pb W
  have HV : ∀ W, Hid (Calls Tryd.prog 23 #[bv r.vn r.vb] W (Ba.BoolPost W (Ba.my r.vn r.vb))) := fun W => Ba.may_any r.vn r.vb W
  have HC : ∀ W, Hid (Calls Tryd.prog 24 #[bv r.vn r.vb, bv r.pn r.pb] W (Ba.IntPost W (Ba.cm r.vn r.vb r.pn r.pb))) := fun W => Ba.cmp_any r.vn r.vb r.pn r.pb W
  have HG : ∀ W, Hid (Calls Tryd.prog 26 #[bv r.vn r.vb] W (BoolPost W (gd r.vn r.vb))) := fun W => good_any r.vn r.vb W
  have HM : ∀ W, Nd W → Hid (Calls Tryd.prog 27 #[cv r.u r.s r.k r.h r.n r.t] W (BoolPost W (cM r))) := fun W g => YtdeaaeejkpghaaaDoor.may_any r.u r.s r.k r.h r.n r.t W g
  have HA : ∀ W, At.Sl W W.heap.size .i64 A r.xs → Hid (Calls Tryd.prog 28 #[av r.q A r.xs.length c, .int .i64 n] W (At.BoolPost W (At.my r.q r.xs n))) := fun W g => At.may_any r.q A c r.xs n W g
  have HW : ∀ W, Hid (Calls Tryd.prog 25 #[rv r A c] W (BoolPost W (wv r))) := fun W => without_any r A c W
  rw [kp] at HP
  clear kp
  generalize Ba.my r.vn r.vb = lv at *
  generalize Ba.cm r.vn r.vb r.pn r.pb = lm at *
  generalize gd r.vn r.vb = lg at *
  generalize At.my r.q r.xs n = la at *
  generalize cM r = lc at *
  generalize wv r = lw at *
  have X0 : Rx (w.alloc (.cells (rcs r A c) 30)) (w.heap.size) r A c := by
    have h0 := rx_new w r A c
    exact h0
  have B0 : Below w.heap.size w (w.alloc (.cells (rcs r A c) 30)) := ((Below.refl _ _).alloc (Nat.le_refl _) _)
  have S0 := hs.to B0 B0.size
  go_enter Tryd.func11, Tryd.ntmps11
  go_wp2_with fail
  generalize (w.alloc (.cells (rcs r A c) 30)) = W0 at *
  have N0 := hN.on B0
  refine (HP _).out.mono ?_
  rintro e w1 ⟨rfl, b1⟩
  have B1 := B0.trans (b1.mono B0.size)
  have X1 := X0.on b1 X0.lt
  have S1 := S0.up b1
  clear B0 X0 S0
  have N1 := N0.on b1
  clear N0
  clear b1
  obtain ⟨x_0, x_1, x_2, x_3, x_4, x_5, x_6, x_7, x_8, x_9, x_10, x_11, x_12⟩ := id X1.rb
  go_wp2
  go_ret
  exact ⟨rfl, B1⟩

set_option maxHeartbeats 1000000 in
theorem may_b (r : Rd) (A : Option Addr) (c : Nat) (n : Int) (w : World) (hN : Nd w) (hs : At.Sl w w.heap.size .i64 A r.xs) (kp : Ba.my r.pn r.pb = true) (kv : Ba.my r.vn r.vb = false)  : Calls Tryd.prog 11 #[rv r A c, .int .i64 n] w (BoolPost w (false)) := by
  have HP : ∀ W, Hid (Calls Tryd.prog 23 #[bv r.pn r.pb] W (Ba.BoolPost W (Ba.my r.pn r.pb))) := fun W => Ba.may_any r.pn r.pb W
  have HV : ∀ W, Hid (Calls Tryd.prog 23 #[bv r.vn r.vb] W (Ba.BoolPost W (Ba.my r.vn r.vb))) := fun W => Ba.may_any r.vn r.vb W
  have HC : ∀ W, Hid (Calls Tryd.prog 24 #[bv r.vn r.vb, bv r.pn r.pb] W (Ba.IntPost W (Ba.cm r.vn r.vb r.pn r.pb))) := fun W => Ba.cmp_any r.vn r.vb r.pn r.pb W
  have HG : ∀ W, Hid (Calls Tryd.prog 26 #[bv r.vn r.vb] W (BoolPost W (gd r.vn r.vb))) := fun W => good_any r.vn r.vb W
  have HM : ∀ W, Nd W → Hid (Calls Tryd.prog 27 #[cv r.u r.s r.k r.h r.n r.t] W (BoolPost W (cM r))) := fun W g => YtdeaaeejkpghaaaDoor.may_any r.u r.s r.k r.h r.n r.t W g
  have HA : ∀ W, At.Sl W W.heap.size .i64 A r.xs → Hid (Calls Tryd.prog 28 #[av r.q A r.xs.length c, .int .i64 n] W (At.BoolPost W (At.my r.q r.xs n))) := fun W g => At.may_any r.q A c r.xs n W g
  have HW : ∀ W, Hid (Calls Tryd.prog 25 #[rv r A c] W (BoolPost W (wv r))) := fun W => without_any r A c W
  rw [kp] at HP
  clear kp
  rw [kv] at HV
  clear kv
  generalize Ba.cm r.vn r.vb r.pn r.pb = lm at *
  generalize gd r.vn r.vb = lg at *
  generalize At.my r.q r.xs n = la at *
  generalize cM r = lc at *
  generalize wv r = lw at *
  have X0 : Rx (w.alloc (.cells (rcs r A c) 30)) (w.heap.size) r A c := by
    have h0 := rx_new w r A c
    exact h0
  have B0 : Below w.heap.size w (w.alloc (.cells (rcs r A c) 30)) := ((Below.refl _ _).alloc (Nat.le_refl _) _)
  have S0 := hs.to B0 B0.size
  go_enter Tryd.func11, Tryd.ntmps11
  go_wp2_with fail
  generalize (w.alloc (.cells (rcs r A c) 30)) = W0 at *
  have N0 := hN.on B0
  refine (HP _).out.mono ?_
  rintro e w1 ⟨rfl, b1⟩
  have B1 := B0.trans (b1.mono B0.size)
  have X1 := X0.on b1 X0.lt
  have S1 := S0.up b1
  clear B0 X0 S0
  have N1 := N0.on b1
  clear N0
  clear b1
  obtain ⟨x_0, x_1, x_2, x_3, x_4, x_5, x_6, x_7, x_8, x_9, x_10, x_11, x_12⟩ := id X1.rb
  go_wp2_with fail
  clear x_0 x_1 x_2 x_3 x_4 x_5 x_6 x_7 x_8 x_9 x_10 x_11 x_12
  refine (HV _).out.mono ?_
  rintro e w2 ⟨rfl, b2⟩
  have B2 := B1.trans (b2.mono B1.size)
  have X2 := X1.on b2 X1.lt
  have S2 := S1.up b2
  clear B1 X1 S1
  have N2 := N1.on b2
  clear N1
  clear b2
  obtain ⟨x_0, x_1, x_2, x_3, x_4, x_5, x_6, x_7, x_8, x_9, x_10, x_11, x_12⟩ := id X2.rb
  go_wp2
  go_ret
  exact ⟨rfl, B2⟩

set_option maxHeartbeats 1000000 in
theorem may_c (r : Rd) (A : Option Addr) (c : Nat) (n : Int) (w : World) (hN : Nd w) (hs : At.Sl w w.heap.size .i64 A r.xs) (kp : Ba.my r.pn r.pb = true) (kv : Ba.my r.vn r.vb = true) (hm : 0 < Ba.cm r.vn r.vb r.pn r.pb) : Calls Tryd.prog 11 #[rv r A c, .int .i64 n] w (BoolPost w (false)) := by
  have HP : ∀ W, Hid (Calls Tryd.prog 23 #[bv r.pn r.pb] W (Ba.BoolPost W (Ba.my r.pn r.pb))) := fun W => Ba.may_any r.pn r.pb W
  have HV : ∀ W, Hid (Calls Tryd.prog 23 #[bv r.vn r.vb] W (Ba.BoolPost W (Ba.my r.vn r.vb))) := fun W => Ba.may_any r.vn r.vb W
  have HC : ∀ W, Hid (Calls Tryd.prog 24 #[bv r.vn r.vb, bv r.pn r.pb] W (Ba.IntPost W (Ba.cm r.vn r.vb r.pn r.pb))) := fun W => Ba.cmp_any r.vn r.vb r.pn r.pb W
  have HG : ∀ W, Hid (Calls Tryd.prog 26 #[bv r.vn r.vb] W (BoolPost W (gd r.vn r.vb))) := fun W => good_any r.vn r.vb W
  have HM : ∀ W, Nd W → Hid (Calls Tryd.prog 27 #[cv r.u r.s r.k r.h r.n r.t] W (BoolPost W (cM r))) := fun W g => YtdeaaeejkpghaaaDoor.may_any r.u r.s r.k r.h r.n r.t W g
  have HA : ∀ W, At.Sl W W.heap.size .i64 A r.xs → Hid (Calls Tryd.prog 28 #[av r.q A r.xs.length c, .int .i64 n] W (At.BoolPost W (At.my r.q r.xs n))) := fun W g => At.may_any r.q A c r.xs n W g
  have HW : ∀ W, Hid (Calls Tryd.prog 25 #[rv r A c] W (BoolPost W (wv r))) := fun W => without_any r A c W
  rw [kp] at HP
  clear kp
  rw [kv] at HV
  clear kv
  generalize Ba.cm r.vn r.vb r.pn r.pb = lm at *
  generalize gd r.vn r.vb = lg at *
  generalize At.my r.q r.xs n = la at *
  generalize cM r = lc at *
  generalize wv r = lw at *
  have X0 : Rx (w.alloc (.cells (rcs r A c) 30)) (w.heap.size) r A c := by
    have h0 := rx_new w r A c
    exact h0
  have B0 : Below w.heap.size w (w.alloc (.cells (rcs r A c) 30)) := ((Below.refl _ _).alloc (Nat.le_refl _) _)
  have S0 := hs.to B0 B0.size
  go_enter Tryd.func11, Tryd.ntmps11
  go_wp2_with fail
  generalize (w.alloc (.cells (rcs r A c) 30)) = W0 at *
  have N0 := hN.on B0
  refine (HP _).out.mono ?_
  rintro e w1 ⟨rfl, b1⟩
  have B1 := B0.trans (b1.mono B0.size)
  have X1 := X0.on b1 X0.lt
  have S1 := S0.up b1
  clear B0 X0 S0
  have N1 := N0.on b1
  clear N0
  clear b1
  obtain ⟨x_0, x_1, x_2, x_3, x_4, x_5, x_6, x_7, x_8, x_9, x_10, x_11, x_12⟩ := id X1.rb
  go_wp2_with fail
  clear x_0 x_1 x_2 x_3 x_4 x_5 x_6 x_7 x_8 x_9 x_10 x_11 x_12
  refine (HV _).out.mono ?_
  rintro e w2 ⟨rfl, b2⟩
  have B2 := B1.trans (b2.mono B1.size)
  have X2 := X1.on b2 X1.lt
  have S2 := S1.up b2
  clear B1 X1 S1
  have N2 := N1.on b2
  clear N1
  clear b2
  obtain ⟨x_0, x_1, x_2, x_3, x_4, x_5, x_6, x_7, x_8, x_9, x_10, x_11, x_12⟩ := id X2.rb
  go_wp2_with fail
  clear x_0 x_1 x_2 x_3 x_4 x_5 x_6 x_7 x_8 x_9 x_10 x_11 x_12
  refine (HC _).out.mono ?_
  rintro e w3 ⟨rfl, b3⟩
  have B3 := B2.trans (b3.mono B2.size)
  have X3 := X2.on b3 X2.lt
  have S3 := S2.up b3
  clear B2 X2 S2
  have N3 := N2.on b3
  clear N2
  clear b3
  obtain ⟨x_0, x_1, x_2, x_3, x_4, x_5, x_6, x_7, x_8, x_9, x_10, x_11, x_12⟩ := id X3.rb
  go_wp2
  go_ret
  exact ⟨rfl, B3⟩

set_option maxHeartbeats 1000000 in
theorem may_0 (r : Rd) (A : Option Addr) (c : Nat) (n : Int) (w : World) (hN : Nd w) (hs : At.Sl w w.heap.size .i64 A r.xs) (kp : Ba.my r.pn r.pb = true) (kv : Ba.my r.vn r.vb = true) (hm : ¬ 0 < Ba.cm r.vn r.vb r.pn r.pb) (z0 : (r.st == 0) = true) : Calls Tryd.prog 11 #[rv r A c, .int .i64 n] w (BoolPost w (wv r)) := by
  have HP : ∀ W, Hid (Calls Tryd.prog 23 #[bv r.pn r.pb] W (Ba.BoolPost W (Ba.my r.pn r.pb))) := fun W => Ba.may_any r.pn r.pb W
  have HV : ∀ W, Hid (Calls Tryd.prog 23 #[bv r.vn r.vb] W (Ba.BoolPost W (Ba.my r.vn r.vb))) := fun W => Ba.may_any r.vn r.vb W
  have HC : ∀ W, Hid (Calls Tryd.prog 24 #[bv r.vn r.vb, bv r.pn r.pb] W (Ba.IntPost W (Ba.cm r.vn r.vb r.pn r.pb))) := fun W => Ba.cmp_any r.vn r.vb r.pn r.pb W
  have HG : ∀ W, Hid (Calls Tryd.prog 26 #[bv r.vn r.vb] W (BoolPost W (gd r.vn r.vb))) := fun W => good_any r.vn r.vb W
  have HM : ∀ W, Nd W → Hid (Calls Tryd.prog 27 #[cv r.u r.s r.k r.h r.n r.t] W (BoolPost W (cM r))) := fun W g => YtdeaaeejkpghaaaDoor.may_any r.u r.s r.k r.h r.n r.t W g
  have HA : ∀ W, At.Sl W W.heap.size .i64 A r.xs → Hid (Calls Tryd.prog 28 #[av r.q A r.xs.length c, .int .i64 n] W (At.BoolPost W (At.my r.q r.xs n))) := fun W g => At.may_any r.q A c r.xs n W g
  have HW : ∀ W, Hid (Calls Tryd.prog 25 #[rv r A c] W (BoolPost W (wv r))) := fun W => without_any r A c W
  rw [kp] at HP
  clear kp
  rw [kv] at HV
  clear kv
  generalize Ba.cm r.vn r.vb r.pn r.pb = lm at *
  generalize gd r.vn r.vb = lg at *
  generalize At.my r.q r.xs n = la at *
  generalize cM r = lc at *
  generalize wv r = lw at *
  have X0 : Rx (w.alloc (.cells (rcs r A c) 30)) (w.heap.size) r A c := by
    have h0 := rx_new w r A c
    exact h0
  have B0 : Below w.heap.size w (w.alloc (.cells (rcs r A c) 30)) := ((Below.refl _ _).alloc (Nat.le_refl _) _)
  have S0 := hs.to B0 B0.size
  go_enter Tryd.func11, Tryd.ntmps11
  go_wp2_with fail
  generalize (w.alloc (.cells (rcs r A c) 30)) = W0 at *
  have N0 := hN.on B0
  refine (HP _).out.mono ?_
  rintro e w1 ⟨rfl, b1⟩
  have B1 := B0.trans (b1.mono B0.size)
  have X1 := X0.on b1 X0.lt
  have S1 := S0.up b1
  clear B0 X0 S0
  have N1 := N0.on b1
  clear N0
  clear b1
  obtain ⟨x_0, x_1, x_2, x_3, x_4, x_5, x_6, x_7, x_8, x_9, x_10, x_11, x_12⟩ := id X1.rb
  go_wp2_with fail
  clear x_0 x_1 x_2 x_3 x_4 x_5 x_6 x_7 x_8 x_9 x_10 x_11 x_12
  refine (HV _).out.mono ?_
  rintro e w2 ⟨rfl, b2⟩
  have B2 := B1.trans (b2.mono B1.size)
  have X2 := X1.on b2 X1.lt
  have S2 := S1.up b2
  clear B1 X1 S1
  have N2 := N1.on b2
  clear N1
  clear b2
  obtain ⟨x_0, x_1, x_2, x_3, x_4, x_5, x_6, x_7, x_8, x_9, x_10, x_11, x_12⟩ := id X2.rb
  go_wp2_with fail
  clear x_0 x_1 x_2 x_3 x_4 x_5 x_6 x_7 x_8 x_9 x_10 x_11 x_12
  refine (HC _).out.mono ?_
  rintro e w3 ⟨rfl, b3⟩
  have B3 := B2.trans (b3.mono B2.size)
  have X3 := X2.on b3 X2.lt
  have S3 := S2.up b3
  clear B2 X2 S2
  have N3 := N2.on b3
  clear N2
  clear b3
  obtain ⟨x_0, x_1, x_2, x_3, x_4, x_5, x_6, x_7, x_8, x_9, x_10, x_11, x_12⟩ := id X3.rb
  go_wp2_with fail
  clear x_0 x_1 x_2 x_3 x_4 x_5 x_6 x_7 x_8 x_9 x_10 x_11 x_12
  refine (HW _).out.mono ?_
  rintro e w4 ⟨rfl, b4⟩
  have B4 := B3.trans (b4.mono B3.size)
  have X4 := X3.on b4 X3.lt
  have S4 := S3.up b4
  clear B3 X3 S3
  have N4 := N3.on b4
  clear N3
  clear b4
  obtain ⟨x_0, x_1, x_2, x_3, x_4, x_5, x_6, x_7, x_8, x_9, x_10, x_11, x_12⟩ := id X4.rb
  go_wp2
  go_ret
  exact ⟨rfl, B4⟩

set_option maxHeartbeats 1000000 in
theorem may_1n (r : Rd) (A : Option Addr) (c : Nat) (n : Int) (w : World) (hN : Nd w) (hs : At.Sl w w.heap.size .i64 A r.xs) (kp : Ba.my r.pn r.pb = true) (kv : Ba.my r.vn r.vb = true) (kg : gd r.vn r.vb = false) (hm : ¬ 0 < Ba.cm r.vn r.vb r.pn r.pb) (z0 : (r.st == 0) = false) (z1 : (r.st == 1) = true) : Calls Tryd.prog 11 #[rv r A c, .int .i64 n] w (BoolPost w (false)) := by
  have HP : ∀ W, Hid (Calls Tryd.prog 23 #[bv r.pn r.pb] W (Ba.BoolPost W (Ba.my r.pn r.pb))) := fun W => Ba.may_any r.pn r.pb W
  have HV : ∀ W, Hid (Calls Tryd.prog 23 #[bv r.vn r.vb] W (Ba.BoolPost W (Ba.my r.vn r.vb))) := fun W => Ba.may_any r.vn r.vb W
  have HC : ∀ W, Hid (Calls Tryd.prog 24 #[bv r.vn r.vb, bv r.pn r.pb] W (Ba.IntPost W (Ba.cm r.vn r.vb r.pn r.pb))) := fun W => Ba.cmp_any r.vn r.vb r.pn r.pb W
  have HG : ∀ W, Hid (Calls Tryd.prog 26 #[bv r.vn r.vb] W (BoolPost W (gd r.vn r.vb))) := fun W => good_any r.vn r.vb W
  have HM : ∀ W, Nd W → Hid (Calls Tryd.prog 27 #[cv r.u r.s r.k r.h r.n r.t] W (BoolPost W (cM r))) := fun W g => YtdeaaeejkpghaaaDoor.may_any r.u r.s r.k r.h r.n r.t W g
  have HA : ∀ W, At.Sl W W.heap.size .i64 A r.xs → Hid (Calls Tryd.prog 28 #[av r.q A r.xs.length c, .int .i64 n] W (At.BoolPost W (At.my r.q r.xs n))) := fun W g => At.may_any r.q A c r.xs n W g
  have HW : ∀ W, Hid (Calls Tryd.prog 25 #[rv r A c] W (BoolPost W (wv r))) := fun W => without_any r A c W
  rw [kp] at HP
  clear kp
  rw [kv] at HV
  clear kv
  rw [kg] at HG
  clear kg
  generalize Ba.cm r.vn r.vb r.pn r.pb = lm at *
  generalize At.my r.q r.xs n = la at *
  generalize cM r = lc at *
  generalize wv r = lw at *
  have X0 : Rx (w.alloc (.cells (rcs r A c) 30)) (w.heap.size) r A c := by
    have h0 := rx_new w r A c
    exact h0
  have B0 : Below w.heap.size w (w.alloc (.cells (rcs r A c) 30)) := ((Below.refl _ _).alloc (Nat.le_refl _) _)
  have S0 := hs.to B0 B0.size
  go_enter Tryd.func11, Tryd.ntmps11
  go_wp2_with fail
  generalize (w.alloc (.cells (rcs r A c) 30)) = W0 at *
  have N0 := hN.on B0
  refine (HP _).out.mono ?_
  rintro e w1 ⟨rfl, b1⟩
  have B1 := B0.trans (b1.mono B0.size)
  have X1 := X0.on b1 X0.lt
  have S1 := S0.up b1
  clear B0 X0 S0
  have N1 := N0.on b1
  clear N0
  clear b1
  obtain ⟨x_0, x_1, x_2, x_3, x_4, x_5, x_6, x_7, x_8, x_9, x_10, x_11, x_12⟩ := id X1.rb
  go_wp2_with fail
  clear x_0 x_1 x_2 x_3 x_4 x_5 x_6 x_7 x_8 x_9 x_10 x_11 x_12
  refine (HV _).out.mono ?_
  rintro e w2 ⟨rfl, b2⟩
  have B2 := B1.trans (b2.mono B1.size)
  have X2 := X1.on b2 X1.lt
  have S2 := S1.up b2
  clear B1 X1 S1
  have N2 := N1.on b2
  clear N1
  clear b2
  obtain ⟨x_0, x_1, x_2, x_3, x_4, x_5, x_6, x_7, x_8, x_9, x_10, x_11, x_12⟩ := id X2.rb
  go_wp2_with fail
  clear x_0 x_1 x_2 x_3 x_4 x_5 x_6 x_7 x_8 x_9 x_10 x_11 x_12
  refine (HC _).out.mono ?_
  rintro e w3 ⟨rfl, b3⟩
  have B3 := B2.trans (b3.mono B2.size)
  have X3 := X2.on b3 X2.lt
  have S3 := S2.up b3
  clear B2 X2 S2
  have N3 := N2.on b3
  clear N2
  clear b3
  obtain ⟨x_0, x_1, x_2, x_3, x_4, x_5, x_6, x_7, x_8, x_9, x_10, x_11, x_12⟩ := id X3.rb
  go_wp2_with fail
  clear x_0 x_1 x_2 x_3 x_4 x_5 x_6 x_7 x_8 x_9 x_10 x_11 x_12
  refine (HG _).out.mono ?_
  rintro e w4 ⟨rfl, b4⟩
  have B4 := B3.trans (b4.mono B3.size)
  have X4 := X3.on b4 X3.lt
  have S4 := S3.up b4
  clear B3 X3 S3
  have N4 := N3.on b4
  clear N3
  clear b4
  obtain ⟨x_0, x_1, x_2, x_3, x_4, x_5, x_6, x_7, x_8, x_9, x_10, x_11, x_12⟩ := id X4.rb
  go_wp2
  go_ret
  exact ⟨rfl, B4⟩

set_option maxHeartbeats 1000000 in
theorem may_1c (r : Rd) (A : Option Addr) (c : Nat) (n : Int) (w : World) (hN : Nd w) (hs : At.Sl w w.heap.size .i64 A r.xs) (kp : Ba.my r.pn r.pb = true) (kv : Ba.my r.vn r.vb = true) (kg : gd r.vn r.vb = true) (kc : cM r = false) (hm : ¬ 0 < Ba.cm r.vn r.vb r.pn r.pb) (z0 : (r.st == 0) = false) (z1 : (r.st == 1) = true) : Calls Tryd.prog 11 #[rv r A c, .int .i64 n] w (BoolPost w (false)) := by
  have HP : ∀ W, Hid (Calls Tryd.prog 23 #[bv r.pn r.pb] W (Ba.BoolPost W (Ba.my r.pn r.pb))) := fun W => Ba.may_any r.pn r.pb W
  have HV : ∀ W, Hid (Calls Tryd.prog 23 #[bv r.vn r.vb] W (Ba.BoolPost W (Ba.my r.vn r.vb))) := fun W => Ba.may_any r.vn r.vb W
  have HC : ∀ W, Hid (Calls Tryd.prog 24 #[bv r.vn r.vb, bv r.pn r.pb] W (Ba.IntPost W (Ba.cm r.vn r.vb r.pn r.pb))) := fun W => Ba.cmp_any r.vn r.vb r.pn r.pb W
  have HG : ∀ W, Hid (Calls Tryd.prog 26 #[bv r.vn r.vb] W (BoolPost W (gd r.vn r.vb))) := fun W => good_any r.vn r.vb W
  have HM : ∀ W, Nd W → Hid (Calls Tryd.prog 27 #[cv r.u r.s r.k r.h r.n r.t] W (BoolPost W (cM r))) := fun W g => YtdeaaeejkpghaaaDoor.may_any r.u r.s r.k r.h r.n r.t W g
  have HA : ∀ W, At.Sl W W.heap.size .i64 A r.xs → Hid (Calls Tryd.prog 28 #[av r.q A r.xs.length c, .int .i64 n] W (At.BoolPost W (At.my r.q r.xs n))) := fun W g => At.may_any r.q A c r.xs n W g
  have HW : ∀ W, Hid (Calls Tryd.prog 25 #[rv r A c] W (BoolPost W (wv r))) := fun W => without_any r A c W
  rw [kp] at HP
  clear kp
  rw [kv] at HV
  clear kv
  rw [kg] at HG
  clear kg
  rw [kc] at HM
  clear kc
  generalize Ba.cm r.vn r.vb r.pn r.pb = lm at *
  generalize At.my r.q r.xs n = la at *
  generalize wv r = lw at *
  have X0 : Rx (w.alloc (.cells (rcs r A c) 30)) (w.heap.size) r A c := by
    have h0 := rx_new w r A c
    exact h0
  have B0 : Below w.heap.size w (w.alloc (.cells (rcs r A c) 30)) := ((Below.refl _ _).alloc (Nat.le_refl _) _)
  have S0 := hs.to B0 B0.size
  go_enter Tryd.func11, Tryd.ntmps11
  go_wp2_with fail
  generalize (w.alloc (.cells (rcs r A c) 30)) = W0 at *
  have N0 := hN.on B0
  refine (HP _).out.mono ?_
  rintro e w1 ⟨rfl, b1⟩
  have B1 := B0.trans (b1.mono B0.size)
  have X1 := X0.on b1 X0.lt
  have S1 := S0.up b1
  clear B0 X0 S0
  have N1 := N0.on b1
  clear N0
  clear b1
  obtain ⟨x_0, x_1, x_2, x_3, x_4, x_5, x_6, x_7, x_8, x_9, x_10, x_11, x_12⟩ := id X1.rb
  go_wp2_with fail
  clear x_0 x_1 x_2 x_3 x_4 x_5 x_6 x_7 x_8 x_9 x_10 x_11 x_12
  refine (HV _).out.mono ?_
  rintro e w2 ⟨rfl, b2⟩
  have B2 := B1.trans (b2.mono B1.size)
  have X2 := X1.on b2 X1.lt
  have S2 := S1.up b2
  clear B1 X1 S1
  have N2 := N1.on b2
  clear N1
  clear b2
  obtain ⟨x_0, x_1, x_2, x_3, x_4, x_5, x_6, x_7, x_8, x_9, x_10, x_11, x_12⟩ := id X2.rb
  go_wp2_with fail
  clear x_0 x_1 x_2 x_3 x_4 x_5 x_6 x_7 x_8 x_9 x_10 x_11 x_12
  refine (HC _).out.mono ?_
  rintro e w3 ⟨rfl, b3⟩
  have B3 := B2.trans (b3.mono B2.size)
  have X3 := X2.on b3 X2.lt
  have S3 := S2.up b3
  clear B2 X2 S2
  have N3 := N2.on b3
  clear N2
  clear b3
  obtain ⟨x_0, x_1, x_2, x_3, x_4, x_5, x_6, x_7, x_8, x_9, x_10, x_11, x_12⟩ := id X3.rb
  go_wp2_with fail
  clear x_0 x_1 x_2 x_3 x_4 x_5 x_6 x_7 x_8 x_9 x_10 x_11 x_12
  refine (HG _).out.mono ?_
  rintro e w4 ⟨rfl, b4⟩
  have B4 := B3.trans (b4.mono B3.size)
  have X4 := X3.on b4 X3.lt
  have S4 := S3.up b4
  clear B3 X3 S3
  have N4 := N3.on b4
  clear N3
  clear b4
  obtain ⟨x_0, x_1, x_2, x_3, x_4, x_5, x_6, x_7, x_8, x_9, x_10, x_11, x_12⟩ := id X4.rb
  go_wp2_with fail
  clear x_0 x_1 x_2 x_3 x_4 x_5 x_6 x_7 x_8 x_9 x_10 x_11 x_12
  refine (HM _ N4).out.mono ?_
  rintro e w5 ⟨rfl, b5⟩
  have B5 := B4.trans (b5.mono B4.size)
  have X5 := X4.on b5 X4.lt
  have S5 := S4.up b5
  clear B4 X4 S4
  have N5 := N4.on b5
  clear N4
  clear b5
  obtain ⟨x_0, x_1, x_2, x_3, x_4, x_5, x_6, x_7, x_8, x_9, x_10, x_11, x_12⟩ := id X5.rb
  go_wp2
  go_ret
  exact ⟨rfl, B5⟩

set_option maxHeartbeats 1000000 in
theorem may_1a (r : Rd) (A : Option Addr) (c : Nat) (n : Int) (w : World) (hN : Nd w) (hs : At.Sl w w.heap.size .i64 A r.xs) (kp : Ba.my r.pn r.pb = true) (kv : Ba.my r.vn r.vb = true) (kg : gd r.vn r.vb = true) (kc : cM r = true) (hm : ¬ 0 < Ba.cm r.vn r.vb r.pn r.pb) (z0 : (r.st == 0) = false) (z1 : (r.st == 1) = true) : Calls Tryd.prog 11 #[rv r A c, .int .i64 n] w (BoolPost w (At.my r.q r.xs n)) := by
  have HP : ∀ W, Hid (Calls Tryd.prog 23 #[bv r.pn r.pb] W (Ba.BoolPost W (Ba.my r.pn r.pb))) := fun W => Ba.may_any r.pn r.pb W
  have HV : ∀ W, Hid (Calls Tryd.prog 23 #[bv r.vn r.vb] W (Ba.BoolPost W (Ba.my r.vn r.vb))) := fun W => Ba.may_any r.vn r.vb W
  have HC : ∀ W, Hid (Calls Tryd.prog 24 #[bv r.vn r.vb, bv r.pn r.pb] W (Ba.IntPost W (Ba.cm r.vn r.vb r.pn r.pb))) := fun W => Ba.cmp_any r.vn r.vb r.pn r.pb W
  have HG : ∀ W, Hid (Calls Tryd.prog 26 #[bv r.vn r.vb] W (BoolPost W (gd r.vn r.vb))) := fun W => good_any r.vn r.vb W
  have HM : ∀ W, Nd W → Hid (Calls Tryd.prog 27 #[cv r.u r.s r.k r.h r.n r.t] W (BoolPost W (cM r))) := fun W g => YtdeaaeejkpghaaaDoor.may_any r.u r.s r.k r.h r.n r.t W g
  have HA : ∀ W, At.Sl W W.heap.size .i64 A r.xs → Hid (Calls Tryd.prog 28 #[av r.q A r.xs.length c, .int .i64 n] W (At.BoolPost W (At.my r.q r.xs n))) := fun W g => At.may_any r.q A c r.xs n W g
  have HW : ∀ W, Hid (Calls Tryd.prog 25 #[rv r A c] W (BoolPost W (wv r))) := fun W => without_any r A c W
  rw [kp] at HP
  clear kp
  rw [kv] at HV
  clear kv
  rw [kg] at HG
  clear kg
  rw [kc] at HM
  clear kc
  generalize Ba.cm r.vn r.vb r.pn r.pb = lm at *
  generalize At.my r.q r.xs n = la at *
  generalize wv r = lw at *
  have X0 : Rx (w.alloc (.cells (rcs r A c) 30)) (w.heap.size) r A c := by
    have h0 := rx_new w r A c
    exact h0
  have B0 : Below w.heap.size w (w.alloc (.cells (rcs r A c) 30)) := ((Below.refl _ _).alloc (Nat.le_refl _) _)
  have S0 := hs.to B0 B0.size
  go_enter Tryd.func11, Tryd.ntmps11
  go_wp2_with fail
  generalize (w.alloc (.cells (rcs r A c) 30)) = W0 at *
  have N0 := hN.on B0
  refine (HP _).out.mono ?_
  rintro e w1 ⟨rfl, b1⟩
  have B1 := B0.trans (b1.mono B0.size)
  have X1 := X0.on b1 X0.lt
  have S1 := S0.up b1
  clear B0 X0 S0
  have N1 := N0.on b1
  clear N0
  clear b1
  obtain ⟨x_0, x_1, x_2, x_3, x_4, x_5, x_6, x_7, x_8, x_9, x_10, x_11, x_12⟩ := id X1.rb
  go_wp2_with fail
  clear x_0 x_1 x_2 x_3 x_4 x_5 x_6 x_7 x_8 x_9 x_10 x_11 x_12
  refine (HV _).out.mono ?_
  rintro e w2 ⟨rfl, b2⟩
  have B2 := B1.trans (b2.mono B1.size)
  have X2 := X1.on b2 X1.lt
  have S2 := S1.up b2
  clear B1 X1 S1
  have N2 := N1.on b2
  clear N1
  clear b2
  obtain ⟨x_0, x_1, x_2, x_3, x_4, x_5, x_6, x_7, x_8, x_9, x_10, x_11, x_12⟩ := id X2.rb
  go_wp2_with fail
  clear x_0 x_1 x_2 x_3 x_4 x_5 x_6 x_7 x_8 x_9 x_10 x_11 x_12
  refine (HC _).out.mono ?_
  rintro e w3 ⟨rfl, b3⟩
  have B3 := B2.trans (b3.mono B2.size)
  have X3 := X2.on b3 X2.lt
  have S3 := S2.up b3
  clear B2 X2 S2
  have N3 := N2.on b3
  clear N2
  clear b3
  obtain ⟨x_0, x_1, x_2, x_3, x_4, x_5, x_6, x_7, x_8, x_9, x_10, x_11, x_12⟩ := id X3.rb
  go_wp2_with fail
  clear x_0 x_1 x_2 x_3 x_4 x_5 x_6 x_7 x_8 x_9 x_10 x_11 x_12
  refine (HG _).out.mono ?_
  rintro e w4 ⟨rfl, b4⟩
  have B4 := B3.trans (b4.mono B3.size)
  have X4 := X3.on b4 X3.lt
  have S4 := S3.up b4
  clear B3 X3 S3
  have N4 := N3.on b4
  clear N3
  clear b4
  obtain ⟨x_0, x_1, x_2, x_3, x_4, x_5, x_6, x_7, x_8, x_9, x_10, x_11, x_12⟩ := id X4.rb
  go_wp2_with fail
  clear x_0 x_1 x_2 x_3 x_4 x_5 x_6 x_7 x_8 x_9 x_10 x_11 x_12
  refine (HM _ N4).out.mono ?_
  rintro e w5 ⟨rfl, b5⟩
  have B5 := B4.trans (b5.mono B4.size)
  have X5 := X4.on b5 X4.lt
  have S5 := S4.up b5
  clear B4 X4 S4
  have N5 := N4.on b5
  clear N4
  clear b5
  obtain ⟨x_0, x_1, x_2, x_3, x_4, x_5, x_6, x_7, x_8, x_9, x_10, x_11, x_12⟩ := id X5.rb
  go_wp2_with fail
  clear x_0 x_1 x_2 x_3 x_4 x_5 x_6 x_7 x_8 x_9 x_10 x_11 x_12
  refine (HA _ S5).out.mono ?_
  rintro e w6 ⟨rfl, b6⟩
  have B6 := B5.trans (b6.mono B5.size)
  have X6 := X5.on b6 X5.lt
  have S6 := S5.up b6
  clear B5 X5 S5
  have N6 := N5.on b6
  clear N5
  clear b6
  obtain ⟨x_0, x_1, x_2, x_3, x_4, x_5, x_6, x_7, x_8, x_9, x_10, x_11, x_12⟩ := id X6.rb
  go_wp2
  go_ret
  exact ⟨rfl, B6⟩

set_option maxHeartbeats 1000000 in
theorem may_2n (r : Rd) (A : Option Addr) (c : Nat) (n : Int) (w : World) (hN : Nd w) (hs : At.Sl w w.heap.size .i64 A r.xs) (kp : Ba.my r.pn r.pb = true) (kv : Ba.my r.vn r.vb = true) (kg : gd r.vn r.vb = false) (hm : ¬ 0 < Ba.cm r.vn r.vb r.pn r.pb) (z0 : (r.st == 0) = false) (z1 : (r.st == 1) = false) (z2 : (r.st == 2) = true) : Calls Tryd.prog 11 #[rv r A c, .int .i64 n] w (BoolPost w (false)) := by
  have HP : ∀ W, Hid (Calls Tryd.prog 23 #[bv r.pn r.pb] W (Ba.BoolPost W (Ba.my r.pn r.pb))) := fun W => Ba.may_any r.pn r.pb W
  have HV : ∀ W, Hid (Calls Tryd.prog 23 #[bv r.vn r.vb] W (Ba.BoolPost W (Ba.my r.vn r.vb))) := fun W => Ba.may_any r.vn r.vb W
  have HC : ∀ W, Hid (Calls Tryd.prog 24 #[bv r.vn r.vb, bv r.pn r.pb] W (Ba.IntPost W (Ba.cm r.vn r.vb r.pn r.pb))) := fun W => Ba.cmp_any r.vn r.vb r.pn r.pb W
  have HG : ∀ W, Hid (Calls Tryd.prog 26 #[bv r.vn r.vb] W (BoolPost W (gd r.vn r.vb))) := fun W => good_any r.vn r.vb W
  have HM : ∀ W, Nd W → Hid (Calls Tryd.prog 27 #[cv r.u r.s r.k r.h r.n r.t] W (BoolPost W (cM r))) := fun W g => YtdeaaeejkpghaaaDoor.may_any r.u r.s r.k r.h r.n r.t W g
  have HA : ∀ W, At.Sl W W.heap.size .i64 A r.xs → Hid (Calls Tryd.prog 28 #[av r.q A r.xs.length c, .int .i64 n] W (At.BoolPost W (At.my r.q r.xs n))) := fun W g => At.may_any r.q A c r.xs n W g
  have HW : ∀ W, Hid (Calls Tryd.prog 25 #[rv r A c] W (BoolPost W (wv r))) := fun W => without_any r A c W
  rw [kp] at HP
  clear kp
  rw [kv] at HV
  clear kv
  rw [kg] at HG
  clear kg
  generalize Ba.cm r.vn r.vb r.pn r.pb = lm at *
  generalize At.my r.q r.xs n = la at *
  generalize cM r = lc at *
  generalize wv r = lw at *
  have X0 : Rx (w.alloc (.cells (rcs r A c) 30)) (w.heap.size) r A c := by
    have h0 := rx_new w r A c
    exact h0
  have B0 : Below w.heap.size w (w.alloc (.cells (rcs r A c) 30)) := ((Below.refl _ _).alloc (Nat.le_refl _) _)
  have S0 := hs.to B0 B0.size
  go_enter Tryd.func11, Tryd.ntmps11
  go_wp2_with fail
  generalize (w.alloc (.cells (rcs r A c) 30)) = W0 at *
  have N0 := hN.on B0
  refine (HP _).out.mono ?_
  rintro e w1 ⟨rfl, b1⟩
  have B1 := B0.trans (b1.mono B0.size)
  have X1 := X0.on b1 X0.lt
  have S1 := S0.up b1
  clear B0 X0 S0
  have N1 := N0.on b1
  clear N0
  clear b1
  obtain ⟨x_0, x_1, x_2, x_3, x_4, x_5, x_6, x_7, x_8, x_9, x_10, x_11, x_12⟩ := id X1.rb
  go_wp2_with fail
  clear x_0 x_1 x_2 x_3 x_4 x_5 x_6 x_7 x_8 x_9 x_10 x_11 x_12
  refine (HV _).out.mono ?_
  rintro e w2 ⟨rfl, b2⟩
  have B2 := B1.trans (b2.mono B1.size)
  have X2 := X1.on b2 X1.lt
  have S2 := S1.up b2
  clear B1 X1 S1
  have N2 := N1.on b2
  clear N1
  clear b2
  obtain ⟨x_0, x_1, x_2, x_3, x_4, x_5, x_6, x_7, x_8, x_9, x_10, x_11, x_12⟩ := id X2.rb
  go_wp2_with fail
  clear x_0 x_1 x_2 x_3 x_4 x_5 x_6 x_7 x_8 x_9 x_10 x_11 x_12
  refine (HC _).out.mono ?_
  rintro e w3 ⟨rfl, b3⟩
  have B3 := B2.trans (b3.mono B2.size)
  have X3 := X2.on b3 X2.lt
  have S3 := S2.up b3
  clear B2 X2 S2
  have N3 := N2.on b3
  clear N2
  clear b3
  obtain ⟨x_0, x_1, x_2, x_3, x_4, x_5, x_6, x_7, x_8, x_9, x_10, x_11, x_12⟩ := id X3.rb
  go_wp2_with fail
  clear x_0 x_1 x_2 x_3 x_4 x_5 x_6 x_7 x_8 x_9 x_10 x_11 x_12
  refine (HG _).out.mono ?_
  rintro e w4 ⟨rfl, b4⟩
  have B4 := B3.trans (b4.mono B3.size)
  have X4 := X3.on b4 X3.lt
  have S4 := S3.up b4
  clear B3 X3 S3
  have N4 := N3.on b4
  clear N3
  clear b4
  obtain ⟨x_0, x_1, x_2, x_3, x_4, x_5, x_6, x_7, x_8, x_9, x_10, x_11, x_12⟩ := id X4.rb
  go_wp2
  go_ret
  exact ⟨rfl, B4⟩

set_option maxHeartbeats 1000000 in
theorem may_2c (r : Rd) (A : Option Addr) (c : Nat) (n : Int) (w : World) (hN : Nd w) (hs : At.Sl w w.heap.size .i64 A r.xs) (kp : Ba.my r.pn r.pb = true) (kv : Ba.my r.vn r.vb = true) (kg : gd r.vn r.vb = true) (kc : cM r = false) (hm : ¬ 0 < Ba.cm r.vn r.vb r.pn r.pb) (z0 : (r.st == 0) = false) (z1 : (r.st == 1) = false) (z2 : (r.st == 2) = true) : Calls Tryd.prog 11 #[rv r A c, .int .i64 n] w (BoolPost w (false)) := by
  have HP : ∀ W, Hid (Calls Tryd.prog 23 #[bv r.pn r.pb] W (Ba.BoolPost W (Ba.my r.pn r.pb))) := fun W => Ba.may_any r.pn r.pb W
  have HV : ∀ W, Hid (Calls Tryd.prog 23 #[bv r.vn r.vb] W (Ba.BoolPost W (Ba.my r.vn r.vb))) := fun W => Ba.may_any r.vn r.vb W
  have HC : ∀ W, Hid (Calls Tryd.prog 24 #[bv r.vn r.vb, bv r.pn r.pb] W (Ba.IntPost W (Ba.cm r.vn r.vb r.pn r.pb))) := fun W => Ba.cmp_any r.vn r.vb r.pn r.pb W
  have HG : ∀ W, Hid (Calls Tryd.prog 26 #[bv r.vn r.vb] W (BoolPost W (gd r.vn r.vb))) := fun W => good_any r.vn r.vb W
  have HM : ∀ W, Nd W → Hid (Calls Tryd.prog 27 #[cv r.u r.s r.k r.h r.n r.t] W (BoolPost W (cM r))) := fun W g => YtdeaaeejkpghaaaDoor.may_any r.u r.s r.k r.h r.n r.t W g
  have HA : ∀ W, At.Sl W W.heap.size .i64 A r.xs → Hid (Calls Tryd.prog 28 #[av r.q A r.xs.length c, .int .i64 n] W (At.BoolPost W (At.my r.q r.xs n))) := fun W g => At.may_any r.q A c r.xs n W g
  have HW : ∀ W, Hid (Calls Tryd.prog 25 #[rv r A c] W (BoolPost W (wv r))) := fun W => without_any r A c W
  rw [kp] at HP
  clear kp
  rw [kv] at HV
  clear kv
  rw [kg] at HG
  clear kg
  rw [kc] at HM
  clear kc
  generalize Ba.cm r.vn r.vb r.pn r.pb = lm at *
  generalize At.my r.q r.xs n = la at *
  generalize wv r = lw at *
  have X0 : Rx (w.alloc (.cells (rcs r A c) 30)) (w.heap.size) r A c := by
    have h0 := rx_new w r A c
    exact h0
  have B0 : Below w.heap.size w (w.alloc (.cells (rcs r A c) 30)) := ((Below.refl _ _).alloc (Nat.le_refl _) _)
  have S0 := hs.to B0 B0.size
  go_enter Tryd.func11, Tryd.ntmps11
  go_wp2_with fail
  generalize (w.alloc (.cells (rcs r A c) 30)) = W0 at *
  have N0 := hN.on B0
  refine (HP _).out.mono ?_
  rintro e w1 ⟨rfl, b1⟩
  have B1 := B0.trans (b1.mono B0.size)
  have X1 := X0.on b1 X0.lt
  have S1 := S0.up b1
  clear B0 X0 S0
  have N1 := N0.on b1
  clear N0
  clear b1
  obtain ⟨x_0, x_1, x_2, x_3, x_4, x_5, x_6, x_7, x_8, x_9, x_10, x_11, x_12⟩ := id X1.rb
  go_wp2_with fail
  clear x_0 x_1 x_2 x_3 x_4 x_5 x_6 x_7 x_8 x_9 x_10 x_11 x_12
  refine (HV _).out.mono ?_
  rintro e w2 ⟨rfl, b2⟩
  have B2 := B1.trans (b2.mono B1.size)
  have X2 := X1.on b2 X1.lt
  have S2 := S1.up b2
  clear B1 X1 S1
  have N2 := N1.on b2
  clear N1
  clear b2
  obtain ⟨x_0, x_1, x_2, x_3, x_4, x_5, x_6, x_7, x_8, x_9, x_10, x_11, x_12⟩ := id X2.rb
  go_wp2_with fail
  clear x_0 x_1 x_2 x_3 x_4 x_5 x_6 x_7 x_8 x_9 x_10 x_11 x_12
  refine (HC _).out.mono ?_
  rintro e w3 ⟨rfl, b3⟩
  have B3 := B2.trans (b3.mono B2.size)
  have X3 := X2.on b3 X2.lt
  have S3 := S2.up b3
  clear B2 X2 S2
  have N3 := N2.on b3
  clear N2
  clear b3
  obtain ⟨x_0, x_1, x_2, x_3, x_4, x_5, x_6, x_7, x_8, x_9, x_10, x_11, x_12⟩ := id X3.rb
  go_wp2_with fail
  clear x_0 x_1 x_2 x_3 x_4 x_5 x_6 x_7 x_8 x_9 x_10 x_11 x_12
  refine (HG _).out.mono ?_
  rintro e w4 ⟨rfl, b4⟩
  have B4 := B3.trans (b4.mono B3.size)
  have X4 := X3.on b4 X3.lt
  have S4 := S3.up b4
  clear B3 X3 S3
  have N4 := N3.on b4
  clear N3
  clear b4
  obtain ⟨x_0, x_1, x_2, x_3, x_4, x_5, x_6, x_7, x_8, x_9, x_10, x_11, x_12⟩ := id X4.rb
  go_wp2_with fail
  clear x_0 x_1 x_2 x_3 x_4 x_5 x_6 x_7 x_8 x_9 x_10 x_11 x_12
  refine (HM _ N4).out.mono ?_
  rintro e w5 ⟨rfl, b5⟩
  have B5 := B4.trans (b5.mono B4.size)
  have X5 := X4.on b5 X4.lt
  have S5 := S4.up b5
  clear B4 X4 S4
  have N5 := N4.on b5
  clear N4
  clear b5
  obtain ⟨x_0, x_1, x_2, x_3, x_4, x_5, x_6, x_7, x_8, x_9, x_10, x_11, x_12⟩ := id X5.rb
  go_wp2
  go_ret
  exact ⟨rfl, B5⟩

set_option maxHeartbeats 1000000 in
theorem may_2a (r : Rd) (A : Option Addr) (c : Nat) (n : Int) (w : World) (hN : Nd w) (hs : At.Sl w w.heap.size .i64 A r.xs) (kp : Ba.my r.pn r.pb = true) (kv : Ba.my r.vn r.vb = true) (kg : gd r.vn r.vb = true) (kc : cM r = true) (hm : ¬ 0 < Ba.cm r.vn r.vb r.pn r.pb) (z0 : (r.st == 0) = false) (z1 : (r.st == 1) = false) (z2 : (r.st == 2) = true) : Calls Tryd.prog 11 #[rv r A c, .int .i64 n] w (BoolPost w (At.my r.q r.xs n)) := by
  have HP : ∀ W, Hid (Calls Tryd.prog 23 #[bv r.pn r.pb] W (Ba.BoolPost W (Ba.my r.pn r.pb))) := fun W => Ba.may_any r.pn r.pb W
  have HV : ∀ W, Hid (Calls Tryd.prog 23 #[bv r.vn r.vb] W (Ba.BoolPost W (Ba.my r.vn r.vb))) := fun W => Ba.may_any r.vn r.vb W
  have HC : ∀ W, Hid (Calls Tryd.prog 24 #[bv r.vn r.vb, bv r.pn r.pb] W (Ba.IntPost W (Ba.cm r.vn r.vb r.pn r.pb))) := fun W => Ba.cmp_any r.vn r.vb r.pn r.pb W
  have HG : ∀ W, Hid (Calls Tryd.prog 26 #[bv r.vn r.vb] W (BoolPost W (gd r.vn r.vb))) := fun W => good_any r.vn r.vb W
  have HM : ∀ W, Nd W → Hid (Calls Tryd.prog 27 #[cv r.u r.s r.k r.h r.n r.t] W (BoolPost W (cM r))) := fun W g => YtdeaaeejkpghaaaDoor.may_any r.u r.s r.k r.h r.n r.t W g
  have HA : ∀ W, At.Sl W W.heap.size .i64 A r.xs → Hid (Calls Tryd.prog 28 #[av r.q A r.xs.length c, .int .i64 n] W (At.BoolPost W (At.my r.q r.xs n))) := fun W g => At.may_any r.q A c r.xs n W g
  have HW : ∀ W, Hid (Calls Tryd.prog 25 #[rv r A c] W (BoolPost W (wv r))) := fun W => without_any r A c W
  rw [kp] at HP
  clear kp
  rw [kv] at HV
  clear kv
  rw [kg] at HG
  clear kg
  rw [kc] at HM
  clear kc
  generalize Ba.cm r.vn r.vb r.pn r.pb = lm at *
  generalize At.my r.q r.xs n = la at *
  generalize wv r = lw at *
  have X0 : Rx (w.alloc (.cells (rcs r A c) 30)) (w.heap.size) r A c := by
    have h0 := rx_new w r A c
    exact h0
  have B0 : Below w.heap.size w (w.alloc (.cells (rcs r A c) 30)) := ((Below.refl _ _).alloc (Nat.le_refl _) _)
  have S0 := hs.to B0 B0.size
  go_enter Tryd.func11, Tryd.ntmps11
  go_wp2_with fail
  generalize (w.alloc (.cells (rcs r A c) 30)) = W0 at *
  have N0 := hN.on B0
  refine (HP _).out.mono ?_
  rintro e w1 ⟨rfl, b1⟩
  have B1 := B0.trans (b1.mono B0.size)
  have X1 := X0.on b1 X0.lt
  have S1 := S0.up b1
  clear B0 X0 S0
  have N1 := N0.on b1
  clear N0
  clear b1
  obtain ⟨x_0, x_1, x_2, x_3, x_4, x_5, x_6, x_7, x_8, x_9, x_10, x_11, x_12⟩ := id X1.rb
  go_wp2_with fail
  clear x_0 x_1 x_2 x_3 x_4 x_5 x_6 x_7 x_8 x_9 x_10 x_11 x_12
  refine (HV _).out.mono ?_
  rintro e w2 ⟨rfl, b2⟩
  have B2 := B1.trans (b2.mono B1.size)
  have X2 := X1.on b2 X1.lt
  have S2 := S1.up b2
  clear B1 X1 S1
  have N2 := N1.on b2
  clear N1
  clear b2
  obtain ⟨x_0, x_1, x_2, x_3, x_4, x_5, x_6, x_7, x_8, x_9, x_10, x_11, x_12⟩ := id X2.rb
  go_wp2_with fail
  clear x_0 x_1 x_2 x_3 x_4 x_5 x_6 x_7 x_8 x_9 x_10 x_11 x_12
  refine (HC _).out.mono ?_
  rintro e w3 ⟨rfl, b3⟩
  have B3 := B2.trans (b3.mono B2.size)
  have X3 := X2.on b3 X2.lt
  have S3 := S2.up b3
  clear B2 X2 S2
  have N3 := N2.on b3
  clear N2
  clear b3
  obtain ⟨x_0, x_1, x_2, x_3, x_4, x_5, x_6, x_7, x_8, x_9, x_10, x_11, x_12⟩ := id X3.rb
  go_wp2_with fail
  clear x_0 x_1 x_2 x_3 x_4 x_5 x_6 x_7 x_8 x_9 x_10 x_11 x_12
  refine (HG _).out.mono ?_
  rintro e w4 ⟨rfl, b4⟩
  have B4 := B3.trans (b4.mono B3.size)
  have X4 := X3.on b4 X3.lt
  have S4 := S3.up b4
  clear B3 X3 S3
  have N4 := N3.on b4
  clear N3
  clear b4
  obtain ⟨x_0, x_1, x_2, x_3, x_4, x_5, x_6, x_7, x_8, x_9, x_10, x_11, x_12⟩ := id X4.rb
  go_wp2_with fail
  clear x_0 x_1 x_2 x_3 x_4 x_5 x_6 x_7 x_8 x_9 x_10 x_11 x_12
  refine (HM _ N4).out.mono ?_
  rintro e w5 ⟨rfl, b5⟩
  have B5 := B4.trans (b5.mono B4.size)
  have X5 := X4.on b5 X4.lt
  have S5 := S4.up b5
  clear B4 X4 S4
  have N5 := N4.on b5
  clear N4
  clear b5
  obtain ⟨x_0, x_1, x_2, x_3, x_4, x_5, x_6, x_7, x_8, x_9, x_10, x_11, x_12⟩ := id X5.rb
  go_wp2_with fail
  clear x_0 x_1 x_2 x_3 x_4 x_5 x_6 x_7 x_8 x_9 x_10 x_11 x_12
  refine (HA _ S5).out.mono ?_
  rintro e w6 ⟨rfl, b6⟩
  have B6 := B5.trans (b6.mono B5.size)
  have X6 := X5.on b6 X5.lt
  have S6 := S5.up b6
  clear B5 X5 S5
  have N6 := N5.on b6
  clear N5
  clear b6
  obtain ⟨x_0, x_1, x_2, x_3, x_4, x_5, x_6, x_7, x_8, x_9, x_10, x_11, x_12⟩ := id X6.rb
  go_wp2
  go_ret
  exact ⟨rfl, B6⟩

set_option maxHeartbeats 1000000 in
theorem may_3c (r : Rd) (A : Option Addr) (c : Nat) (n : Int) (w : World) (hN : Nd w) (hs : At.Sl w w.heap.size .i64 A r.xs) (kp : Ba.my r.pn r.pb = true) (kv : Ba.my r.vn r.vb = true) (kc : cM r = false) (hm : ¬ 0 < Ba.cm r.vn r.vb r.pn r.pb) (z0 : (r.st == 0) = false) (z1 : (r.st == 1) = false) (z2 : (r.st == 2) = false) (z3 : (r.st == 3) = true) : Calls Tryd.prog 11 #[rv r A c, .int .i64 n] w (BoolPost w (false)) := by
  have HP : ∀ W, Hid (Calls Tryd.prog 23 #[bv r.pn r.pb] W (Ba.BoolPost W (Ba.my r.pn r.pb))) := fun W => Ba.may_any r.pn r.pb W
  have HV : ∀ W, Hid (Calls Tryd.prog 23 #[bv r.vn r.vb] W (Ba.BoolPost W (Ba.my r.vn r.vb))) := fun W => Ba.may_any r.vn r.vb W
  have HC : ∀ W, Hid (Calls Tryd.prog 24 #[bv r.vn r.vb, bv r.pn r.pb] W (Ba.IntPost W (Ba.cm r.vn r.vb r.pn r.pb))) := fun W => Ba.cmp_any r.vn r.vb r.pn r.pb W
  have HG : ∀ W, Hid (Calls Tryd.prog 26 #[bv r.vn r.vb] W (BoolPost W (gd r.vn r.vb))) := fun W => good_any r.vn r.vb W
  have HM : ∀ W, Nd W → Hid (Calls Tryd.prog 27 #[cv r.u r.s r.k r.h r.n r.t] W (BoolPost W (cM r))) := fun W g => YtdeaaeejkpghaaaDoor.may_any r.u r.s r.k r.h r.n r.t W g
  have HA : ∀ W, At.Sl W W.heap.size .i64 A r.xs → Hid (Calls Tryd.prog 28 #[av r.q A r.xs.length c, .int .i64 n] W (At.BoolPost W (At.my r.q r.xs n))) := fun W g => At.may_any r.q A c r.xs n W g
  have HW : ∀ W, Hid (Calls Tryd.prog 25 #[rv r A c] W (BoolPost W (wv r))) := fun W => without_any r A c W
  rw [kp] at HP
  clear kp
  rw [kv] at HV
  clear kv
  rw [kc] at HM
  clear kc
  generalize Ba.cm r.vn r.vb r.pn r.pb = lm at *
  generalize gd r.vn r.vb = lg at *
  generalize At.my r.q r.xs n = la at *
  generalize wv r = lw at *
  have X0 : Rx (w.alloc (.cells (rcs r A c) 30)) (w.heap.size) r A c := by
    have h0 := rx_new w r A c
    exact h0
  have B0 : Below w.heap.size w (w.alloc (.cells (rcs r A c) 30)) := ((Below.refl _ _).alloc (Nat.le_refl _) _)
  have S0 := hs.to B0 B0.size
  go_enter Tryd.func11, Tryd.ntmps11
  go_wp2_with fail
  generalize (w.alloc (.cells (rcs r A c) 30)) = W0 at *
  have N0 := hN.on B0
  refine (HP _).out.mono ?_
  rintro e w1 ⟨rfl, b1⟩
  have B1 := B0.trans (b1.mono B0.size)
  have X1 := X0.on b1 X0.lt
  have S1 := S0.up b1
  clear B0 X0 S0
  have N1 := N0.on b1
  clear N0
  clear b1
  obtain ⟨x_0, x_1, x_2, x_3, x_4, x_5, x_6, x_7, x_8, x_9, x_10, x_11, x_12⟩ := id X1.rb
  go_wp2_with fail
  clear x_0 x_1 x_2 x_3 x_4 x_5 x_6 x_7 x_8 x_9 x_10 x_11 x_12
  refine (HV _).out.mono ?_
  rintro e w2 ⟨rfl, b2⟩
  have B2 := B1.trans (b2.mono B1.size)
  have X2 := X1.on b2 X1.lt
  have S2 := S1.up b2
  clear B1 X1 S1
  have N2 := N1.on b2
  clear N1
  clear b2
  obtain ⟨x_0, x_1, x_2, x_3, x_4, x_5, x_6, x_7, x_8, x_9, x_10, x_11, x_12⟩ := id X2.rb
  go_wp2_with fail
  clear x_0 x_1 x_2 x_3 x_4 x_5 x_6 x_7 x_8 x_9 x_10 x_11 x_12
  refine (HC _).out.mono ?_
  rintro e w3 ⟨rfl, b3⟩
  have B3 := B2.trans (b3.mono B2.size)
  have X3 := X2.on b3 X2.lt
  have S3 := S2.up b3
  clear B2 X2 S2
  have N3 := N2.on b3
  clear N2
  clear b3
  obtain ⟨x_0, x_1, x_2, x_3, x_4, x_5, x_6, x_7, x_8, x_9, x_10, x_11, x_12⟩ := id X3.rb
  go_wp2_with fail
  clear x_0 x_1 x_2 x_3 x_4 x_5 x_6 x_7 x_8 x_9 x_10 x_11 x_12
  refine (HM _ N3).out.mono ?_
  rintro e w4 ⟨rfl, b4⟩
  have B4 := B3.trans (b4.mono B3.size)
  have X4 := X3.on b4 X3.lt
  have S4 := S3.up b4
  clear B3 X3 S3
  have N4 := N3.on b4
  clear N3
  clear b4
  obtain ⟨x_0, x_1, x_2, x_3, x_4, x_5, x_6, x_7, x_8, x_9, x_10, x_11, x_12⟩ := id X4.rb
  go_wp2
  go_ret
  exact ⟨rfl, B4⟩

set_option maxHeartbeats 1000000 in
theorem may_3a (r : Rd) (A : Option Addr) (c : Nat) (n : Int) (w : World) (hN : Nd w) (hs : At.Sl w w.heap.size .i64 A r.xs) (kp : Ba.my r.pn r.pb = true) (kv : Ba.my r.vn r.vb = true) (kc : cM r = true) (hm : ¬ 0 < Ba.cm r.vn r.vb r.pn r.pb) (z0 : (r.st == 0) = false) (z1 : (r.st == 1) = false) (z2 : (r.st == 2) = false) (z3 : (r.st == 3) = true) : Calls Tryd.prog 11 #[rv r A c, .int .i64 n] w (BoolPost w (At.my r.q r.xs n)) := by
  have HP : ∀ W, Hid (Calls Tryd.prog 23 #[bv r.pn r.pb] W (Ba.BoolPost W (Ba.my r.pn r.pb))) := fun W => Ba.may_any r.pn r.pb W
  have HV : ∀ W, Hid (Calls Tryd.prog 23 #[bv r.vn r.vb] W (Ba.BoolPost W (Ba.my r.vn r.vb))) := fun W => Ba.may_any r.vn r.vb W
  have HC : ∀ W, Hid (Calls Tryd.prog 24 #[bv r.vn r.vb, bv r.pn r.pb] W (Ba.IntPost W (Ba.cm r.vn r.vb r.pn r.pb))) := fun W => Ba.cmp_any r.vn r.vb r.pn r.pb W
  have HG : ∀ W, Hid (Calls Tryd.prog 26 #[bv r.vn r.vb] W (BoolPost W (gd r.vn r.vb))) := fun W => good_any r.vn r.vb W
  have HM : ∀ W, Nd W → Hid (Calls Tryd.prog 27 #[cv r.u r.s r.k r.h r.n r.t] W (BoolPost W (cM r))) := fun W g => YtdeaaeejkpghaaaDoor.may_any r.u r.s r.k r.h r.n r.t W g
  have HA : ∀ W, At.Sl W W.heap.size .i64 A r.xs → Hid (Calls Tryd.prog 28 #[av r.q A r.xs.length c, .int .i64 n] W (At.BoolPost W (At.my r.q r.xs n))) := fun W g => At.may_any r.q A c r.xs n W g
  have HW : ∀ W, Hid (Calls Tryd.prog 25 #[rv r A c] W (BoolPost W (wv r))) := fun W => without_any r A c W
  rw [kp] at HP
  clear kp
  rw [kv] at HV
  clear kv
  rw [kc] at HM
  clear kc
  generalize Ba.cm r.vn r.vb r.pn r.pb = lm at *
  generalize gd r.vn r.vb = lg at *
  generalize At.my r.q r.xs n = la at *
  generalize wv r = lw at *
  have X0 : Rx (w.alloc (.cells (rcs r A c) 30)) (w.heap.size) r A c := by
    have h0 := rx_new w r A c
    exact h0
  have B0 : Below w.heap.size w (w.alloc (.cells (rcs r A c) 30)) := ((Below.refl _ _).alloc (Nat.le_refl _) _)
  have S0 := hs.to B0 B0.size
  go_enter Tryd.func11, Tryd.ntmps11
  go_wp2_with fail
  generalize (w.alloc (.cells (rcs r A c) 30)) = W0 at *
  have N0 := hN.on B0
  refine (HP _).out.mono ?_
  rintro e w1 ⟨rfl, b1⟩
  have B1 := B0.trans (b1.mono B0.size)
  have X1 := X0.on b1 X0.lt
  have S1 := S0.up b1
  clear B0 X0 S0
  have N1 := N0.on b1
  clear N0
  clear b1
  obtain ⟨x_0, x_1, x_2, x_3, x_4, x_5, x_6, x_7, x_8, x_9, x_10, x_11, x_12⟩ := id X1.rb
  go_wp2_with fail
  clear x_0 x_1 x_2 x_3 x_4 x_5 x_6 x_7 x_8 x_9 x_10 x_11 x_12
  refine (HV _).out.mono ?_
  rintro e w2 ⟨rfl, b2⟩
  have B2 := B1.trans (b2.mono B1.size)
  have X2 := X1.on b2 X1.lt
  have S2 := S1.up b2
  clear B1 X1 S1
  have N2 := N1.on b2
  clear N1
  clear b2
  obtain ⟨x_0, x_1, x_2, x_3, x_4, x_5, x_6, x_7, x_8, x_9, x_10, x_11, x_12⟩ := id X2.rb
  go_wp2_with fail
  clear x_0 x_1 x_2 x_3 x_4 x_5 x_6 x_7 x_8 x_9 x_10 x_11 x_12
  refine (HC _).out.mono ?_
  rintro e w3 ⟨rfl, b3⟩
  have B3 := B2.trans (b3.mono B2.size)
  have X3 := X2.on b3 X2.lt
  have S3 := S2.up b3
  clear B2 X2 S2
  have N3 := N2.on b3
  clear N2
  clear b3
  obtain ⟨x_0, x_1, x_2, x_3, x_4, x_5, x_6, x_7, x_8, x_9, x_10, x_11, x_12⟩ := id X3.rb
  go_wp2_with fail
  clear x_0 x_1 x_2 x_3 x_4 x_5 x_6 x_7 x_8 x_9 x_10 x_11 x_12
  refine (HM _ N3).out.mono ?_
  rintro e w4 ⟨rfl, b4⟩
  have B4 := B3.trans (b4.mono B3.size)
  have X4 := X3.on b4 X3.lt
  have S4 := S3.up b4
  clear B3 X3 S3
  have N4 := N3.on b4
  clear N3
  clear b4
  obtain ⟨x_0, x_1, x_2, x_3, x_4, x_5, x_6, x_7, x_8, x_9, x_10, x_11, x_12⟩ := id X4.rb
  go_wp2_with fail
  clear x_0 x_1 x_2 x_3 x_4 x_5 x_6 x_7 x_8 x_9 x_10 x_11 x_12
  refine (HA _ S4).out.mono ?_
  rintro e w5 ⟨rfl, b5⟩
  have B5 := B4.trans (b5.mono B4.size)
  have X5 := X4.on b5 X4.lt
  have S5 := S4.up b5
  clear B4 X4 S4
  have N5 := N4.on b5
  clear N4
  clear b5
  obtain ⟨x_0, x_1, x_2, x_3, x_4, x_5, x_6, x_7, x_8, x_9, x_10, x_11, x_12⟩ := id X5.rb
  go_wp2
  go_ret
  exact ⟨rfl, B5⟩

set_option maxHeartbeats 1000000 in
theorem may_x (r : Rd) (A : Option Addr) (c : Nat) (n : Int) (w : World) (hN : Nd w) (hs : At.Sl w w.heap.size .i64 A r.xs) (kp : Ba.my r.pn r.pb = true) (kv : Ba.my r.vn r.vb = true) (hm : ¬ 0 < Ba.cm r.vn r.vb r.pn r.pb) (z0 : (r.st == 0) = false) (z1 : (r.st == 1) = false) (z2 : (r.st == 2) = false) (z3 : (r.st == 3) = false) : Calls Tryd.prog 11 #[rv r A c, .int .i64 n] w (BoolPost w (false)) := by
  have HP : ∀ W, Hid (Calls Tryd.prog 23 #[bv r.pn r.pb] W (Ba.BoolPost W (Ba.my r.pn r.pb))) := fun W => Ba.may_any r.pn r.pb W
  have HV : ∀ W, Hid (Calls Tryd.prog 23 #[bv r.vn r.vb] W (Ba.BoolPost W (Ba.my r.vn r.vb))) := fun W => Ba.may_any r.vn r.vb W
  have HC : ∀ W, Hid (Calls Tryd.prog 24 #[bv r.vn r.vb, bv r.pn r.pb] W (Ba.IntPost W (Ba.cm r.vn r.vb r.pn r.pb))) := fun W => Ba.cmp_any r.vn r.vb r.pn r.pb W
  have HG : ∀ W, Hid (Calls Tryd.prog 26 #[bv r.vn r.vb] W (BoolPost W (gd r.vn r.vb))) := fun W => good_any r.vn r.vb W
  have HM : ∀ W, Nd W → Hid (Calls Tryd.prog 27 #[cv r.u r.s r.k r.h r.n r.t] W (BoolPost W (cM r))) := fun W g => YtdeaaeejkpghaaaDoor.may_any r.u r.s r.k r.h r.n r.t W g
  have HA : ∀ W, At.Sl W W.heap.size .i64 A r.xs → Hid (Calls Tryd.prog 28 #[av r.q A r.xs.length c, .int .i64 n] W (At.BoolPost W (At.my r.q r.xs n))) := fun W g => At.may_any r.q A c r.xs n W g
  have HW : ∀ W, Hid (Calls Tryd.prog 25 #[rv r A c] W (BoolPost W (wv r))) := fun W => without_any r A c W
  rw [kp] at HP
  clear kp
  rw [kv] at HV
  clear kv
  generalize Ba.cm r.vn r.vb r.pn r.pb = lm at *
  generalize gd r.vn r.vb = lg at *
  generalize At.my r.q r.xs n = la at *
  generalize cM r = lc at *
  generalize wv r = lw at *
  have X0 : Rx (w.alloc (.cells (rcs r A c) 30)) (w.heap.size) r A c := by
    have h0 := rx_new w r A c
    exact h0
  have B0 : Below w.heap.size w (w.alloc (.cells (rcs r A c) 30)) := ((Below.refl _ _).alloc (Nat.le_refl _) _)
  have S0 := hs.to B0 B0.size
  go_enter Tryd.func11, Tryd.ntmps11
  go_wp2_with fail
  generalize (w.alloc (.cells (rcs r A c) 30)) = W0 at *
  have N0 := hN.on B0
  refine (HP _).out.mono ?_
  rintro e w1 ⟨rfl, b1⟩
  have B1 := B0.trans (b1.mono B0.size)
  have X1 := X0.on b1 X0.lt
  have S1 := S0.up b1
  clear B0 X0 S0
  have N1 := N0.on b1
  clear N0
  clear b1
  obtain ⟨x_0, x_1, x_2, x_3, x_4, x_5, x_6, x_7, x_8, x_9, x_10, x_11, x_12⟩ := id X1.rb
  go_wp2_with fail
  clear x_0 x_1 x_2 x_3 x_4 x_5 x_6 x_7 x_8 x_9 x_10 x_11 x_12
  refine (HV _).out.mono ?_
  rintro e w2 ⟨rfl, b2⟩
  have B2 := B1.trans (b2.mono B1.size)
  have X2 := X1.on b2 X1.lt
  have S2 := S1.up b2
  clear B1 X1 S1
  have N2 := N1.on b2
  clear N1
  clear b2
  obtain ⟨x_0, x_1, x_2, x_3, x_4, x_5, x_6, x_7, x_8, x_9, x_10, x_11, x_12⟩ := id X2.rb
  go_wp2_with fail
  clear x_0 x_1 x_2 x_3 x_4 x_5 x_6 x_7 x_8 x_9 x_10 x_11 x_12
  refine (HC _).out.mono ?_
  rintro e w3 ⟨rfl, b3⟩
  have B3 := B2.trans (b3.mono B2.size)
  have X3 := X2.on b3 X2.lt
  have S3 := S2.up b3
  clear B2 X2 S2
  have N3 := N2.on b3
  clear N2
  clear b3
  obtain ⟨x_0, x_1, x_2, x_3, x_4, x_5, x_6, x_7, x_8, x_9, x_10, x_11, x_12⟩ := id X3.rb
  go_wp2
  go_ret
  exact ⟨rfl, B3⟩

theorem imay_any (r : Rd) (A : Option Addr) (c : Nat) (n : Int) (w : World) (hN : Nd w) (hs : At.Sl w w.heap.size .i64 A r.xs) : Calls Tryd.prog 11 #[rv r A c, .int .i64 n] w (BoolPost w (ym r n)) := by
  rcases kp : Ba.my r.pn r.pb with _ | _
  · have e : ym r n = false := by rw [ym, kp]; rfl
    rw [e]; exact may_a r A c n w hN hs kp
  rcases kv : Ba.my r.vn r.vb with _ | _
  · have e : ym r n = false := by rw [ym, kp, kv]; rfl
    rw [e]; exact may_b r A c n w hN hs kp kv
  by_cases hm : 0 < Ba.cm r.vn r.vb r.pn r.pb
  · have e : ym r n = false := by rw [ym, kp, kv, decide_eq_true hm]; rfl
    rw [e]; exact may_c r A c n w hN hs kp kv hm
  rcases z0 : (r.st == 0) with _ | _
  · rcases z1 : (r.st == 1) with _ | _
    · rcases z2 : (r.st == 2) with _ | _
      · rcases z3 : (r.st == 3) with _ | _
        · have e : ym r n = false := by rw [ym, kp, kv, decide_eq_false hm, z0, z1, z2, z3]; rfl
          rw [e]; exact may_x r A c n w hN hs kp kv hm z0 z1 z2 z3
        · rcases kc : cM r with _ | _
          · have e : ym r n = false := by rw [ym, kp, kv, decide_eq_false hm, z0, z1, z2, z3, kc]; rfl
            rw [e]; exact may_3c r A c n w hN hs kp kv kc hm z0 z1 z2 z3
          · have e : ym r n = At.my r.q r.xs n := by rw [ym, kp, kv, decide_eq_false hm, z0, z1, z2, z3, kc]; rfl
            rw [e]; exact may_3a r A c n w hN hs kp kv kc hm z0 z1 z2 z3
      · rcases kg : gd r.vn r.vb with _ | _
        · have e : ym r n = false := by rw [ym, kp, kv, decide_eq_false hm, z0, z1, z2, kg]; rfl
          rw [e]; exact may_2n r A c n w hN hs kp kv kg hm z0 z1 z2
        · rcases kc : cM r with _ | _
          · have e : ym r n = false := by rw [ym, kp, kv, decide_eq_false hm, z0, z1, z2, kg, kc]; rfl
            rw [e]; exact may_2c r A c n w hN hs kp kv kg kc hm z0 z1 z2
          · have e : ym r n = At.my r.q r.xs n := by rw [ym, kp, kv, decide_eq_false hm, z0, z1, z2, kg, kc]; rfl
            rw [e]; exact may_2a r A c n w hN hs kp kv kg kc hm z0 z1 z2
    · rcases kg : gd r.vn r.vb with _ | _
      · have e : ym r n = false := by rw [ym, kp, kv, decide_eq_false hm, z0, z1, kg]; rfl
        rw [e]; exact may_1n r A c n w hN hs kp kv kg hm z0 z1
      · rcases kc : cM r with _ | _
        · have e : ym r n = false := by rw [ym, kp, kv, decide_eq_false hm, z0, z1, kg, kc]; rfl
          rw [e]; exact may_1c r A c n w hN hs kp kv kg kc hm z0 z1
        · have e : ym r n = At.my r.q r.xs n := by rw [ym, kp, kv, decide_eq_false hm, z0, z1, kg, kc]; rfl
          rw [e]; exact may_1a r A c n w hN hs kp kv kg kc hm z0 z1
  · have e : ym r n = wv r := by rw [ym, kp, kv, decide_eq_false hm, z0]; rfl
    rw [e]; exact may_0 r A c n w hN hs kp kv hm z0

end Go.Proofs.YtdeaaeejkpghaaaDoor.In
