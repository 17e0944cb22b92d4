/-
  The walk of the document's May: which records may be. No conditions.
-/
import Derived.Test.YtdeaaeejkpghaaaDoorInImay
namespace Go.Proofs.YtdeaaeejkpghaaaDoor.In
open Go.RowKit
set_option linter.unusedVariables false
attribute [local go_sem ↓ high] Ba.eq23 Ba.guard23 Ba.neq23 Ba.guard23n eqc guardc


set_option maxHeartbeats 1000000 in
theorem rmay_a (r : Rd) (A : Option Addr) (c : Nat) (n : Int) (w : World) (hN : Nd w) (hs : At.Sl w w.heap.size .i64 A r.xs) (kp : Ba.my r.pn r.pb = false)  : Calls Tryd.prog 12 #[rv r A c, .int .i64 n] w (BoolPost w (false)) := by
  have HP : ∀ W, Hid (Calls Tryd.prog 29 #[bv r.pn r.pb] W (Ba.BoolPost W (Ba.my r.pn r.pb))) := fun W => Ba.rmay_any r.pn r.pb W
  have HV : ∀ W, Hid (Calls Tryd.prog 29 #[bv r.vn r.vb] W (Ba.BoolPost W (Ba.my r.vn r.vb))) := fun W => Ba.rmay_any r.vn r.vb W
  have HC : ∀ W, Hid (Calls Tryd.prog 30 #[bv r.vn r.vb, bv r.pn r.pb] W (Ba.IntPost W (Ba.cm r.vn r.vb r.pn r.pb))) := fun W => Ba.rcmp_any r.vn r.vb r.pn r.pb W
  have HG : ∀ W, Hid (Calls Tryd.prog 33 #[bv r.vn r.vb] W (BoolPost W (gd r.vn r.vb))) := fun W => rgood_any r.vn r.vb W
  have HM : ∀ W, Nd W → Hid (Calls Tryd.prog 31 #[cv r.u r.s r.k r.h r.n r.t] W (BoolPost W (cM r))) := fun W g => YtdeaaeejkpghaaaDoor.rmay_any r.u r.s r.k r.h r.n r.t W
  have HA : ∀ W, At.Sl W W.heap.size .i64 A r.xs → Hid (Calls Tryd.prog 32 #[av r.q A r.xs.length c, .int .i64 n] W (At.BoolPost W (At.my r.q r.xs n))) := fun W g => At.rmay_any r.q A c r.xs n W g
  rw [kp] at HP
  clear kp
  generalize Ba.my r.vn r.vb = lv at *
  generalize Ba.cm r.vn r.vb r.pn r.pb = lm at *
  generalize gd r.vn r.vb = lg at *
  generalize At.my r.q r.xs n = la at *
  generalize cM r = lc at *
  have X0 : Rx (w.alloc (.cells (rcs r A c) 30)) (w.heap.size) r A c := by
    have h0 := rx_new w r A c
    exact h0
  have B0 : Below w.heap.size w (w.alloc (.cells (rcs r A c) 30)) := ((Below.refl _ _).alloc (Nat.le_refl _) _)
  have S0 := hs.to B0 B0.size
  go_enter Tryd.func12, Tryd.ntmps12
  go_wp2_with fail
  generalize (w.alloc (.cells (rcs r A c) 30)) = W0 at *
  have N0 := hN.on B0
  refine (HP _).out.mono ?_
  rintro e w1 ⟨rfl, b1⟩
  have B1 := B0.trans (b1.mono B0.size)
  have X1 := X0.on b1 X0.lt
  have S1 := S0.up b1
  clear B0 X0 S0
  have N1 := N0.on b1
  clear N0
  clear b1
  obtain ⟨x_0, x_1, x_2, x_3, x_4, x_5, x_6, x_7, x_8, x_9, x_10, x_11, x_12⟩ := id X1.rb
  go_wp2_with fail
  clear x_0 x_1 x_2 x_3 x_4 x_5 x_6 x_7 x_8 x_9 x_10 x_11 x_12
  refine (HV _).out.mono ?_
  rintro e w2 ⟨rfl, b2⟩
  have B2 := B1.trans (b2.mono B1.size)
  have X2 := X1.on b2 X1.lt
  have S2 := S1.up b2
  clear B1 X1 S1
  have N2 := N1.on b2
  clear N1
  clear b2
  obtain ⟨x_0, x_1, x_2, x_3, x_4, x_5, x_6, x_7, x_8, x_9, x_10, x_11, x_12⟩ := id X2.rb
  go_wp2
  go_ret
  exact ⟨rfl, B2⟩

set_option maxHeartbeats 1000000 in
theorem rmay_b (r : Rd) (A : Option Addr) (c : Nat) (n : Int) (w : World) (hN : Nd w) (hs : At.Sl w w.heap.size .i64 A r.xs) (kp : Ba.my r.pn r.pb = true) (kv : Ba.my r.vn r.vb = false)  : Calls Tryd.prog 12 #[rv r A c, .int .i64 n] w (BoolPost w (false)) := by
  have HP : ∀ W, Hid (Calls Tryd.prog 29 #[bv r.pn r.pb] W (Ba.BoolPost W (Ba.my r.pn r.pb))) := fun W => Ba.rmay_any r.pn r.pb W
  have HV : ∀ W, Hid (Calls Tryd.prog 29 #[bv r.vn r.vb] W (Ba.BoolPost W (Ba.my r.vn r.vb))) := fun W => Ba.rmay_any r.vn r.vb W
  have HC : ∀ W, Hid (Calls Tryd.prog 30 #[bv r.vn r.vb, bv r.pn r.pb] W (Ba.IntPost W (Ba.cm r.vn r.vb r.pn r.pb))) := fun W => Ba.rcmp_any r.vn r.vb r.pn r.pb W
  have HG : ∀ W, Hid (Calls Tryd.prog 33 #[bv r.vn r.vb] W (BoolPost W (gd r.vn r.vb))) := fun W => rgood_any r.vn r.vb W
  have HM : ∀ W, Nd W → Hid (Calls Tryd.prog 31 #[cv r.u r.s r.k r.h r.n r.t] W (BoolPost W (cM r))) := fun W g => YtdeaaeejkpghaaaDoor.rmay_any r.u r.s r.k r.h r.n r.t W
  have HA : ∀ W, At.Sl W W.heap.size .i64 A r.xs → Hid (Calls Tryd.prog 32 #[av r.q A r.xs.length c, .int .i64 n] W (At.BoolPost W (At.my r.q r.xs n))) := fun W g => At.rmay_any r.q A c r.xs n W g
  rw [kp] at HP
  clear kp
  rw [kv] at HV
  clear kv
  generalize Ba.cm r.vn r.vb r.pn r.pb = lm at *
  generalize gd r.vn r.vb = lg at *
  generalize At.my r.q r.xs n = la at *
  generalize cM r = lc at *
  have X0 : Rx (w.alloc (.cells (rcs r A c) 30)) (w.heap.size) r A c := by
    have h0 := rx_new w r A c
    exact h0
  have B0 : Below w.heap.size w (w.alloc (.cells (rcs r A c) 30)) := ((Below.refl _ _).alloc (Nat.le_refl _) _)
  have S0 := hs.to B0 B0.size
  go_enter Tryd.func12, Tryd.ntmps12
  go_wp2_with fail
  generalize (w.alloc (.cells (rcs r A c) 30)) = W0 at *
  have N0 := hN.on B0
  refine (HP _).out.mono ?_
  rintro e w1 ⟨rfl, b1⟩
  have B1 := B0.trans (b1.mono B0.size)
  have X1 := X0.on b1 X0.lt
  have S1 := S0.up b1
  clear B0 X0 S0
  have N1 := N0.on b1
  clear N0
  clear b1
  obtain ⟨x_0, x_1, x_2, x_3, x_4, x_5, x_6, x_7, x_8, x_9, x_10, x_11, x_12⟩ := id X1.rb
  go_wp2_with fail
  clear x_0 x_1 x_2 x_3 x_4 x_5 x_6 x_7 x_8 x_9 x_10 x_11 x_12
  refine (HV _).out.mono ?_
  rintro e w2 ⟨rfl, b2⟩
  have B2 := B1.trans (b2.mono B1.size)
  have X2 := X1.on b2 X1.lt
  have S2 := S1.up b2
  clear B1 X1 S1
  have N2 := N1.on b2
  clear N1
  clear b2
  obtain ⟨x_0, x_1, x_2, x_3, x_4, x_5, x_6, x_7, x_8, x_9, x_10, x_11, x_12⟩ := id X2.rb
  go_wp2
  go_ret
  exact ⟨rfl, B2⟩

set_option maxHeartbeats 1000000 in
theorem rmay_c (r : Rd) (A : Option Addr) (c : Nat) (n : Int) (w : World) (hN : Nd w) (hs : At.Sl w w.heap.size .i64 A r.xs) (kp : Ba.my r.pn r.pb = true) (kv : Ba.my r.vn r.vb = true) (hm : 0 < Ba.cm r.vn r.vb r.pn r.pb) : Calls Tryd.prog 12 #[rv r A c, .int .i64 n] w (BoolPost w (false)) := by
  have HP : ∀ W, Hid (Calls Tryd.prog 29 #[bv r.pn r.pb] W (Ba.BoolPost W (Ba.my r.pn r.pb))) := fun W => Ba.rmay_any r.pn r.pb W
  have HV : ∀ W, Hid (Calls Tryd.prog 29 #[bv r.vn r.vb] W (Ba.BoolPost W (Ba.my r.vn r.vb))) := fun W => Ba.rmay_any r.vn r.vb W
  have HC : ∀ W, Hid (Calls Tryd.prog 30 #[bv r.vn r.vb, bv r.pn r.pb] W (Ba.IntPost W (Ba.cm r.vn r.vb r.pn r.pb))) := fun W => Ba.rcmp_any r.vn r.vb r.pn r.pb W
  have HG : ∀ W, Hid (Calls Tryd.prog 33 #[bv r.vn r.vb] W (BoolPost W (gd r.vn r.vb))) := fun W => rgood_any r.vn r.vb W
  have HM : ∀ W, Nd W → Hid (Calls Tryd.prog 31 #[cv r.u r.s r.k r.h r.n r.t] W (BoolPost W (cM r))) := fun W g => YtdeaaeejkpghaaaDoor.rmay_any r.u r.s r.k r.h r.n r.t W
  have HA : ∀ W, At.Sl W W.heap.size .i64 A r.xs → Hid (Calls Tryd.prog 32 #[av r.q A r.xs.length c, .int .i64 n] W (At.BoolPost W (At.my r.q r.xs n))) := fun W g => At.rmay_any r.q A c r.xs n W g
  rw [kp] at HP
  clear kp
  rw [kv] at HV
  clear kv
  generalize Ba.cm r.vn r.vb r.pn r.pb = lm at *
  generalize gd r.vn r.vb = lg at *
  generalize At.my r.q r.xs n = la at *
  generalize cM r = lc at *
  have X0 : Rx (w.alloc (.cells (rcs r A c) 30)) (w.heap.size) r A c := by
    have h0 := rx_new w r A c
    exact h0
  have B0 : Below w.heap.size w (w.alloc (.cells (rcs r A c) 30)) := ((Below.refl _ _).alloc (Nat.le_refl _) _)
  have S0 := hs.to B0 B0.size
  go_enter Tryd.func12, Tryd.ntmps12
  go_wp2_with fail
  generalize (w.alloc (.cells (rcs r A c) 30)) = W0 at *
  have N0 := hN.on B0
  refine (HP _).out.mono ?_
  rintro e w1 ⟨rfl, b1⟩
  have B1 := B0.trans (b1.mono B0.size)
  have X1 := X0.on b1 X0.lt
  have S1 := S0.up b1
  clear B0 X0 S0
  have N1 := N0.on b1
  clear N0
  clear b1
  obtain ⟨x_0, x_1, x_2, x_3, x_4, x_5, x_6, x_7, x_8, x_9, x_10, x_11, x_12⟩ := id X1.rb
  go_wp2_with fail
  clear x_0 x_1 x_2 x_3 x_4 x_5 x_6 x_7 x_8 x_9 x_10 x_11 x_12
  refine (HV _).out.mono ?_
  rintro e w2 ⟨rfl, b2⟩
  have B2 := B1.trans (b2.mono B1.size)
  have X2 := X1.on b2 X1.lt
  have S2 := S1.up b2
  clear B1 X1 S1
  have N2 := N1.on b2
  clear N1
  clear b2
  obtain ⟨x_0, x_1, x_2, x_3, x_4, x_5, x_6, x_7, x_8, x_9, x_10, x_11, x_12⟩ := id X2.rb
  go_wp2_with fail
  clear x_0 x_1 x_2 x_3 x_4 x_5 x_6 x_7 x_8 x_9 x_10 x_11 x_12
  refine (HC _).out.mono ?_
  rintro e w3 ⟨rfl, b3⟩
  have B3 := B2.trans (b3.mono B2.size)
  have X3 := X2.on b3 X2.lt
  have S3 := S2.up b3
  clear B2 X2 S2
  have N3 := N2.on b3
  clear N2
  clear b3
  obtain ⟨x_0, x_1, x_2, x_3, x_4, x_5, x_6, x_7, x_8, x_9, x_10, x_11, x_12⟩ := id X3.rb
  go_wp2
  go_ret
  exact ⟨rfl, B3⟩

set_option maxHeartbeats 1000000 in
theorem rmay_l (r : Rd) (A : Option Addr) (c : Nat) (n : Int) (w : World) (hN : Nd w) (hs : At.Sl w w.heap.size .i64 A r.xs) (kp : Ba.my r.pn r.pb = true) (kv : Ba.my r.vn r.vb = true) (hm : ¬ 0 < Ba.cm r.vn r.vb r.pn r.pb) (hl : r.st < 0) : Calls Tryd.prog 12 #[rv r A c, .int .i64 n] w (BoolPost w (false)) := by
  have HP : ∀ W, Hid (Calls Tryd.prog 29 #[bv r.pn r.pb] W (Ba.BoolPost W (Ba.my r.pn r.pb))) := fun W => Ba.rmay_any r.pn r.pb W
  have HV : ∀ W, Hid (Calls Tryd.prog 29 #[bv r.vn r.vb] W (Ba.BoolPost W (Ba.my r.vn r.vb))) := fun W => Ba.rmay_any r.vn r.vb W
  have HC : ∀ W, Hid (Calls Tryd.prog 30 #[bv r.vn r.vb, bv r.pn r.pb] W (Ba.IntPost W (Ba.cm r.vn r.vb r.pn r.pb))) := fun W => Ba.rcmp_any r.vn r.vb r.pn r.pb W
  have HG : ∀ W, Hid (Calls Tryd.prog 33 #[bv r.vn r.vb] W (BoolPost W (gd r.vn r.vb))) := fun W => rgood_any r.vn r.vb W
  have HM : ∀ W, Nd W → Hid (Calls Tryd.prog 31 #[cv r.u r.s r.k r.h r.n r.t] W (BoolPost W (cM r))) := fun W g => YtdeaaeejkpghaaaDoor.rmay_any r.u r.s r.k r.h r.n r.t W
  have HA : ∀ W, At.Sl W W.heap.size .i64 A r.xs → Hid (Calls Tryd.prog 32 #[av r.q A r.xs.length c, .int .i64 n] W (At.BoolPost W (At.my r.q r.xs n))) := fun W g => At.rmay_any r.q A c r.xs n W g
  rw [kp] at HP
  clear kp
  rw [kv] at HV
  clear kv
  generalize Ba.cm r.vn r.vb r.pn r.pb = lm at *
  generalize gd r.vn r.vb = lg at *
  generalize At.my r.q r.xs n = la at *
  generalize cM r = lc at *
  have X0 : Rx (w.alloc (.cells (rcs r A c) 30)) (w.heap.size) r A c := by
    have h0 := rx_new w r A c
    exact h0
  have B0 : Below w.heap.size w (w.alloc (.cells (rcs r A c) 30)) := ((Below.refl _ _).alloc (Nat.le_refl _) _)
  have S0 := hs.to B0 B0.size
  go_enter Tryd.func12, Tryd.ntmps12
  go_wp2_with fail
  generalize (w.alloc (.cells (rcs r A c) 30)) = W0 at *
  have N0 := hN.on B0
  refine (HP _).out.mono ?_
  rintro e w1 ⟨rfl, b1⟩
  have B1 := B0.trans (b1.mono B0.size)
  have X1 := X0.on b1 X0.lt
  have S1 := S0.up b1
  clear B0 X0 S0
  have N1 := N0.on b1
  clear N0
  clear b1
  obtain ⟨x_0, x_1, x_2, x_3, x_4, x_5, x_6, x_7, x_8, x_9, x_10, x_11, x_12⟩ := id X1.rb
  go_wp2_with fail
  clear x_0 x_1 x_2 x_3 x_4 x_5 x_6 x_7 x_8 x_9 x_10 x_11 x_12
  refine (HV _).out.mono ?_
  rintro e w2 ⟨rfl, b2⟩
  have B2 := B1.trans (b2.mono B1.size)
  have X2 := X1.on b2 X1.lt
  have S2 := S1.up b2
  clear B1 X1 S1
  have N2 := N1.on b2
  clear N1
  clear b2
  obtain ⟨x_0, x_1, x_2, x_3, x_4, x_5, x_6, x_7, x_8, x_9, x_10, x_11, x_12⟩ := id X2.rb
  go_wp2_with fail
  clear x_0 x_1 x_2 x_3 x_4 x_5 x_6 x_7 x_8 x_9 x_10 x_11 x_12
  refine (HC _).out.mono ?_
  rintro e w3 ⟨rfl, b3⟩
  have B3 := B2.trans (b3.mono B2.size)
  have X3 := X2.on b3 X2.lt
  have S3 := S2.up b3
  clear B2 X2 S2
  have N3 := N2.on b3
  clear N2
  clear b3
  obtain ⟨x_0, x_1, x_2, x_3, x_4, x_5, x_6, x_7, x_8, x_9, x_10, x_11, x_12⟩ := id X3.rb
  go_wp2
  go_ret
  exact ⟨rfl, B3⟩

set_option maxHeartbeats 1000000 in
theorem rmay_g (r : Rd) (A : Option Addr) (c : Nat) (n : Int) (w : World) (hN : Nd w) (hs : At.Sl w w.heap.size .i64 A r.xs) (kp : Ba.my r.pn r.pb = true) (kv : Ba.my r.vn r.vb = true) (hm : ¬ 0 < Ba.cm r.vn r.vb r.pn r.pb) (hl : ¬ r.st < 0) (h3 : 3 < r.st) : Calls Tryd.prog 12 #[rv r A c, .int .i64 n] w (BoolPost w (false)) := by
  have HP : ∀ W, Hid (Calls Tryd.prog 29 #[bv r.pn r.pb] W (Ba.BoolPost W (Ba.my r.pn r.pb))) := fun W => Ba.rmay_any r.pn r.pb W
  have HV : ∀ W, Hid (Calls Tryd.prog 29 #[bv r.vn r.vb] W (Ba.BoolPost W (Ba.my r.vn r.vb))) := fun W => Ba.rmay_any r.vn r.vb W
  have HC : ∀ W, Hid (Calls Tryd.prog 30 #[bv r.vn r.vb, bv r.pn r.pb] W (Ba.IntPost W (Ba.cm r.vn r.vb r.pn r.pb))) := fun W => Ba.rcmp_any r.vn r.vb r.pn r.pb W
  have HG : ∀ W, Hid (Calls Tryd.prog 33 #[bv r.vn r.vb] W (BoolPost W (gd r.vn r.vb))) := fun W => rgood_any r.vn r.vb W
  have HM : ∀ W, Nd W → Hid (Calls Tryd.prog 31 #[cv r.u r.s r.k r.h r.n r.t] W (BoolPost W (cM r))) := fun W g => YtdeaaeejkpghaaaDoor.rmay_any r.u r.s r.k r.h r.n r.t W
  have HA : ∀ W, At.Sl W W.heap.size .i64 A r.xs → Hid (Calls Tryd.prog 32 #[av r.q A r.xs.length c, .int .i64 n] W (At.BoolPost W (At.my r.q r.xs n))) := fun W g => At.rmay_any r.q A c r.xs n W g
  rw [kp] at HP
  clear kp
  rw [kv] at HV
  clear kv
  generalize Ba.cm r.vn r.vb r.pn r.pb = lm at *
  generalize gd r.vn r.vb = lg at *
  generalize At.my r.q r.xs n = la at *
  generalize cM r = lc at *
  have X0 : Rx (w.alloc (.cells (rcs r A c) 30)) (w.heap.size) r A c := by
    have h0 := rx_new w r A c
    exact h0
  have B0 : Below w.heap.size w (w.alloc (.cells (rcs r A c) 30)) := ((Below.refl _ _).alloc (Nat.le_refl _) _)
  have S0 := hs.to B0 B0.size
  go_enter Tryd.func12, Tryd.ntmps12
  go_wp2_with fail
  generalize (w.alloc (.cells (rcs r A c) 30)) = W0 at *
  have N0 := hN.on B0
  refine (HP _).out.mono ?_
  rintro e w1 ⟨rfl, b1⟩
  have B1 := B0.trans (b1.mono B0.size)
  have X1 := X0.on b1 X0.lt
  have S1 := S0.up b1
  clear B0 X0 S0
  have N1 := N0.on b1
  clear N0
  clear b1
  obtain ⟨x_0, x_1, x_2, x_3, x_4, x_5, x_6, x_7, x_8, x_9, x_10, x_11, x_12⟩ := id X1.rb
  go_wp2_with fail
  clear x_0 x_1 x_2 x_3 x_4 x_5 x_6 x_7 x_8 x_9 x_10 x_11 x_12
  refine (HV _).out.mono ?_
  rintro e w2 ⟨rfl, b2⟩
  have B2 := B1.trans (b2.mono B1.size)
  have X2 := X1.on b2 X1.lt
  have S2 := S1.up b2
  clear B1 X1 S1
  have N2 := N1.on b2
  clear N1
  clear b2
  obtain ⟨x_0, x_1, x_2, x_3, x_4, x_5, x_6, x_7, x_8, x_9, x_10, x_11, x_12⟩ := id X2.rb
  go_wp2_with fail
  clear x_0 x_1 x_2 x_3 x_4 x_5 x_6 x_7 x_8 x_9 x_10 x_11 x_12
  refine (HC _).out.mono ?_
  rintro e w3 ⟨rfl, b3⟩
  have B3 := B2.trans (b3.mono B2.size)
  have X3 := X2.on b3 X2.lt
  have S3 := S2.up b3
  clear B2 X2 S2
  have N3 := N2.on b3
  clear N2
  clear b3
  obtain ⟨x_0, x_1, x_2, x_3, x_4, x_5, x_6, x_7, x_8, x_9, x_10, x_11, x_12⟩ := id X3.rb
  go_wp2
  go_ret
  exact ⟨rfl, B3⟩

set_option maxHeartbeats 1000000 in
theorem rmay_01 (r : Rd) (A : Option Addr) (c : Nat) (n : Int) (w : World) (hN : Nd w) (hs : At.Sl w w.heap.size .i64 A r.xs) (kp : Ba.my r.pn r.pb = true) (kv : Ba.my r.vn r.vb = true) (hm : ¬ 0 < Ba.cm r.vn r.vb r.pn r.pb) (hl : ¬ r.st < 0) (h3 : ¬ 3 < r.st) (z0 : (r.st == 0) = true) (hv : ((r.vn == 0) && (r.vb == 0)) = false) : Calls Tryd.prog 12 #[rv r A c, .int .i64 n] w (BoolPost w (false)) := by
  have HP : ∀ W, Hid (Calls Tryd.prog 29 #[bv r.pn r.pb] W (Ba.BoolPost W (Ba.my r.pn r.pb))) := fun W => Ba.rmay_any r.pn r.pb W
  have HV : ∀ W, Hid (Calls Tryd.prog 29 #[bv r.vn r.vb] W (Ba.BoolPost W (Ba.my r.vn r.vb))) := fun W => Ba.rmay_any r.vn r.vb W
  have HC : ∀ W, Hid (Calls Tryd.prog 30 #[bv r.vn r.vb, bv r.pn r.pb] W (Ba.IntPost W (Ba.cm r.vn r.vb r.pn r.pb))) := fun W => Ba.rcmp_any r.vn r.vb r.pn r.pb W
  have HG : ∀ W, Hid (Calls Tryd.prog 33 #[bv r.vn r.vb] W (BoolPost W (gd r.vn r.vb))) := fun W => rgood_any r.vn r.vb W
  have HM : ∀ W, Nd W → Hid (Calls Tryd.prog 31 #[cv r.u r.s r.k r.h r.n r.t] W (BoolPost W (cM r))) := fun W g => YtdeaaeejkpghaaaDoor.rmay_any r.u r.s r.k r.h r.n r.t W
  have HA : ∀ W, At.Sl W W.heap.size .i64 A r.xs → Hid (Calls Tryd.prog 32 #[av r.q A r.xs.length c, .int .i64 n] W (At.BoolPost W (At.my r.q r.xs n))) := fun W g => At.rmay_any r.q A c r.xs n W g
  rw [kp] at HP
  clear kp
  rw [kv] at HV
  clear kv
  generalize Ba.cm r.vn r.vb r.pn r.pb = lm at *
  generalize gd r.vn r.vb = lg at *
  generalize At.my r.q r.xs n = la at *
  generalize cM r = lc at *
  have X0 : Rx (w.alloc (.cells (rcs r A c) 30)) (w.heap.size) r A c := by
    have h0 := rx_new w r A c
    exact h0
  have B0 : Below w.heap.size w (w.alloc (.cells (rcs r A c) 30)) := ((Below.refl _ _).alloc (Nat.le_refl _) _)
  have S0 := hs.to B0 B0.size
  go_enter Tryd.func12, Tryd.ntmps12
  go_wp2_with fail
  generalize (w.alloc (.cells (rcs r A c) 30)) = W0 at *
  have N0 := hN.on B0
  refine (HP _).out.mono ?_
  rintro e w1 ⟨rfl, b1⟩
  have B1 := B0.trans (b1.mono B0.size)
  have X1 := X0.on b1 X0.lt
  have S1 := S0.up b1
  clear B0 X0 S0
  have N1 := N0.on b1
  clear N0
  clear b1
  obtain ⟨x_0, x_1, x_2, x_3, x_4, x_5, x_6, x_7, x_8, x_9, x_10, x_11, x_12⟩ := id X1.rb
  go_wp2_with fail
  clear x_0 x_1 x_2 x_3 x_4 x_5 x_6 x_7 x_8 x_9 x_10 x_11 x_12
  refine (HV _).out.mono ?_
  rintro e w2 ⟨rfl, b2⟩
  have B2 := B1.trans (b2.mono B1.size)
  have X2 := X1.on b2 X1.lt
  have S2 := S1.up b2
  clear B1 X1 S1
  have N2 := N1.on b2
  clear N1
  clear b2
  obtain ⟨x_0, x_1, x_2, x_3, x_4, x_5, x_6, x_7, x_8, x_9, x_10, x_11, x_12⟩ := id X2.rb
  go_wp2_with fail
  clear x_0 x_1 x_2 x_3 x_4 x_5 x_6 x_7 x_8 x_9 x_10 x_11 x_12
  refine (HC _).out.mono ?_
  rintro e w3 ⟨rfl, b3⟩
  have B3 := B2.trans (b3.mono B2.size)
  have X3 := X2.on b3 X2.lt
  have S3 := S2.up b3
  clear B2 X2 S2
  have N3 := N2.on b3
  clear N2
  clear b3
  obtain ⟨x_0, x_1, x_2, x_3, x_4, x_5, x_6, x_7, x_8, x_9, x_10, x_11, x_12⟩ := id X3.rb
  go_wp2
  go_ret
  exact ⟨rfl, B3⟩

set_option maxHeartbeats 1000000 in
theorem rmay_02 (r : Rd) (A : Option Addr) (c : Nat) (n : Int) (w : World) (hN : Nd w) (hs : At.Sl w w.heap.size .i64 A r.xs) (kp : Ba.my r.pn r.pb = true) (kv : Ba.my r.vn r.vb = true) (hm : ¬ 0 < Ba.cm r.vn r.vb r.pn r.pb) (hl : ¬ r.st < 0) (h3 : ¬ 3 < r.st) (z0 : (r.st == 0) = true) (hv : ((r.vn == 0) && (r.vb == 0)) = true) (hz : ((r.u == 0) && (r.s == 0) && (r.k == 0) && (r.h == 0) && (r.n == 0) && decide (r.t = ⟨#[]⟩)) = false) : Calls Tryd.prog 12 #[rv r A c, .int .i64 n] w (BoolPost w (false)) := by
  have HP : ∀ W, Hid (Calls Tryd.prog 29 #[bv r.pn r.pb] W (Ba.BoolPost W (Ba.my r.pn r.pb))) := fun W => Ba.rmay_any r.pn r.pb W
  have HV : ∀ W, Hid (Calls Tryd.prog 29 #[bv r.vn r.vb] W (Ba.BoolPost W (Ba.my r.vn r.vb))) := fun W => Ba.rmay_any r.vn r.vb W
  have HC : ∀ W, Hid (Calls Tryd.prog 30 #[bv r.vn r.vb, bv r.pn r.pb] W (Ba.IntPost W (Ba.cm r.vn r.vb r.pn r.pb))) := fun W => Ba.rcmp_any r.vn r.vb r.pn r.pb W
  have HG : ∀ W, Hid (Calls Tryd.prog 33 #[bv r.vn r.vb] W (BoolPost W (gd r.vn r.vb))) := fun W => rgood_any r.vn r.vb W
  have HM : ∀ W, Nd W → Hid (Calls Tryd.prog 31 #[cv r.u r.s r.k r.h r.n r.t] W (BoolPost W (cM r))) := fun W g => YtdeaaeejkpghaaaDoor.rmay_any r.u r.s r.k r.h r.n r.t W
  have HA : ∀ W, At.Sl W W.heap.size .i64 A r.xs → Hid (Calls Tryd.prog 32 #[av r.q A r.xs.length c, .int .i64 n] W (At.BoolPost W (At.my r.q r.xs n))) := fun W g => At.rmay_any r.q A c r.xs n W g
  rw [kp] at HP
  clear kp
  rw [kv] at HV
  clear kv
  generalize Ba.cm r.vn r.vb r.pn r.pb = lm at *
  generalize gd r.vn r.vb = lg at *
  generalize At.my r.q r.xs n = la at *
  generalize cM r = lc at *
  have X0 : Rx (w.alloc (.cells (rcs r A c) 30)) (w.heap.size) r A c := by
    have h0 := rx_new w r A c
    exact h0
  have B0 : Below w.heap.size w (w.alloc (.cells (rcs r A c) 30)) := ((Below.refl _ _).alloc (Nat.le_refl _) _)
  have S0 := hs.to B0 B0.size
  go_enter Tryd.func12, Tryd.ntmps12
  go_wp2_with fail
  generalize (w.alloc (.cells (rcs r A c) 30)) = W0 at *
  have N0 := hN.on B0
  refine (HP _).out.mono ?_
  rintro e w1 ⟨rfl, b1⟩
  have B1 := B0.trans (b1.mono B0.size)
  have X1 := X0.on b1 X0.lt
  have S1 := S0.up b1
  clear B0 X0 S0
  have N1 := N0.on b1
  clear N0
  clear b1
  obtain ⟨x_0, x_1, x_2, x_3, x_4, x_5, x_6, x_7, x_8, x_9, x_10, x_11, x_12⟩ := id X1.rb
  go_wp2_with fail
  clear x_0 x_1 x_2 x_3 x_4 x_5 x_6 x_7 x_8 x_9 x_10 x_11 x_12
  refine (HV _).out.mono ?_
  rintro e w2 ⟨rfl, b2⟩
  have B2 := B1.trans (b2.mono B1.size)
  have X2 := X1.on b2 X1.lt
  have S2 := S1.up b2
  clear B1 X1 S1
  have N2 := N1.on b2
  clear N1
  clear b2
  obtain ⟨x_0, x_1, x_2, x_3, x_4, x_5, x_6, x_7, x_8, x_9, x_10, x_11, x_12⟩ := id X2.rb
  go_wp2_with fail
  clear x_0 x_1 x_2 x_3 x_4 x_5 x_6 x_7 x_8 x_9 x_10 x_11 x_12
  refine (HC _).out.mono ?_
  rintro e w3 ⟨rfl, b3⟩
  have B3 := B2.trans (b3.mono B2.size)
  have X3 := X2.on b3 X2.lt
  have S3 := S2.up b3
  clear B2 X2 S2
  have N3 := N2.on b3
  clear N2
  clear b3
  obtain ⟨x_0, x_1, x_2, x_3, x_4, x_5, x_6, x_7, x_8, x_9, x_10, x_11, x_12⟩ := id X3.rb
  go_wp2
  go_ret
  exact ⟨rfl, B3⟩

set_option maxHeartbeats 1000000 in
theorem rmay_03 (r : Rd) (A : Option Addr) (c : Nat) (n : Int) (w : World) (hN : Nd w) (hs : At.Sl w w.heap.size .i64 A r.xs) (kp : Ba.my r.pn r.pb = true) (kv : Ba.my r.vn r.vb = true) (hm : ¬ 0 < Ba.cm r.vn r.vb r.pn r.pb) (hl : ¬ r.st < 0) (h3 : ¬ 3 < r.st) (z0 : (r.st == 0) = true) (hv : ((r.vn == 0) && (r.vb == 0)) = true) (hz : ((r.u == 0) && (r.s == 0) && (r.k == 0) && (r.h == 0) && (r.n == 0) && decide (r.t = ⟨#[]⟩)) = true) (hq : (r.q == 0) = false) : Calls Tryd.prog 12 #[rv r A c, .int .i64 n] w (BoolPost w (false)) := by
  have HP : ∀ W, Hid (Calls Tryd.prog 29 #[bv r.pn r.pb] W (Ba.BoolPost W (Ba.my r.pn r.pb))) := fun W => Ba.rmay_any r.pn r.pb W
  have HV : ∀ W, Hid (Calls Tryd.prog 29 #[bv r.vn r.vb] W (Ba.BoolPost W (Ba.my r.vn r.vb))) := fun W => Ba.rmay_any r.vn r.vb W
  have HC : ∀ W, Hid (Calls Tryd.prog 30 #[bv r.vn r.vb, bv r.pn r.pb] W (Ba.IntPost W (Ba.cm r.vn r.vb r.pn r.pb))) := fun W => Ba.rcmp_any r.vn r.vb r.pn r.pb W
  have HG : ∀ W, Hid (Calls Tryd.prog 33 #[bv r.vn r.vb] W (BoolPost W (gd r.vn r.vb))) := fun W => rgood_any r.vn r.vb W
  have HM : ∀ W, Nd W → Hid (Calls Tryd.prog 31 #[cv r.u r.s r.k r.h r.n r.t] W (BoolPost W (cM r))) := fun W g => YtdeaaeejkpghaaaDoor.rmay_any r.u r.s r.k r.h r.n r.t W
  have HA : ∀ W, At.Sl W W.heap.size .i64 A r.xs → Hid (Calls Tryd.prog 32 #[av r.q A r.xs.length c, .int .i64 n] W (At.BoolPost W (At.my r.q r.xs n))) := fun W g => At.rmay_any r.q A c r.xs n W g
  rw [kp] at HP
  clear kp
  rw [kv] at HV
  clear kv
  generalize Ba.cm r.vn r.vb r.pn r.pb = lm at *
  generalize gd r.vn r.vb = lg at *
  generalize At.my r.q r.xs n = la at *
  generalize cM r = lc at *
  have X0 : Rx (w.alloc (.cells (rcs r A c) 30)) (w.heap.size) r A c := by
    have h0 := rx_new w r A c
    exact h0
  have B0 : Below w.heap.size w (w.alloc (.cells (rcs r A c) 30)) := ((Below.refl _ _).alloc (Nat.le_refl _) _)
  have S0 := hs.to B0 B0.size
  go_enter Tryd.func12, Tryd.ntmps12
  go_wp2_with fail
  generalize (w.alloc (.cells (rcs r A c) 30)) = W0 at *
  have N0 := hN.on B0
  refine (HP _).out.mono ?_
  rintro e w1 ⟨rfl, b1⟩
  have B1 := B0.trans (b1.mono B0.size)
  have X1 := X0.on b1 X0.lt
  have S1 := S0.up b1
  clear B0 X0 S0
  have N1 := N0.on b1
  clear N0
  clear b1
  obtain ⟨x_0, x_1, x_2, x_3, x_4, x_5, x_6, x_7, x_8, x_9, x_10, x_11, x_12⟩ := id X1.rb
  go_wp2_with fail
  clear x_0 x_1 x_2 x_3 x_4 x_5 x_6 x_7 x_8 x_9 x_10 x_11 x_12
  refine (HV _).out.mono ?_
  rintro e w2 ⟨rfl, b2⟩
  have B2 := B1.trans (b2.mono B1.size)
  have X2 := X1.on b2 X1.lt
  have S2 := S1.up b2
  clear B1 X1 S1
  have N2 := N1.on b2
  clear N1
  clear b2
  obtain ⟨x_0, x_1, x_2, x_3, x_4, x_5, x_6, x_7, x_8, x_9, x_10, x_11, x_12⟩ := id X2.rb
  go_wp2_with fail
  clear x_0 x_1 x_2 x_3 x_4 x_5 x_6 x_7 x_8 x_9 x_10 x_11 x_12
  refine (HC _).out.mono ?_
  rintro e w3 ⟨rfl, b3⟩
  have B3 := B2.trans (b3.mono B2.size)
  have X3 := X2.on b3 X2.lt
  have S3 := S2.up b3
  clear B2 X2 S2
  have N3 := N2.on b3
  clear N2
  clear b3
  obtain ⟨x_0, x_1, x_2, x_3, x_4, x_5, x_6, x_7, x_8, x_9, x_10, x_11, x_12⟩ := id X3.rb
  go_wp2
  go_ret
  exact ⟨rfl, B3⟩

set_option maxHeartbeats 1000000 in
theorem rmay_04 (r : Rd) (A : Option Addr) (c : Nat) (n : Int) (w : World) (hN : Nd w) (hs : At.Sl w w.heap.size .i64 A r.xs) (kp : Ba.my r.pn r.pb = true) (kv : Ba.my r.vn r.vb = true) (hm : ¬ 0 < Ba.cm r.vn r.vb r.pn r.pb) (hl : ¬ r.st < 0) (h3 : ¬ 3 < r.st) (z0 : (r.st == 0) = true) (hv : ((r.vn == 0) && (r.vb == 0)) = true) (hz : ((r.u == 0) && (r.s == 0) && (r.k == 0) && (r.h == 0) && (r.n == 0) && decide (r.t = ⟨#[]⟩)) = true) (hq : (r.q == 0) = true) : Calls Tryd.prog 12 #[rv r A c, .int .i64 n] w (BoolPost w (((r.xs.length : Int) == 0))) := by
  have HP : ∀ W, Hid (Calls Tryd.prog 29 #[bv r.pn r.pb] W (Ba.BoolPost W (Ba.my r.pn r.pb))) := fun W => Ba.rmay_any r.pn r.pb W
  have HV : ∀ W, Hid (Calls Tryd.prog 29 #[bv r.vn r.vb] W (Ba.BoolPost W (Ba.my r.vn r.vb))) := fun W => Ba.rmay_any r.vn r.vb W
  have HC : ∀ W, Hid (Calls Tryd.prog 30 #[bv r.vn r.vb, bv r.pn r.pb] W (Ba.IntPost W (Ba.cm r.vn r.vb r.pn r.pb))) := fun W => Ba.rcmp_any r.vn r.vb r.pn r.pb W
  have HG : ∀ W, Hid (Calls Tryd.prog 33 #[bv r.vn r.vb] W (BoolPost W (gd r.vn r.vb))) := fun W => rgood_any r.vn r.vb W
  have HM : ∀ W, Nd W → Hid (Calls Tryd.prog 31 #[cv r.u r.s r.k r.h r.n r.t] W (BoolPost W (cM r))) := fun W g => YtdeaaeejkpghaaaDoor.rmay_any r.u r.s r.k r.h r.n r.t W
  have HA : ∀ W, At.Sl W W.heap.size .i64 A r.xs → Hid (Calls Tryd.prog 32 #[av r.q A r.xs.length c, .int .i64 n] W (At.BoolPost W (At.my r.q r.xs n))) := fun W g => At.rmay_any r.q A c r.xs n W g
  rw [kp] at HP
  clear kp
  rw [kv] at HV
  clear kv
  generalize Ba.cm r.vn r.vb r.pn r.pb = lm at *
  generalize gd r.vn r.vb = lg at *
  generalize At.my r.q r.xs n = la at *
  generalize cM r = lc at *
  have X0 : Rx (w.alloc (.cells (rcs r A c) 30)) (w.heap.size) r A c := by
    have h0 := rx_new w r A c
    exact h0
  have B0 : Below w.heap.size w (w.alloc (.cells (rcs r A c) 30)) := ((Below.refl _ _).alloc (Nat.le_refl _) _)
  have S0 := hs.to B0 B0.size
  go_enter Tryd.func12, Tryd.ntmps12
  go_wp2_with fail
  generalize (w.alloc (.cells (rcs r A c) 30)) = W0 at *
  have N0 := hN.on B0
  refine (HP _).out.mono ?_
  rintro e w1 ⟨rfl, b1⟩
  have B1 := B0.trans (b1.mono B0.size)
  have X1 := X0.on b1 X0.lt
  have S1 := S0.up b1
  clear B0 X0 S0
  have N1 := N0.on b1
  clear N0
  clear b1
  obtain ⟨x_0, x_1, x_2, x_3, x_4, x_5, x_6, x_7, x_8, x_9, x_10, x_11, x_12⟩ := id X1.rb
  go_wp2_with fail
  clear x_0 x_1 x_2 x_3 x_4 x_5 x_6 x_7 x_8 x_9 x_10 x_11 x_12
  refine (HV _).out.mono ?_
  rintro e w2 ⟨rfl, b2⟩
  have B2 := B1.trans (b2.mono B1.size)
  have X2 := X1.on b2 X1.lt
  have S2 := S1.up b2
  clear B1 X1 S1
  have N2 := N1.on b2
  clear N1
  clear b2
  obtain ⟨x_0, x_1, x_2, x_3, x_4, x_5, x_6, x_7, x_8, x_9, x_10, x_11, x_12⟩ := id X2.rb
  go_wp2_with fail
  clear x_0 x_1 x_2 x_3 x_4 x_5 x_6 x_7 x_8 x_9 x_10 x_11 x_12
  refine (HC _).out.mono ?_
  rintro e w3 ⟨rfl, b3⟩
  have B3 := B2.trans (b3.mono B2.size)
  have X3 := X2.on b3 X2.lt
  have S3 := S2.up b3
  clear B2 X2 S2
  have N3 := N2.on b3
  clear N2
  clear b3
  obtain ⟨x_0, x_1, x_2, x_3, x_4, x_5, x_6, x_7, x_8, x_9, x_10, x_11, x_12⟩ := id X3.rb
  go_wp2
  go_ret
  exact ⟨rfl, B3⟩

set_option maxHeartbeats 1000000 in
theorem rmay_1 (r : Rd) (A : Option Addr) (c : Nat) (n : Int) (w : World) (hN : Nd w) (hs : At.Sl w w.heap.size .i64 A r.xs) (kp : Ba.my r.pn r.pb = true) (kv : Ba.my r.vn r.vb = true) (kc : cM r = false) (hm : ¬ 0 < Ba.cm r.vn r.vb r.pn r.pb) (hl : ¬ r.st < 0) (h3 : ¬ 3 < r.st) (z0 : (r.st == 0) = false) : Calls Tryd.prog 12 #[rv r A c, .int .i64 n] w (BoolPost w (false)) := by
  have HP : ∀ W, Hid (Calls Tryd.prog 29 #[bv r.pn r.pb] W (Ba.BoolPost W (Ba.my r.pn r.pb))) := fun W => Ba.rmay_any r.pn r.pb W
  have HV : ∀ W, Hid (Calls Tryd.prog 29 #[bv r.vn r.vb] W (Ba.BoolPost W (Ba.my r.vn r.vb))) := fun W => Ba.rmay_any r.vn r.vb W
  have HC : ∀ W, Hid (Calls Tryd.prog 30 #[bv r.vn r.vb, bv r.pn r.pb] W (Ba.IntPost W (Ba.cm r.vn r.vb r.pn r.pb))) := fun W => Ba.rcmp_any r.vn r.vb r.pn r.pb W
  have HG : ∀ W, Hid (Calls Tryd.prog 33 #[bv r.vn r.vb] W (BoolPost W (gd r.vn r.vb))) := fun W => rgood_any r.vn r.vb W
  have HM : ∀ W, Nd W → Hid (Calls Tryd.prog 31 #[cv r.u r.s r.k r.h r.n r.t] W (BoolPost W (cM r))) := fun W g => YtdeaaeejkpghaaaDoor.rmay_any r.u r.s r.k r.h r.n r.t W
  have HA : ∀ W, At.Sl W W.heap.size .i64 A r.xs → Hid (Calls Tryd.prog 32 #[av r.q A r.xs.length c, .int .i64 n] W (At.BoolPost W (At.my r.q r.xs n))) := fun W g => At.rmay_any r.q A c r.xs n W g
  rw [kp] at HP
  clear kp
  rw [kv] at HV
  clear kv
  rw [kc] at HM
  clear kc
  generalize Ba.cm r.vn r.vb r.pn r.pb = lm at *
  generalize gd r.vn r.vb = lg at *
  generalize At.my r.q r.xs n = la at *
  have X0 : Rx (w.alloc (.cells (rcs r A c) 30)) (w.heap.size) r A c := by
    have h0 := rx_new w r A c
    exact h0
  have B0 : Below w.heap.size w (w.alloc (.cells (rcs r A c) 30)) := ((Below.refl _ _).alloc (Nat.le_refl _) _)
  have S0 := hs.to B0 B0.size
  go_enter Tryd.func12, Tryd.ntmps12
  go_wp2_with fail
  generalize (w.alloc (.cells (rcs r A c) 30)) = W0 at *
  have N0 := hN.on B0
  refine (HP _).out.mono ?_
  rintro e w1 ⟨rfl, b1⟩
  have B1 := B0.trans (b1.mono B0.size)
  have X1 := X0.on b1 X0.lt
  have S1 := S0.up b1
  clear B0 X0 S0
  have N1 := N0.on b1
  clear N0
  clear b1
  obtain ⟨x_0, x_1, x_2, x_3, x_4, x_5, x_6, x_7, x_8, x_9, x_10, x_11, x_12⟩ := id X1.rb
  go_wp2_with fail
  clear x_0 x_1 x_2 x_3 x_4 x_5 x_6 x_7 x_8 x_9 x_10 x_11 x_12
  refine (HV _).out.mono ?_
  rintro e w2 ⟨rfl, b2⟩
  have B2 := B1.trans (b2.mono B1.size)
  have X2 := X1.on b2 X1.lt
  have S2 := S1.up b2
  clear B1 X1 S1
  have N2 := N1.on b2
  clear N1
  clear b2
  obtain ⟨x_0, x_1, x_2, x_3, x_4, x_5, x_6, x_7, x_8, x_9, x_10, x_11, x_12⟩ := id X2.rb
  go_wp2_with fail
  clear x_0 x_1 x_2 x_3 x_4 x_5 x_6 x_7 x_8 x_9 x_10 x_11 x_12
  refine (HC _).out.mono ?_
  rintro e w3 ⟨rfl, b3⟩
  have B3 := B2.trans (b3.mono B2.size)
  have X3 := X2.on b3 X2.lt
  have S3 := S2.up b3
  clear B2 X2 S2
  have N3 := N2.on b3
  clear N2
  clear b3
  obtain ⟨x_0, x_1, x_2, x_3, x_4, x_5, x_6, x_7, x_8, x_9, x_10, x_11, x_12⟩ := id X3.rb
  go_wp2_with fail
  clear x_0 x_1 x_2 x_3 x_4 x_5 x_6 x_7 x_8 x_9 x_10 x_11 x_12
  refine (HM _ N3).out.mono ?_
  rintro e w4 ⟨rfl, b4⟩
  have B4 := B3.trans (b4.mono B3.size)
  have X4 := X3.on b4 X3.lt
  have S4 := S3.up b4
  clear B3 X3 S3
  have N4 := N3.on b4
  clear N3
  clear b4
  obtain ⟨x_0, x_1, x_2, x_3, x_4, x_5, x_6, x_7, x_8, x_9, x_10, x_11, x_12⟩ := id X4.rb
  go_wp2_with fail
  clear x_0 x_1 x_2 x_3 x_4 x_5 x_6 x_7 x_8 x_9 x_10 x_11 x_12
  refine (HA _ S4).out.mono ?_
  rintro e w5 ⟨rfl, b5⟩
  have B5 := B4.trans (b5.mono B4.size)
  have X5 := X4.on b5 X4.lt
  have S5 := S4.up b5
  clear B4 X4 S4
  have N5 := N4.on b5
  clear N4
  clear b5
  obtain ⟨x_0, x_1, x_2, x_3, x_4, x_5, x_6, x_7, x_8, x_9, x_10, x_11, x_12⟩ := id X5.rb
  go_wp2_with fail
  clear x_0 x_1 x_2 x_3 x_4 x_5 x_6 x_7 x_8 x_9 x_10 x_11 x_12
  refine (HG _).out.mono ?_
  rintro e w6 ⟨rfl, b6⟩
  have B6 := B5.trans (b6.mono B5.size)
  have X6 := X5.on b6 X5.lt
  have S6 := S5.up b6
  clear B5 X5 S5
  have N6 := N5.on b6
  clear N5
  clear b6
  obtain ⟨x_0, x_1, x_2, x_3, x_4, x_5, x_6, x_7, x_8, x_9, x_10, x_11, x_12⟩ := id X6.rb
  go_wp2
  go_ret
  exact ⟨rfl, B6⟩

set_option maxHeartbeats 1000000 in
theorem rmay_2 (r : Rd) (A : Option Addr) (c : Nat) (n : Int) (w : World) (hN : Nd w) (hs : At.Sl w w.heap.size .i64 A r.xs) (kp : Ba.my r.pn r.pb = true) (kv : Ba.my r.vn r.vb = true) (kc : cM r = true) (ka : At.my r.q r.xs n = false) (hm : ¬ 0 < Ba.cm r.vn r.vb r.pn r.pb) (hl : ¬ r.st < 0) (h3 : ¬ 3 < r.st) (z0 : (r.st == 0) = false) : Calls Tryd.prog 12 #[rv r A c, .int .i64 n] w (BoolPost w (false)) := by
  have HP : ∀ W, Hid (Calls Tryd.prog 29 #[bv r.pn r.pb] W (Ba.BoolPost W (Ba.my r.pn r.pb))) := fun W => Ba.rmay_any r.pn r.pb W
  have HV : ∀ W, Hid (Calls Tryd.prog 29 #[bv r.vn r.vb] W (Ba.BoolPost W (Ba.my r.vn r.vb))) := fun W => Ba.rmay_any r.vn r.vb W
  have HC : ∀ W, Hid (Calls Tryd.prog 30 #[bv r.vn r.vb, bv r.pn r.pb] W (Ba.IntPost W (Ba.cm r.vn r.vb r.pn r.pb))) := fun W => Ba.rcmp_any r.vn r.vb r.pn r.pb W
  have HG : ∀ W, Hid (Calls Tryd.prog 33 #[bv r.vn r.vb] W (BoolPost W (gd r.vn r.vb))) := fun W => rgood_any r.vn r.vb W
  have HM : ∀ W, Nd W → Hid (Calls Tryd.prog 31 #[cv r.u r.s r.k r.h r.n r.t] W (BoolPost W (cM r))) := fun W g => YtdeaaeejkpghaaaDoor.rmay_any r.u r.s r.k r.h r.n r.t W
  have HA : ∀ W, At.Sl W W.heap.size .i64 A r.xs → Hid (Calls Tryd.prog 32 #[av r.q A r.xs.length c, .int .i64 n] W (At.BoolPost W (At.my r.q r.xs n))) := fun W g => At.rmay_any r.q A c r.xs n W g
  rw [kp] at HP
  clear kp
  rw [kv] at HV
  clear kv
  rw [kc] at HM
  clear kc
  rw [ka] at HA
  clear ka
  generalize Ba.cm r.vn r.vb r.pn r.pb = lm at *
  generalize gd r.vn r.vb = lg at *
  have X0 : Rx (w.alloc (.cells (rcs r A c) 30)) (w.heap.size) r A c := by
    have h0 := rx_new w r A c
    exact h0
  have B0 : Below w.heap.size w (w.alloc (.cells (rcs r A c) 30)) := ((Below.refl _ _).alloc (Nat.le_refl _) _)
  have S0 := hs.to B0 B0.size
  go_enter Tryd.func12, Tryd.ntmps12
  go_wp2_with fail
  generalize (w.alloc (.cells (rcs r A c) 30)) = W0 at *
  have N0 := hN.on B0
  refine (HP _).out.mono ?_
  rintro e w1 ⟨rfl, b1⟩
  have B1 := B0.trans (b1.mono B0.size)
  have X1 := X0.on b1 X0.lt
  have S1 := S0.up b1
  clear B0 X0 S0
  have N1 := N0.on b1
  clear N0
  clear b1
  obtain ⟨x_0, x_1, x_2, x_3, x_4, x_5, x_6, x_7, x_8, x_9, x_10, x_11, x_12⟩ := id X1.rb
  go_wp2_with fail
  clear x_0 x_1 x_2 x_3 x_4 x_5 x_6 x_7 x_8 x_9 x_10 x_11 x_12
  refine (HV _).out.mono ?_
  rintro e w2 ⟨rfl, b2⟩
  have B2 := B1.trans (b2.mono B1.size)
  have X2 := X1.on b2 X1.lt
  have S2 := S1.up b2
  clear B1 X1 S1
  have N2 := N1.on b2
  clear N1
  clear b2
  obtain ⟨x_0, x_1, x_2, x_3, x_4, x_5, x_6, x_7, x_8, x_9, x_10, x_11, x_12⟩ := id X2.rb
  go_wp2_with fail
  clear x_0 x_1 x_2 x_3 x_4 x_5 x_6 x_7 x_8 x_9 x_10 x_11 x_12
  refine (HC _).out.mono ?_
  rintro e w3 ⟨rfl, b3⟩
  have B3 := B2.trans (b3.mono B2.size)
  have X3 := X2.on b3 X2.lt
  have S3 := S2.up b3
  clear B2 X2 S2
  have N3 := N2.on b3
  clear N2
  clear b3
  obtain ⟨x_0, x_1, x_2, x_3, x_4, x_5, x_6, x_7, x_8, x_9, x_10, x_11, x_12⟩ := id X3.rb
  go_wp2_with fail
  clear x_0 x_1 x_2 x_3 x_4 x_5 x_6 x_7 x_8 x_9 x_10 x_11 x_12
  refine (HM _ N3).out.mono ?_
  rintro e w4 ⟨rfl, b4⟩
  have B4 := B3.trans (b4.mono B3.size)
  have X4 := X3.on b4 X3.lt
  have S4 := S3.up b4
  clear B3 X3 S3
  have N4 := N3.on b4
  clear N3
  clear b4
  obtain ⟨x_0, x_1, x_2, x_3, x_4, x_5, x_6, x_7, x_8, x_9, x_10, x_11, x_12⟩ := id X4.rb
  go_wp2_with fail
  clear x_0 x_1 x_2 x_3 x_4 x_5 x_6 x_7 x_8 x_9 x_10 x_11 x_12
  refine (HA _ S4).out.mono ?_
  rintro e w5 ⟨rfl, b5⟩
  have B5 := B4.trans (b5.mono B4.size)
  have X5 := X4.on b5 X4.lt
  have S5 := S4.up b5
  clear B4 X4 S4
  have N5 := N4.on b5
  clear N4
  clear b5
  obtain ⟨x_0, x_1, x_2, x_3, x_4, x_5, x_6, x_7, x_8, x_9, x_10, x_11, x_12⟩ := id X5.rb
  go_wp2_with fail
  clear x_0 x_1 x_2 x_3 x_4 x_5 x_6 x_7 x_8 x_9 x_10 x_11 x_12
  refine (HG _).out.mono ?_
  rintro e w6 ⟨rfl, b6⟩
  have B6 := B5.trans (b6.mono B5.size)
  have X6 := X5.on b6 X5.lt
  have S6 := S5.up b6
  clear B5 X5 S5
  have N6 := N5.on b6
  clear N5
  clear b6
  obtain ⟨x_0, x_1, x_2, x_3, x_4, x_5, x_6, x_7, x_8, x_9, x_10, x_11, x_12⟩ := id X6.rb
  go_wp2
  go_ret
  exact ⟨rfl, B6⟩

set_option maxHeartbeats 1000000 in
theorem rmay_3 (r : Rd) (A : Option Addr) (c : Nat) (n : Int) (w : World) (hN : Nd w) (hs : At.Sl w w.heap.size .i64 A r.xs) (kp : Ba.my r.pn r.pb = true) (kv : Ba.my r.vn r.vb = true) (kc : cM r = true) (ka : At.my r.q r.xs n = true) (kg : gd r.vn r.vb = true) (hm : ¬ 0 < Ba.cm r.vn r.vb r.pn r.pb) (hl : ¬ r.st < 0) (h3 : ¬ 3 < r.st) (z0 : (r.st == 0) = false) : Calls Tryd.prog 12 #[rv r A c, .int .i64 n] w (BoolPost w (true)) := by
  have HP : ∀ W, Hid (Calls Tryd.prog 29 #[bv r.pn r.pb] W (Ba.BoolPost W (Ba.my r.pn r.pb))) := fun W => Ba.rmay_any r.pn r.pb W
  have HV : ∀ W, Hid (Calls Tryd.prog 29 #[bv r.vn r.vb] W (Ba.BoolPost W (Ba.my r.vn r.vb))) := fun W => Ba.rmay_any r.vn r.vb W
  have HC : ∀ W, Hid (Calls Tryd.prog 30 #[bv r.vn r.vb, bv r.pn r.pb] W (Ba.IntPost W (Ba.cm r.vn r.vb r.pn r.pb))) := fun W => Ba.rcmp_any r.vn r.vb r.pn r.pb W
  have HG : ∀ W, Hid (Calls Tryd.prog 33 #[bv r.vn r.vb] W (BoolPost W (gd r.vn r.vb))) := fun W => rgood_any r.vn r.vb W
  have HM : ∀ W, Nd W → Hid (Calls Tryd.prog 31 #[cv r.u r.s r.k r.h r.n r.t] W (BoolPost W (cM r))) := fun W g => YtdeaaeejkpghaaaDoor.rmay_any r.u r.s r.k r.h r.n r.t W
  have HA : ∀ W, At.Sl W W.heap.size .i64 A r.xs → Hid (Calls Tryd.prog 32 #[av r.q A r.xs.length c, .int .i64 n] W (At.BoolPost W (At.my r.q r.xs n))) := fun W g => At.rmay_any r.q A c r.xs n W g
  rw [kp] at HP
  clear kp
  rw [kv] at HV
  clear kv
  rw [kc] at HM
  clear kc
  rw [ka] at HA
  clear ka
  rw [kg] at HG
  clear kg
  generalize Ba.cm r.vn r.vb r.pn r.pb = lm at *
  have X0 : Rx (w.alloc (.cells (rcs r A c) 30)) (w.heap.size) r A c := by
    have h0 := rx_new w r A c
    exact h0
  have B0 : Below w.heap.size w (w.alloc (.cells (rcs r A c) 30)) := ((Below.refl _ _).alloc (Nat.le_refl _) _)
  have S0 := hs.to B0 B0.size
  go_enter Tryd.func12, Tryd.ntmps12
  go_wp2_with fail
  generalize (w.alloc (.cells (rcs r A c) 30)) = W0 at *
  have N0 := hN.on B0
  refine (HP _).out.mono ?_
  rintro e w1 ⟨rfl, b1⟩
  have B1 := B0.trans (b1.mono B0.size)
  have X1 := X0.on b1 X0.lt
  have S1 := S0.up b1
  clear B0 X0 S0
  have N1 := N0.on b1
  clear N0
  clear b1
  obtain ⟨x_0, x_1, x_2, x_3, x_4, x_5, x_6, x_7, x_8, x_9, x_10, x_11, x_12⟩ := id X1.rb
  go_wp2_with fail
  clear x_0 x_1 x_2 x_3 x_4 x_5 x_6 x_7 x_8 x_9 x_10 x_11 x_12
  refine (HV _).out.mono ?_
  rintro e w2 ⟨rfl, b2⟩
  have B2 := B1.trans (b2.mono B1.size)
  have X2 := X1.on b2 X1.lt
  have S2 := S1.up b2
  clear B1 X1 S1
  have N2 := N1.on b2
  clear N1
  clear b2
  obtain ⟨x_0, x_1, x_2, x_3, x_4, x_5, x_6, x_7, x_8, x_9, x_10, x_11, x_12⟩ := id X2.rb
  go_wp2_with fail
  clear x_0 x_1 x_2 x_3 x_4 x_5 x_6 x_7 x_8 x_9 x_10 x_11 x_12
  refine (HC _).out.mono ?_
  rintro e w3 ⟨rfl, b3⟩
  have B3 := B2.trans (b3.mono B2.size)
  have X3 := X2.on b3 X2.lt
  have S3 := S2.up b3
  clear B2 X2 S2
  have N3 := N2.on b3
  clear N2
  clear b3
  obtain ⟨x_0, x_1, x_2, x_3, x_4, x_5, x_6, x_7, x_8, x_9, x_10, x_11, x_12⟩ := id X3.rb
  go_wp2_with fail
  clear x_0 x_1 x_2 x_3 x_4 x_5 x_6 x_7 x_8 x_9 x_10 x_11 x_12
  refine (HM _ N3).out.mono ?_
  rintro e w4 ⟨rfl, b4⟩
  have B4 := B3.trans (b4.mono B3.size)
  have X4 := X3.on b4 X3.lt
  have S4 := S3.up b4
  clear B3 X3 S3
  have N4 := N3.on b4
  clear N3
  clear b4
  obtain ⟨x_0, x_1, x_2, x_3, x_4, x_5, x_6, x_7, x_8, x_9, x_10, x_11, x_12⟩ := id X4.rb
  go_wp2_with fail
  clear x_0 x_1 x_2 x_3 x_4 x_5 x_6 x_7 x_8 x_9 x_10 x_11 x_12
  refine (HA _ S4).out.mono ?_
  rintro e w5 ⟨rfl, b5⟩
  have B5 := B4.trans (b5.mono B4.size)
  have X5 := X4.on b5 X4.lt
  have S5 := S4.up b5
  clear B4 X4 S4
  have N5 := N4.on b5
  clear N4
  clear b5
  obtain ⟨x_0, x_1, x_2, x_3, x_4, x_5, x_6, x_7, x_8, x_9, x_10, x_11, x_12⟩ := id X5.rb
  go_wp2_with fail
  clear x_0 x_1 x_2 x_3 x_4 x_5 x_6 x_7 x_8 x_9 x_10 x_11 x_12
  refine (HG _).out.mono ?_
  rintro e w6 ⟨rfl, b6⟩
  have B6 := B5.trans (b6.mono B5.size)
  have X6 := X5.on b6 X5.lt
  have S6 := S5.up b6
  clear B5 X5 S5
  have N6 := N5.on b6
  clear N5
  clear b6
  obtain ⟨x_0, x_1, x_2, x_3, x_4, x_5, x_6, x_7, x_8, x_9, x_10, x_11, x_12⟩ := id X6.rb
  go_wp2
  go_ret
  exact ⟨rfl, B6⟩

set_option maxHeartbeats 1000000 in
theorem rmay_4 (r : Rd) (A : Option Addr) (c : Nat) (n : Int) (w : World) (hN : Nd w) (hs : At.Sl w w.heap.size .i64 A r.xs) (kp : Ba.my r.pn r.pb = true) (kv : Ba.my r.vn r.vb = true) (kc : cM r = true) (ka : At.my r.q r.xs n = true) (kg : gd r.vn r.vb = false) (hm : ¬ 0 < Ba.cm r.vn r.vb r.pn r.pb) (hl : ¬ r.st < 0) (h3 : ¬ 3 < r.st) (z0 : (r.st == 0) = false) : Calls Tryd.prog 12 #[rv r A c, .int .i64 n] w (BoolPost w (r.st == 3)) := by
  have HP : ∀ W, Hid (Calls Tryd.prog 29 #[bv r.pn r.pb] W (Ba.BoolPost W (Ba.my r.pn r.pb))) := fun W => Ba.rmay_any r.pn r.pb W
  have HV : ∀ W, Hid (Calls Tryd.prog 29 #[bv r.vn r.vb] W (Ba.BoolPost W (Ba.my r.vn r.vb))) := fun W => Ba.rmay_any r.vn r.vb W
  have HC : ∀ W, Hid (Calls Tryd.prog 30 #[bv r.vn r.vb, bv r.pn r.pb] W (Ba.IntPost W (Ba.cm r.vn r.vb r.pn r.pb))) := fun W => Ba.rcmp_any r.vn r.vb r.pn r.pb W
  have HG : ∀ W, Hid (Calls Tryd.prog 33 #[bv r.vn r.vb] W (BoolPost W (gd r.vn r.vb))) := fun W => rgood_any r.vn r.vb W
  have HM : ∀ W, Nd W → Hid (Calls Tryd.prog 31 #[cv r.u r.s r.k r.h r.n r.t] W (BoolPost W (cM r))) := fun W g => YtdeaaeejkpghaaaDoor.rmay_any r.u r.s r.k r.h r.n r.t W
  have HA : ∀ W, At.Sl W W.heap.size .i64 A r.xs → Hid (Calls Tryd.prog 32 #[av r.q A r.xs.length c, .int .i64 n] W (At.BoolPost W (At.my r.q r.xs n))) := fun W g => At.rmay_any r.q A c r.xs n W g
  rw [kp] at HP
  clear kp
  rw [kv] at HV
  clear kv
  rw [kc] at HM
  clear kc
  rw [ka] at HA
  clear ka
  rw [kg] at HG
  clear kg
  generalize Ba.cm r.vn r.vb r.pn r.pb = lm at *
  have X0 : Rx (w.alloc (.cells (rcs r A c) 30)) (w.heap.size) r A c := by
    have h0 := rx_new w r A c
    exact h0
  have B0 : Below w.heap.size w (w.alloc (.cells (rcs r A c) 30)) := ((Below.refl _ _).alloc (Nat.le_refl _) _)
  have S0 := hs.to B0 B0.size
  go_enter Tryd.func12, Tryd.ntmps12
  go_wp2_with fail
  generalize (w.alloc (.cells (rcs r A c) 30)) = W0 at *
  have N0 := hN.on B0
  refine (HP _).out.mono ?_
  rintro e w1 ⟨rfl, b1⟩
  have B1 := B0.trans (b1.mono B0.size)
  have X1 := X0.on b1 X0.lt
  have S1 := S0.up b1
  clear B0 X0 S0
  have N1 := N0.on b1
  clear N0
  clear b1
  obtain ⟨x_0, x_1, x_2, x_3, x_4, x_5, x_6, x_7, x_8, x_9, x_10, x_11, x_12⟩ := id X1.rb
  go_wp2_with fail
  clear x_0 x_1 x_2 x_3 x_4 x_5 x_6 x_7 x_8 x_9 x_10 x_11 x_12
  refine (HV _).out.mono ?_
  rintro e w2 ⟨rfl, b2⟩
  have B2 := B1.trans (b2.mono B1.size)
  have X2 := X1.on b2 X1.lt
  have S2 := S1.up b2
  clear B1 X1 S1
  have N2 := N1.on b2
  clear N1
  clear b2
  obtain ⟨x_0, x_1, x_2, x_3, x_4, x_5, x_6, x_7, x_8, x_9, x_10, x_11, x_12⟩ := id X2.rb
  go_wp2_with fail
  clear x_0 x_1 x_2 x_3 x_4 x_5 x_6 x_7 x_8 x_9 x_10 x_11 x_12
  refine (HC _).out.mono ?_
  rintro e w3 ⟨rfl, b3⟩
  have B3 := B2.trans (b3.mono B2.size)
  have X3 := X2.on b3 X2.lt
  have S3 := S2.up b3
  clear B2 X2 S2
  have N3 := N2.on b3
  clear N2
  clear b3
  obtain ⟨x_0, x_1, x_2, x_3, x_4, x_5, x_6, x_7, x_8, x_9, x_10, x_11, x_12⟩ := id X3.rb
  go_wp2_with fail
  clear x_0 x_1 x_2 x_3 x_4 x_5 x_6 x_7 x_8 x_9 x_10 x_11 x_12
  refine (HM _ N3).out.mono ?_
  rintro e w4 ⟨rfl, b4⟩
  have B4 := B3.trans (b4.mono B3.size)
  have X4 := X3.on b4 X3.lt
  have S4 := S3.up b4
  clear B3 X3 S3
  have N4 := N3.on b4
  clear N3
  clear b4
  obtain ⟨x_0, x_1, x_2, x_3, x_4, x_5, x_6, x_7, x_8, x_9, x_10, x_11, x_12⟩ := id X4.rb
  go_wp2_with fail
  clear x_0 x_1 x_2 x_3 x_4 x_5 x_6 x_7 x_8 x_9 x_10 x_11 x_12
  refine (HA _ S4).out.mono ?_
  rintro e w5 ⟨rfl, b5⟩
  have B5 := B4.trans (b5.mono B4.size)
  have X5 := X4.on b5 X4.lt
  have S5 := S4.up b5
  clear B4 X4 S4
  have N5 := N4.on b5
  clear N4
  clear b5
  obtain ⟨x_0, x_1, x_2, x_3, x_4, x_5, x_6, x_7, x_8, x_9, x_10, x_11, x_12⟩ := id X5.rb
  go_wp2_with fail
  clear x_0 x_1 x_2 x_3 x_4 x_5 x_6 x_7 x_8 x_9 x_10 x_11 x_12
  refine (HG _).out.mono ?_
  rintro e w6 ⟨rfl, b6⟩
  have B6 := B5.trans (b6.mono B5.size)
  have X6 := X5.on b6 X5.lt
  have S6 := S5.up b6
  clear B5 X5 S5
  have N6 := N5.on b6
  clear N5
  clear b6
  obtain ⟨x_0, x_1, x_2, x_3, x_4, x_5, x_6, x_7, x_8, x_9, x_10, x_11, x_12⟩ := id X6.rb
  go_wp2
  go_ret
  exact ⟨rfl, B6⟩

theorem ym_else {r : Rd} {n : Int} (kp : Ba.my r.pn r.pb = true) (kv : Ba.my r.vn r.vb = true) (hm : ¬ 0 < Ba.cm r.vn r.vb r.pn r.pb) (hl : ¬ r.st < 0) (h3 : ¬ 3 < r.st) (z0 : (r.st == 0) = false) : ym r n = (cM r && At.my r.q r.xs n && (gd r.vn r.vb || (r.st == 3))) := by
  have z0' : ¬ r.st = 0 := by simpa using z0
  rw [ym, kp, kv, decide_eq_false hm]
  have : r.st = 1 ∨ r.st = 2 ∨ r.st = 3 := by omega
  rcases this with e | e | e <;> rw [e] <;> cases gd r.vn r.vb <;> cases cM r <;> cases At.my r.q r.xs n <;> rfl

theorem rmay9_any (r : Rd) (A : Option Addr) (c : Nat) (n : Int) (w : World) (hN : Nd w) (hs : At.Sl w w.heap.size .i64 A r.xs) : Calls Tryd.prog 12 #[rv r A c, .int .i64 n] w (BoolPost w (ym r n)) := by
  rcases kp : Ba.my r.pn r.pb with _ | _
  · have e : ym r n = false := by rw [ym, kp]; rfl
    rw [e]; exact rmay_a r A c n w hN hs kp
  rcases kv : Ba.my r.vn r.vb with _ | _
  · have e : ym r n = false := by rw [ym, kp, kv]; rfl
    rw [e]; exact rmay_b r A c n w hN hs kp kv
  by_cases hm : 0 < Ba.cm r.vn r.vb r.pn r.pb
  · have e : ym r n = false := by rw [ym, kp, kv, decide_eq_true hm]; rfl
    rw [e]; exact rmay_c r A c n w hN hs kp kv hm
  by_cases hl : r.st < 0
  · have e : ym r n = false := by
      have y0 : (r.st == 0) = false := by rw [beq_eq_false_iff_ne]; omega
      have y1 : (r.st == 1) = false := by rw [beq_eq_false_iff_ne]; omega
      have y2 : (r.st == 2) = false := by rw [beq_eq_false_iff_ne]; omega
      have y3 : (r.st == 3) = false := by rw [beq_eq_false_iff_ne]; omega
      rw [ym, kp, kv, decide_eq_false hm, y0, y1, y2, y3]; rfl
    rw [e]; exact rmay_l r A c n w hN hs kp kv hm hl
  by_cases h3 : 3 < r.st
  · have e : ym r n = false := by
      have y0 : (r.st == 0) = false := by rw [beq_eq_false_iff_ne]; omega
      have y1 : (r.st == 1) = false := by rw [beq_eq_false_iff_ne]; omega
      have y2 : (r.st == 2) = false := by rw [beq_eq_false_iff_ne]; omega
      have y3 : (r.st == 3) = false := by rw [beq_eq_false_iff_ne]; omega
      rw [ym, kp, kv, decide_eq_false hm, y0, y1, y2, y3]; rfl
    rw [e]; exact rmay_g r A c n w hN hs kp kv hm hl h3
  rcases z0 : (r.st == 0) with _ | _
  · rw [ym_else kp kv hm hl h3 z0]
    rcases kc : cM r with _ | _
    · exact rmay_1 r A c n w hN hs kp kv kc hm hl h3 z0
    · rcases ka : At.my r.q r.xs n with _ | _
      · exact rmay_2 r A c n w hN hs kp kv kc ka hm hl h3 z0
      · rcases kg : gd r.vn r.vb with _ | _
        · exact rmay_4 r A c n w hN hs kp kv kc ka kg hm hl h3 z0
        · exact rmay_3 r A c n w hN hs kp kv kc ka kg hm hl h3 z0
  · have e0 : ym r n = wv r := by rw [ym, kp, kv, decide_eq_false hm, z0]; rfl
    rcases hv : ((r.vn == 0) && (r.vb == 0)) with _ | _
    · have e : wv r = false := by rw [wv, hv]; rfl
      rw [e0, e]; exact rmay_01 r A c n w hN hs kp kv hm hl h3 z0 hv
    · rcases hz : wz r with _ | _
      · have e : wv r = false := by rw [wv, hv, hz]; rfl
        rw [e0, e]; exact rmay_02 r A c n w hN hs kp kv hm hl h3 z0 hv hz
      · rcases hq : (r.q == 0) with _ | _
        · have e : wv r = false := by rw [wv, hv, hz, hq]; rfl
          rw [e0, e]; exact rmay_03 r A c n w hN hs kp kv hm hl h3 z0 hv hz hq
        · have e : wv r = ((r.xs.length : Int) == 0) := by rw [wv, hv, hz, hq]; rfl
          rw [e0, e]; exact rmay_04 r A c n w hN hs kp kv hm hl h3 z0 hv hz hq

end Go.Proofs.YtdeaaeejkpghaaaDoor.In
